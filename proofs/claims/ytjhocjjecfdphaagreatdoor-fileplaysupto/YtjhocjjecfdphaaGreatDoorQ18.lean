import Derived.Test.YtjhocjjecfdphaaGreatDoorQ17
import Derived.Great.BuildSlice
namespace Go.Proofs.YtjhocjjecfdphaaGreatDoor
set_option linter.unusedVariables false
set_option linter.unusedSimpArgs false
set_option maxRecDepth 100000
set_option maxHeartbeats 4000000
section
open Go.RowKit
attribute [local go_sem ↓] Go.wp_at_zero Go.wp_at_succ
theorem infoEm : (Tryz.prog.info? 143).map (fun i => (i.zero.map fun z => z.cells.size, i.size, i.bytes)) = some (some 5, 5, 56) := by kernel_rfl
theorem infoE : ∃ i z, Tryz.prog.info? 143 = some i ∧ i.zero = some z ∧ z.cells.size = 5 ∧ i.size = 5 ∧ i.bytes = 56 := by
 have h := infoEm
 cases hq : Tryz.prog.info? 143 with
 | none => rw [hq] at h; cases h
 | some i =>
   rw [hq] at h
   simp only [Option.map_some, Option.some.injEq, Prod.mk.injEq] at h
   obtain ⟨h1, h2, h3⟩ := h
   cases hz : i.zero with
   | none => rw [hz] at h1; cases h1
   | some z =>
     rw [hz] at h1
     exact ⟨i, z, rfl, hz, by simpa using h1, h2, h3⟩
theorem sizeE : (Tryz.prog.info? 143).map (·.size) = some 5 := by kernel_rfl
theorem slice_e (ks : List Value) (hk : ks.length = 5) (w : World) :
   (Instr.buildSlice 132 1 #[(0, .agg ks.toArray)]).run Tryz.prog w = .ok (.slice (some ⟨w.heap.size, 0, none⟩) 1 1) (w.alloc (.cells ks.toArray 143)) := by
 obtain ⟨i, z, hi, hz, hzc, hs, hb⟩ := infoE
 exact run_buildSlice w 132 143 1 _ ks.toArray i z Tryz.underlying132 hi hz (by rw [hs]; decide) (by rw [hs]; decide) (by rw [hs]; exact fill_one 5 _ ks hk (by simp))
theorem wpList_sliceE {w : World} {ops : Array Oper} {rest : List Oper} {o : Oper} {a : Act} {Q : Exit → Act → World → Prop} (hg : o.guard = none) (x : Operand) (ho : o.op = .buildSlice 132 1 #[(0, x)]) (ks : List Value) (hk : ks.length = 5) (hx : a.eval x = .agg ks.toArray)
   (h : wpList Tryz.prog ops Q rest (a.put o.dst (.slice (some ⟨w.heap.size, 0, none⟩) 1 1)) (w.alloc (.cells ks.toArray 143))) : wpList Tryz.prog ops Q (o :: rest) a w := by
 refine wpList_plain hg fun K hK => ?_
 unfold Oper.wp execOp
 simp only [ho, List.map_toArray, List.map_cons, List.map_nil, hx, Sem.run_bind, slice_e ks hk w, Result.andThen_ok, Sem.run_pure]
 exact hK _ _ h
theorem step_sliceE {w : World} {ops : Array Oper} {o : Oper} {a : Act} {K : Act → World → Prop} {Q : Exit → Act → World → Prop} {E : Prop} (hw : Region.wanted o (yielded ops a.tmps) = true) (x : Operand) (ho : o.op = .buildSlice 132 1 #[(0, x)])
   (ks : List Value) (hk : ks.length = 5) (hx : a.eval x = .agg ks.toArray) (h : K (a.put o.dst (.slice (some ⟨w.heap.size, 0, none⟩) 1 1)) (w.alloc (.cells ks.toArray 143))) :
   if Region.wanted o (yielded ops a.tmps) = true then Oper.wp Tryz.prog o a w K Q else E := by
 rw [if_pos hw]
 unfold Oper.wp execOp
 simp only [ho, List.map_toArray, List.map_cons, List.map_nil, hx, Sem.run_bind, slice_e ks hk w, Result.andThen_ok, Sem.run_pure]
 exact h
theorem wpList_pushE {w : World} {ops : Array Oper} {rest : List Oper} {o : Oper} {a : Act} {Q : Exit → Act → World → Prop} (hgd : o.guard = none) (s x : Operand)
   (ho : o.op = .call { callee := .builtin .append, args := #[s, x], argTypes := #[132, 132] })
   (base : Nat) (v : Value) (n : Nat) (xs : List Value) (ks : List Value) (hs : a.eval s = v) (hown : w.ownsRow base 143 5 v n xs) (hx : a.eval x = .slice (some ⟨w.heap.size, 0, none⟩) 1 1) (hl : ks.length = 5) (h1 : ∀ y ∈ ks, y.oneCell' = true)
   (hlen : n + 1 ≤ 400000000001) (hbase : base ≤ w.heap.size) (t : TypeId) (fr : Nat × Nat)
   (h : ∀ v' w', w'.ownsRow base 143 5 v' (n + 1) (xs ++ ks) → (w.alloc (.cells ks.toArray t fr)).grownBy w' v.ownBlock → (v'.ownBlock = v.ownBlock ∨ v'.ownBlock = some (w.heap.size + 1)) → wpList Tryz.prog ops Q rest (a.put o.dst v') w') :
   wpList Tryz.prog ops Q (o :: rest) a (w.alloc (.cells ks.toArray t fr)) := by
 obtain ⟨i5, z, hi5, hz5, hc5, hs5, hy5⟩ := infoE
 have hown' : (w.alloc (.cells ks.toArray t fr)).ownsRow base 143 5 v n xs := ownsRow_heap hown fun k hk => by
   obtain ⟨_, cur, hh⟩ := ownsRow_block hown k hk
   rw [hh]; exact hold hh
 refine wpList_append_own_at _ hgd s x 132 ho base 143 i5 z 5 56 Tryz.underlying132 hi5 hz5 hs5 hy5 hc5 (by decide) v n _ hs hown' ⟨w.heap.size, 0, none⟩ 1 1 ks hx (by omega) ?_ h1 (by unfold maxLen; omega) (by omega) (by simp; omega) ?_
 · intro j u hu
   rw [Addr.add_mid, Nat.zero_add, cell_of_row _ _ _ _ _ _ (hnew w _)]
   simpa using hu
 · intro v' w' q1 q2 _ q4
   refine h v' w' q1 q2 ?_
   rcases q4 with e | e
   · exact Or.inl e
   · exact Or.inr (by rw [e]; simp)
theorem step_pushE {w : World} {ops : Array Oper} {o : Oper} {a : Act} {K : Act → World → Prop} {Q : Exit → Act → World → Prop} {E : Prop} (hgd : o.guard = none) (s x : Operand)
   (ho : o.op = .call { callee := .builtin .append, args := #[s, x], argTypes := #[132, 132] })
   (base : Nat) (v : Value) (n : Nat) (xs : List Value) (ks : List Value) (hs : a.eval s = v) (hown : w.ownsRow base 143 5 v n xs) (hx : a.eval x = .slice (some ⟨w.heap.size, 0, none⟩) 1 1) (hl : ks.length = 5) (h1 : ∀ y ∈ ks, y.oneCell' = true)
   (hlen : n + 1 ≤ 400000000001) (hbase : base ≤ w.heap.size) (t : TypeId) (fr : Nat × Nat)
   (h : ∀ v' w', w'.ownsRow base 143 5 v' (n + 1) (xs ++ ks) → (w.alloc (.cells ks.toArray t fr)).grownBy w' v.ownBlock → (v'.ownBlock = v.ownBlock ∨ v'.ownBlock = some (w.heap.size + 1)) → K (a.put o.dst v') w') :
   if Region.wanted o (yielded ops a.tmps) = true then Oper.wp Tryz.prog o a (w.alloc (.cells ks.toArray t fr)) K Q else E := by
 have hw : Region.wanted o (yielded ops a.tmps) = true := by simp [Region.wanted, hgd]
 rw [if_pos hw]
 obtain ⟨i5, z, hi5, hz5, hc5, hs5, hy5⟩ := infoE
 have hown' : (w.alloc (.cells ks.toArray t fr)).ownsRow base 143 5 v n xs := ownsRow_heap hown fun k hk => by
   obtain ⟨_, cur, hh⟩ := ownsRow_block hown k hk
   rw [hh]; exact hold hh
 obtain ⟨v', w', hr, q1, q2, _, q4⟩ := run_append_own_at (P := Tryz.prog) (w.alloc (.cells ks.toArray t fr)) base 132 o.type 143 i5 z 5 56 Tryz.underlying132 hi5 hz5 hs5 hy5 hc5 (by decide) v n _ hown' ⟨w.heap.size, 0, none⟩ 1 1 ks (by omega) (by
   intro j u hu
   rw [Addr.add_mid, Nat.zero_add, cell_of_row _ _ _ _ _ _ (hnew w _)]
   simpa using hu) h1 (by unfold maxLen; omega) (by omega) (by simp; omega)
 unfold Oper.wp execOp
 simp only [ho, resolve, invoke, builtin, Sem.run_bind, Sem.run_pure, Result.andThen_ok, List.map_toArray, List.map_cons, List.map_nil, hs, hx, hr]
 refine h v' w' q1 q2 ?_
 rcases q4 with e | e
 · exact Or.inl e
 · exact Or.inr (by rw [e]; simp)
theorem encX_len (x : Ev × Value) : (encX x).length = 5 := rfl
theorem own_one {w : World} {base : Nat} {v : Value} {zs : List Int} (h : Own w base v zs) : v.oneCell' = true := by
 rcases h.2 with ⟨rfl, _⟩ | ⟨g, cap, cur, rfl, _⟩ <;> rfl
theorem encX_one {x : Ev × Value} (h : x.2.oneCell' = true) : ∀ y ∈ encX x, y.oneCell' = true := by
 intro y hy
 simp only [encX, List.mem_cons, List.not_mem_nil, or_false] at hy
 rcases hy with rfl | rfl | rfl | rfl | rfl
 · rfl
 · rfl
 · rfl
 · exact h
 · rfl
theorem buildE2 (w : World) : (Instr.build 143 #[(0, .int .i64 2)]).run Tryz.prog w = .ok (.agg #[.int .i64 2, .int .i64 0, .int .i64 0, .slice none 0 0, .int .u32 0]) w := by kernel_rfl
theorem buildE4 (w : World) (q b p : Int) : (Instr.build 143 #[(0, .int .i64 4), (1, .int .i64 q), (2, .int .i64 b), (4, .int .u32 p)]).run Tryz.prog w = .ok (.agg #[.int .i64 4, .int .i64 q, .int .i64 b, .slice none 0 0, .int .u32 p]) w := by kernel_rfl
theorem buildE3 (w : World) (sp : Option Addr) (l c : Nat) : (Instr.build 143 #[(0, .int .i64 3), (3, .slice sp l c)]).run Tryz.prog w = .ok (.agg #[.int .i64 3, .int .i64 0, .int .i64 0, .slice sp l c, .int .u32 0]) w := by kernel_rfl
theorem buildE1' (w : World) (q : Int) (sp : Option Addr) (l c : Nat) : (Instr.build 143 #[(0, .int .i64 1), (1, .int .i64 q), (3, .slice sp l c)]).run Tryz.prog w = .ok (.agg #[.int .i64 1, .int .i64 q, .int .i64 0, .slice sp l c, .int .u32 0]) w := by kernel_rfl
def RQ.pushed (Q : RQ) (e : Ev) (dv v : Value) : RQ := { Q with lv := v, es := Q.es ++ [(e, dv)] }
def RF.pushed (R : RF) (e : Ev) : RF := { R with log := R.log ++ [e] }
theorem RK.push {w2 w4 : World} {base : Nat} {Q : RQ} {R : RF} (h : RK w2 base Q R) (e : Ev) (dv : Value) (hdv : Own w2 base dv e.data) (c : Obj) {v : Value}
   (hO4 : w4.ownsRow base 143 5 v (Q.es.length + 1) (Q.es.flatMap encX ++ encX (e, dv))) (hg4 : (w2.alloc c).grownBy w4 Q.lv.ownBlock) (hd4 : v.ownBlock = Q.lv.ownBlock ∨ v.ownBlock = some (w2.heap.size + 1)) :
   w4.cell? ⟨Q.p, 1, none⟩ = some Q.lv ∧ w4.frozen? ⟨Q.p, 1, none⟩ = false ∧ RK (w4.setCell ⟨Q.p, 1, none⟩ v) base (Q.pushed e dv v) (R.pushed e) ∧ Fr Q.fp w2 (w4.setCell ⟨Q.p, 1, none⟩ v) ∧ ∀ k ∈ (Q.pushed e dv v).fp, k ∈ Q.fp ∨ w2.heap.size ≤ k ∨ dv.ownBlock = some k := by
 have a1 : ∀ i, Q.lv.ownBlock ≠ some i → i < w2.heap.size → w4.heap[i]? = w2.heap[i]? := fun i e2 hi => by
   rw [hg4.block i (by simp; omega) (fun e => e2 e.symm)]
   show (w2.heap.push _)[i]? = _
   rw [Array.getElem?_push, if_neg (by omega)]
 have hs4 : w2.heap.size ≤ w4.heap.size := by have := hg4.size; simp at this; omega
 have p4 : w4.heap[Q.p]? = some (.cells (rcells Q R) 134 (0, 0)) := (a1 _ h.nel (hlt h.cell)).trans h.cell
 have far : ∀ i, i ≠ Q.p → (w4.setCell ⟨Q.p, 1, none⟩ v).heap[i]? = w4.heap[i]? := fun i e => heap_setCell_other w4 _ i _ e
 have vp : v.ownBlock ≠ some Q.p := fun e => by
   obtain ⟨_, cur, hh⟩ := ownsRow_block hO4 _ e; exact ne_ty hh p4 (by decide) rfl
 have n5 : ∀ {u : Value} {zs : List Int}, Own w2 base u zs → ∀ i, u.ownBlock = some i → (w4.setCell ⟨Q.p, 1, none⟩ v).heap[i]? = w2.heap[i]? := fun {u zs} hu i hi => by
   obtain ⟨_, cur, hh⟩ := ownsRow_block hu i hi
   refine (far i (fun q => h.ne5 hu (q ▸ hi))).trans (a1 i (fun q => ?_) (hlt hh))
   obtain ⟨_, cur2, hh2⟩ := ownsRow_block h.lg i q
   exact ne_ty hh hh2 (by decide) rfl
 refine ⟨by rw [cell_of_row _ _ _ _ _ _ p4]; rfl, frozen_of_row _ _ _ _ _ p4, ⟨?_, ?_, ?_, ?_, ?_, h.bp⟩, ⟨hg4.os, hg4.tape, hg4.output, by rw [World.size_setCell]; exact hs4, fun k hk hn => ?_⟩, fun k hk => ?_⟩
 · exact (heap_setCell_same _ _ _ _ _ _ p4).trans rfl
 · exact own_heap h.bs fun i e => n5 h.bs i e
 · have e1 : (Q.pushed e dv v).es.length = Q.es.length + 1 := by simp [RQ.pushed]
   have e2 : (Q.pushed e dv v).es.flatMap encX = Q.es.flatMap encX ++ encX (e, dv) := by simp [RQ.pushed]
   rw [e1, e2]
   exact ownsRow_heap hO4 fun i e => far i (fun q => vp (q ▸ e))
 · show R.log ++ [e] = (Q.es ++ [(e, dv)]).map (·.1)
   rw [h.ln, List.map_append]; rfl
 · intro x hx
   rcases List.mem_append.1 hx with q | q
   · exact own_heap (h.dt x q) fun i e => n5 (h.dt x q) i e
   · rw [List.mem_singleton.1 q]
     exact own_heap hdv fun i e => n5 hdv i e
 · have n1 : k ≠ Q.p := fun e => hn ((Q.mem k).2 (Or.inl e))
   have n2 : Q.lv.ownBlock ≠ some k := fun e => hn ((Q.mem k).2 (Or.inr (Or.inr (Or.inl e))))
   exact (far k n1).trans (a1 k n2 hk)
 · rcases ((Q.pushed e dv v).mem k).1 hk with q | q | q | ⟨x, hx, q⟩
   · exact Or.inl ((Q.mem k).2 (Or.inl q))
   · exact Or.inl ((Q.mem k).2 (Or.inr (Or.inl q)))
   · have q : v.ownBlock = some k := q
     rcases hd4 with z | z
     · exact Or.inl ((Q.mem k).2 (Or.inr (Or.inr (Or.inl (z ▸ q)))))
     · rw [z] at q
       have := Option.some.inj q
       exact Or.inr (Or.inl (by omega))
   · rcases List.mem_append.1 hx with y | y
     · exact Or.inl ((Q.mem k).2 (Or.inr (Or.inr (Or.inr ⟨x, y, q⟩))))
     · rw [List.mem_singleton.1 y] at q; exact Or.inr (Or.inr q)
theorem RK.push' {w2 w4 : World} {base : Nat} {Q : RQ} {R : RF} (h : RK w2 base Q R) (e : Ev) (dv : Value) (hdv : Own w2 base dv e.data) (c : Obj) {v : Value} (lp : Option Addr) (lc : Nat) (hlv : Q.lv = .slice lp Q.es.length lc)
   (hO4 : w4.ownsRow base 143 5 v (Q.es.length + 1) (Q.es.flatMap encX ++ encX (e, dv))) (hg4 : (w2.alloc c).grownBy w4 (Value.slice lp Q.es.length lc).ownBlock) (hd4 : v.ownBlock = (Value.slice lp Q.es.length lc).ownBlock ∨ v.ownBlock = some (w2.heap.size + 1)) :
   w4.cell? ⟨Q.p, 1, none⟩ = some (.slice lp Q.es.length lc) ∧ w4.frozen? ⟨Q.p, 1, none⟩ = false ∧ RK (w4.setCell ⟨Q.p, 1, none⟩ v) base (Q.pushed e dv v) (R.pushed e) ∧ Fr Q.fp w2 (w4.setCell ⟨Q.p, 1, none⟩ v) ∧ ∀ k ∈ (Q.pushed e dv v).fp, k ∈ Q.fp ∨ w2.heap.size ≤ k ∨ dv.ownBlock = some k := by
 rw [← hlv] at hg4 hd4 ⊢
 exact h.push e dv hdv c hO4 hg4 hd4
def RN (base : Nat) (Q : RQ) (w : World) (R' : RF) (w' : World) : Prop := ∃ Q' : RQ, Q'.p = Q.p ∧ RK w' base Q' R' ∧ Fr Q.fp w w' ∧ Gr w Q.fp Q'.fp
theorem rSync_off (w : World) (base : Nat) (Q : RQ) (R : RF) (h : RK w base Q R) (hd : R.down = true) :
   Calls Tryz.prog 36 #[.pointer (some ⟨Q.p, 0, none⟩)] w fun e w' => e = .returned (.int .i64 2) ∧ w = w' := by
 have c := h.c3
 rw [hd] at c
 go_enter Tryz.func36, Tryz.ntmps36
 go_wp2
 go_ret
 exact ⟨rfl, rfl⟩
theorem rSync_last (w : World) (base : Nat) (Q : RQ) (R : RF) (h : RK w base Q R) (hd : R.down = false) (ha : R.armed = 1) :
   Calls Tryz.prog 36 #[.pointer (some ⟨Q.p, 0, none⟩)] w fun e w' => e = .returned (.int .i64 2) ∧ RN base Q w R.acted w' := by
 have c := h.c3
 rw [hd] at c
 have KA := hid (ract_in w base Q R h (by omega))
 have HE := hid (show decide (R.armed ≠ 1) = false from decide_eq_false (by omega))
 go_enter Tryz.func36, Tryz.ntmps36
 go_wp2_with (first | (go_at_call 87; refine KA.out.mono ?_; rintro e w1 ⟨rfl, hK, hF⟩; rw [HE.out]))
 go_ret
 exact ⟨rfl, Q, rfl, hK, hF, Gr.refl _ _⟩
theorem rSync_in (w : World) (base : Nat) (hbw : base ≤ w.heap.size) (Q : RQ) (R : RF) (h : RK w base Q R) (hd : R.down = false) (ha : R.armed ≠ 1) (har : 0 ≤ R.armed ∧ R.armed ≤ 9223372036854775807) (hll : Q.es.length ≤ 400000000000) :
   Calls Tryz.prog 36 #[.pointer (some ⟨Q.p, 0, none⟩)] w fun e w' => e = .returned (.int .i64 0) ∧ RN base Q w (R.acted.pushed .synced) w' := by
 have c := h.c3
 rw [hd] at c
 have KA := hid (ract_in w base Q R h har)
 have HE := hid (show decide (R.armed ≠ 1) = true from decide_eq_true ha)
 have b2 := buildE2
 have HLL := hid hll
 have HBW := hid hbw
 go_enter Tryz.func36, Tryz.ntmps36
 go_wp2_with fail
 refine KA.out.mono ?_
 rintro e w1 ⟨rfl, hK, hF⟩
 rw [HE.out]
 have c1 := hK.c1
 obtain ⟨lp, lc, hlv⟩ := ownsRow_form hK.lg
 rw [hlv] at c1
 have LG := hK.lg
 rw [hlv] at LG
 have HLG := hid LG
 have HLV := hid hlv
 have HK := hid hK
 have HF := hid hF
 clear hK hF KA c LG hlv
 go_wp2_with (first
   | refine wpList_sliceE rfl (.tmp 17) rfl (encX (.synced, .slice none 0 0)) rfl rfl ?_
   | (at_builtin; refine wpList_pushE rfl (.tmp 16) (.tmp 18) rfl base (.slice lp Q.es.length lc) Q.es.length _ (encX (.synced, .slice none 0 0)) rfl HLG.out rfl rfl (encX_one rfl) (by have := HLL.out; omega) (Nat.le_trans HBW.out HF.out.size) _ _ ?_; intro v4 w4 hO4 hg4 hd4; obtain ⟨s4, c4, rfl⟩ := ownsRow_form hO4; obtain ⟨cx, fx, hP, hFF, hG⟩ := HK.out.push' .synced (.slice none 0 0) (Own.nil _ _) _ lp lc HLV.out hO4 hg4 hd4; have HP := hid hP; have HFF := hid hFF; have HG := hid hG; clear hP hFF hG hO4 hg4 hd4))
 go_ret
 exact ⟨rfl, Q.pushed .synced (.slice none 0 0) _, rfl, HP.out, HF.out.trans HFF.out (Gr.refl _ _), fun k hk => (HG.out k hk).elim Or.inl fun q => q.elim (fun z => Or.inr (Nat.le_trans HF.out.size z)) (fun z => by cases z)⟩
theorem rFlip_no (w : World) (base : Nat) (Q : RQ) (R : RF) (h : RK w base Q R) (n : Nat) (h3 : 3 ≤ n) (h4 : n ≤ 4096) (hl : R.base.length = 256 * n) (q : Int) (hq : q < 0 ∨ (n : Int) ≤ q) (bit : Int) (v : Value) :
   Calls Tryz.prog 49 #[.pointer (some ⟨Q.p, 0, none⟩), .int .i64 q, .int .i64 bit, v] w fun e w' => e = .returned (.int .i64 41) ∧ w = w' := by
 have KP := hid (rPages_in w base Q R h n h3 h4 hl)
 by_cases c : q < 0
 · go_enter Tryz.func49, Tryz.ntmps49
   go_wp2
   go_ret
   exact ⟨rfl, rfl⟩
 · have c2 : (n : Int) ≤ q := by omega
   clear hq
   go_enter Tryz.func49, Tryz.ntmps49
   go_wp2_with (first | (go_at_call 33; refine KP.out.mono ?_; rintro e w0 ⟨rfl, rfl⟩))
   go_ret
   exact ⟨rfl, rfl⟩
theorem rFlip_out (w : World) (base : Nat) (Q : RQ) (R : RF) (h : RK w base Q R) (n : Nat) (h3 : 3 ≤ n) (h4 : n ≤ 4096) (hl : R.base.length = 256 * n) (q : Nat) (hq : q < n) (bit : Int) (hb : bit < 0 ∨ 2048 ≤ bit) (v : Value) :
   Calls Tryz.prog 49 #[.pointer (some ⟨Q.p, 0, none⟩), .int .i64 q, .int .i64 bit, v] w fun e w' => e = .returned (.int .i64 1) ∧ w = w' := by
 have KP := hid (rPages_in w base Q R h n h3 h4 hl)
 have i1 : (q : Int) < (n : Int) := by omega
 by_cases c : bit < 0
 · go_enter Tryz.func49, Tryz.ntmps49
   go_wp2_with (first | (go_at_call 33; refine KP.out.mono ?_; rintro e w0 ⟨rfl, rfl⟩))
   go_ret
   exact ⟨rfl, rfl⟩
 · have c2 : 2048 ≤ bit := by omega
   clear hb
   go_enter Tryz.func49, Tryz.ntmps49
   go_wp2_with (first | (go_at_call 33; refine KP.out.mono ?_; rintro e w0 ⟨rfl, rfl⟩))
   go_ret
   exact ⟨rfl, rfl⟩
theorem rFlip_in (w : World) (base : Nat) (hbw : base ≤ w.heap.size) (Q : RQ) (R : RF) (h : RK w base Q R) (n : Nat) (h3 : 3 ≤ n) (h4 : n ≤ 4096) (hl : R.base.length = 256 * n) (q : Nat) (hq : q < n) (bit : Nat) (hb : bit < 2048) (pat : Nat) (hp : pat < 4294967296) (hll : Q.es.length ≤ 400000000000) :
   Calls Tryz.prog 49 #[.pointer (some ⟨Q.p, 0, none⟩), .int .i64 q, .int .i64 bit, .int .u32 pat] w fun e w' => e = .returned (.int .i64 0) ∧ RN base Q w (R.pushed (.flipped q bit pat)) w' := by
 have KP := hid (rPages_in w base Q R h n h3 h4 hl)
 have i1 : (q : Int) < (n : Int) := by omega
 have i2 : (bit : Int) < 2048 := by omega
 have b4 := buildE4
 have HLL := hid hll
 have HBW := hid hbw
 have c1 := h.c1
 obtain ⟨lp, lc, hlv⟩ := ownsRow_form h.lg
 rw [hlv] at c1
 have LG := h.lg
 rw [hlv] at LG
 have HLG := hid LG
 have HLV := hid hlv
 have HK := hid h
 clear LG hlv h
 go_enter Tryz.func49, Tryz.ntmps49
 go_wp2_with (first
   | (go_at_call 33; refine KP.out.mono ?_; rintro e w0 ⟨rfl, rfl⟩)
   | refine wpList_sliceE rfl (.tmp 31) rfl (encX (.flipped q bit pat, .slice none 0 0)) rfl rfl ?_
   | (at_builtin; refine wpList_pushE rfl (.tmp 27) (.tmp 32) rfl base (.slice lp Q.es.length lc) Q.es.length _ (encX (.flipped q bit pat, .slice none 0 0)) rfl HLG.out rfl rfl (encX_one rfl) (by have := HLL.out; omega) HBW.out _ _ ?_; intro v4 w4 hO4 hg4 hd4; obtain ⟨s4, c4, rfl⟩ := ownsRow_form hO4; obtain ⟨cx, fx, hP, hFF, hG⟩ := HK.out.push' (.flipped q bit pat) (.slice none 0 0) (Own.nil _ _) _ lp lc HLV.out hO4 hg4 hd4; have HP := hid hP; have HFF := hid hFF; have HG := hid hG; clear hP hFF hG hO4 hg4 hd4))
 go_ret
 exact ⟨rfl, Q.pushed (.flipped q bit pat) (.slice none 0 0) _, rfl, HP.out, HFF.out, fun k hk => (HG.out k hk).elim Or.inl fun q => q.elim Or.inr (fun z => by cases z)⟩
theorem flatk_get {α : Type} (f : α → List Value) (k : Nat) (hf : ∀ x, (f x).length = k) : ∀ (l : List α) (i : Nat) (hi : i < l.length) (j : Nat) (hj : j < k), (l.flatMap f)[i * k + j]? = (f l[i])[j]?
 | [], i, hi, j, hj => by simp at hi
 | x :: l, 0, hi, j, hj => by
   rw [List.flatMap_cons, Nat.zero_mul, Nat.zero_add, List.getElem?_append_left (by rw [hf]; exact hj)]; rfl
 | x :: l, i + 1, hi, j, hj => by
   rw [List.flatMap_cons, List.getElem?_append_right (by rw [hf, Nat.add_mul]; omega), hf, show (i + 1) * k + j - k = i * k + j by rw [Nat.add_mul]; omega]
   exact flatk_get f k hf l i (by simpa using hi) j hj
theorem RK.at {w : World} {base : Nat} {Q : RQ} {R : RF} (h : RK w base Q R) (i : Nat) (hi : i < Q.es.length) : ∃ g cap, Q.lv = .slice (some ⟨g, 0, none⟩) Q.es.length cap ∧ g < w.heap.size ∧ Q.es.length ≤ cap ∧ cap ≤ maxLen ∧ w.rangeAt g (i * 5) (encX Q.es[i]) ∧ Own w base Q.es[i].2 Q.es[i].1.data := by
 rcases h.lg.2 with ⟨_, h0⟩ | ⟨g, cap, cur, e, hg, hh, hc, hm, hs, ht⟩
 · omega
 · refine ⟨g, cap, e, hlt hh, hc, hm, fun j v hv => ?_, h.dt _ (List.getElem_mem hi)⟩
   have hj : j < 5 := by have := (List.getElem?_eq_some_iff.1 hv).1; rwa [encX_len] at this
   rw [cell_of_row _ _ _ _ _ _ hh]
   have := flatk_get encX 5 (fun x => encX_len x) Q.es i hi j hj
   rw [← ht, List.getElem?_take, if_pos (by omega)] at this
   rw [← hv, ← this]
   simp
def openN : List Ev → Nat := fun l => l.foldl (fun n e => match e with | .wrote _ _ => n + 1 | .synced => 0 | .crashed _ => 0 | .flipped _ _ _ => n) 0
theorem openN_snoc (l : List Ev) (e : Ev) : openN (l ++ [e]) = match e with | .wrote _ _ => openN l + 1 | .synced => 0 | .crashed _ => 0 | .flipped _ _ _ => openN l := by
 unfold openN; rw [List.foldl_append]; rfl
theorem openN_le (l : List Ev) : openN l ≤ l.length := by
 generalize hn : l.length = n
 induction n generalizing l with
 | zero => obtain rfl := List.eq_nil_of_length_eq_zero hn; exact Nat.le_refl _
 | succ n ih =>
   obtain ⟨k, e, rfl⟩ : ∃ k e, l = k ++ [e] := ⟨l.dropLast, l.getLast (by intro e; rw [e] at hn; simp at hn), (List.dropLast_concat_getLast _).symm⟩
   have hk : k.length = n := by simp at hn; exact hn
   have := ih k hk
   rw [openN_snoc]
   cases e <;> simp only <;> omega
theorem openN_play (b : List Int) (l : List Ev) : (play b l).2.length = openN l := by
 generalize hn : l.length = n
 induction n generalizing l with
 | zero => obtain rfl := List.eq_nil_of_length_eq_zero hn; rfl
 | succ n ih =>
   obtain ⟨k, e, rfl⟩ : ∃ k e, l = k ++ [e] := ⟨l.dropLast, l.getLast (by intro e; rw [e] at hn; simp at hn), (List.dropLast_concat_getLast _).symm⟩
   have hk : k.length = n := by simp at hn; exact hn
   have := ih k hk
   rw [play_snoc, openN_snoc]
   cases e with
   | wrote q d => show ((play b k).2 ++ [_]).length = _; rw [List.length_append, this]; rfl
   | synced => rfl
   | crashed fs => rfl
   | flipped q bit pat => exact this
theorem take_snocE (l : List (Ev × Value)) (i : Nat) (hi : i < l.length) : (l.take (i + 1)).map (·.1) = (l.take i).map (·.1) ++ [l[i].1] := by
 rw [List.take_succ_eq_append_getElem hi, List.map_append]; rfl
theorem rOpen_in (w : World) (base : Nat) (Q : RQ) (R : RF) (h : RK w base Q R) (hll : Q.es.length ≤ 400000000000) :
   Calls Tryz.prog 91 #[.pointer (some ⟨Q.p, 0, none⟩)] w fun e w' => e = .returned (.int .i64 (openN R.log)) ∧ w = w' := by
 have c1 := h.c1
 obtain ⟨lp, lc, hlv⟩ := ownsRow_form h.lg
 rw [hlv] at c1
 have HLV := hid hlv
 have HK := hid h
 have ill : (Q.es.length : Int) ≤ 400000000000 := by omega
 have HLN := hid (show R.log = (Q.es.take Q.es.length).map (·.1) by rw [List.take_length]; exact h.ln)
 clear h hlv
 go_enter Tryz.func91, Tryz.ntmps91
 go_wp2
 go_loopw [3, 4] (fun nv iv wr => ∃ i : Nat, i ≤ Q.es.length ∧ iv = .int .i64 i ∧ nv = .int .i64 (openN ((Q.es.take i).map (·.1))) ∧ w = wr) (fun _ iv _ => Q.es.length - (intOf iv).toNat)
 case atStart => exact ⟨0, by omega, rfl, rfl, rfl⟩
 case round =>
   obtain ⟨i, hi, rfl, rfl, rfl⟩ := hrel
   by_cases hlt : i < Q.es.length
   · have i1 : (i : Int) < (Q.es.length : Int) := by omega
     obtain ⟨g, cap, e1, hg, hc, hm, hr, _⟩ := HK.out.at i hlt
     have hlv := HLV.out
     rw [e1] at hlv
     simp only [Value.slice.injEq] at hlv
     obtain ⟨hlp, _, hlc⟩ := hlv
     subst hlp
     have ck : w.cell? ⟨g, i * 5, none⟩ = some (.int .i64 Q.es[i].1.kind) := by
       have := hr 0 _ rfl; rwa [Nat.add_zero] at this
     have hno := openN_le ((Q.es.take i).map (·.1))
     rw [List.length_map, List.length_take] at hno
     have HS := hid (take_snocE Q.es i hlt)
     have HN := hid (openN_snoc ((Q.es.take i).map (·.1)) Q.es[i].1)
     have ino : (openN ((Q.es.take i).map (·.1)) : Int) ≤ 400000000000 := by omega
     generalize hE : Q.es[i].1 = ev at *
     generalize hO : openN ((Q.es.take i).map (·.1)) = on at *
     clear hr hno hE hO
     cases ev with
     | wrote q d =>
       have ck : w.cell? ⟨g, i * 5, none⟩ = some (.int .i64 1) := ck
       go_wp2
       go_roundw
       case rel => exact ⟨i + 1, by omega, by go_num, by rw [HS.out, HN.out]; go_num, trivial⟩
       case measure => simp [intOf]; omega
     | synced =>
       have ck : w.cell? ⟨g, i * 5, none⟩ = some (.int .i64 2) := ck
       go_wp2
       go_roundw
       case rel => exact ⟨i + 1, by omega, by go_num, by rw [HS.out, HN.out]; rfl, trivial⟩
       case measure => simp [intOf]; omega
     | crashed fs =>
       have ck : w.cell? ⟨g, i * 5, none⟩ = some (.int .i64 3) := ck
       go_wp2
       go_roundw
       case rel => exact ⟨i + 1, by omega, by go_num, by rw [HS.out, HN.out]; rfl, trivial⟩
       case measure => simp [intOf]; omega
     | flipped q bit pat =>
       have ck : w.cell? ⟨g, i * 5, none⟩ = some (.int .i64 4) := ck
       go_wp2
       go_roundw
       case rel => exact ⟨i + 1, by omega, by go_num, by rw [HS.out, HN.out], trivial⟩
       case measure => simp [intOf]; omega
   · obtain rfl : i = Q.es.length := by omega
     clear hlt
     rw [← HLN.out]
     go_wp2
     go_ret
     exact ⟨rfl, rfl⟩
end
end Go.Proofs.YtjhocjjecfdphaaGreatDoor
