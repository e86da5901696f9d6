import Derived.Test.YtbgjnihkiolmlaaE4b
namespace Go.Proofs.Ytbgjnihkiolmlaa
set_option linter.unusedVariables false
set_option linter.unusedSimpArgs false
open Go.RowKit
attribute [local go_sem ↓] Go.wp_at_zero Go.wp_at_succ

theorem keyed3 : Maps.Keyed Try.prog 3 := Maps.int_keyed Try.underlying3
/-- clear(m). -/
theorem wpList_clear_own {P : Program} {w : World} {ops : Array Oper} {rest : List Oper} {o : Oper} {a : Act} {Q : Exit → Act → World → Prop} (hg : o.guard = none) (m : Operand) (t : TypeId) (hop : o.op = Op.call { callee := Callee.builtin Builtin.clear, args := #[m], argTypes := #[t] })
    (k e : TypeId) (ht : P.underlying t = some (.map k e)) (R : Value → Option (DataW Unit × List MemPlace)) (b n : Nat) (D : DataW Unit) (hm : a.eval m = .map (some b)) (hown : w.ownsMap P k R b n D)
    (hK : ∀ w', w'.ownsMap P k R b 0 (.map []) → w.grownBy w' (some b) → wpList P ops Q rest (a.put o.dst (.tuple #[])) w') :
    wpList P ops Q (o :: rest) a w := by
  obtain ⟨es, clock, hb, F, _, _⟩ := hown
  refine wpList_plain hg fun K' hK' => ?_
  unfold Oper.wp
  simp [execOp, hop, resolve, invoke, builtin, hm, Builtin.clear_, run_underlying ht, MapKept.run_getObj_map hb, MapKept.run_setObj_map _ hb, Result.andThen]
  have hs := MapKept.heap_set (o' := .map #[] clock) hb
  exact hK' _ _ (hK _ ⟨#[], clock, hs.1, ⟨by simp, MapKept.stamped_empty clock, by simp⟩, Nat.le_refl _, rfl⟩ ⟨rfl, rfl, rfl, by simp, fun i _ hi => hs.2 i (fun e => hi (by rw [e]))⟩)
theorem ownsRow_none (w : World) (base t k : Nat) : w.ownsRow base t k (.slice none 0 0) 0 [] := ⟨by simp, Or.inl ⟨rfl, rfl⟩⟩
theorem DK.drop {w w2 : World} {base : Nat} {P : DP} {D : DS} (h : DK w base P D) (hm : w2.ownsMap (H := Unit) Try.prog 3 (plainElem Try.prog 3) P.m 0 (.map [])) (hg : (w.setCell ⟨P.p, 5, none⟩ (.slice none 0 0)).grownBy w2 (some P.m)) :
    w2.cell? ⟨P.p, 3, none⟩ = some (.int .i64 D.ops.length) ∧ w2.frozen? ⟨P.p, 3, none⟩ = false ∧ DK (w2.setCell ⟨P.p, 3, none⟩ (.int .i64 0)) base { P with ov := .slice none 0 0, M := .map [] } { D with ops := [] } ∧ Fr P.fp w (w2.setCell ⟨P.p, 3, none⟩ (.int .i64 0)) := by
  have h1 : (w.setCell ⟨P.p, 5, none⟩ (.slice none 0 0)).heap[P.p]? = some (.cells ((dcells P D).setIfInBounds 5 (.slice none 0 0)) 59 (0, 0)) := heap_setCell_same _ _ _ _ _ _ h.cell
  have h2 := (hg.block P.p (hlt h1) (fun e => h.pm (Option.some.inj e))).trans h1
  have hne : ∀ i, i ≠ P.p → i ≠ P.m → i < w.heap.size → (w2.setCell ⟨P.p, 3, none⟩ (.int .i64 0)).heap[i]? = w.heap[i]? := fun i a b c => by
    rw [heap_setCell_other w2 _ i _ a, hg.block i (by rw [World.size_setCell]; exact c) (fun e => b (Option.some.inj e)), heap_setCell_other w _ i _ a]
  refine ⟨by rw [cell_of_row _ _ _ _ _ _ h2]; rfl, frozen_of_row _ _ _ _ _ h2, ⟨?_, ?_, h.gl, h.gm, ownsRow_none _ _ _ _, ?_, NewM.nil, h.bp, h.bg, h.bm⟩, ⟨hg.os, hg.tape, hg.output, ?_, ?_⟩⟩
  · rw [heap_setCell_same _ _ _ _ _ _ h2]; rfl
  · rw [hne _ h.pg.symm h.gm' (hlt h.im)]; exact h.im
  · exact ownsMap_heap hm (heap_setCell_other w2 _ _ _ h.pm.symm)
  · rw [World.size_setCell]; have := hg.size; rwa [World.size_setCell] at this
  · intro k hk hn
    exact hne k (fun e => hn ((P.mem k).2 (Or.inl e))) (fun e => hn ((P.mem k).2 (Or.inr (Or.inr (Or.inl e))))) hk
set_option maxHeartbeats 400000 in
theorem dropOpen_in (w : World) (base : Nat) (P : DP) (D : DS) (h : DK w base P D) :
    Calls Try.prog 43 #[.pointer (some ⟨P.p, 0, none⟩)] w fun e w' => e = .returned (.tuple #[]) ∧ DK w' base { P with ov := .slice none 0 0, M := .map [] } { D with ops := [] } ∧ Fr P.fp w w' := by
  have c5 := h.c5
  have f5 := h.fz 5
  have c6 := h.c6
  have hm := h.mp.setCell (a := ⟨P.p, 5, none⟩) h.pm.symm (.slice none 0 0)
  have HD := hid (fun w2 a b => h.drop (w2 := w2) a b)
  have hmp : P.m ≠ P.p := h.pm.symm
  clear h
  obtain ⟨p, g, m, gc, ov, rs, M⟩ := P
  simp only at *
  go_enter Try.func43, Try.ntmps43
  go_wp2_with (refine wpList_clear_own rfl (.tmp 8) 57 rfl 3 3 Try.underlying57 _ m _ _ rfl hm ?_; intro w2 hm2 hg2; obtain ⟨c3, f3, hD, hF⟩ := HD.out w2 hm2 hg2; clear HD)
  go_end0
  exact ⟨rfl, hD, hF⟩
theorem results_c1 {P : Program} {fn : Func} {p : Tmp} {ty : TypeId} (h : fn.results = #[.cell p ty]) (tmps : Array Value) (w : World) (g : Nat) (t : TypeId) (cs : Array Value) (fr : Nat × Nat) (d : TypeDesc)
    (hp : tmps.getD p undef = .pointer (some ⟨g, 0, none⟩)) (hg : w.heap[g]? = some (.cells cs t fr))
    (hu : P.underlying ty = some d) (hd : (match d with | .struct _ | .array _ _ => true | _ => false) = true) (hi : (P.info? ty).map (·.size) = some cs.size) :
    (results fn tmps).run P w = .ok (.agg cs) w := by
  have hp' : tmps[p]?.getD undef = .pointer (some ⟨g, 0, none⟩) := by simpa using hp
  simp [results, h, hp', asAddr, run_loadVar_row w g t ty cs fr d hg hu hd hi]
set_option maxHeartbeats 400000 in
theorem Counts_in (w : World) (base : Nat) (P : DP) (D : DS) (h : DK w base P D) :
    Calls Try.prog 21 #[.pointer (some ⟨P.p, 0, none⟩)] w fun e w' => e = .returned (.agg #[.int .i64 D.reads, .int .i64 D.writes, .int .i64 D.syncs, .int .i64 D.ops.length]) ∧ Below w.heap.size w w' := by
  have c0 := h.c0
  have c1 := h.c1
  have c2 := h.c2
  have c3 := h.c3
  have hlp := hlt h.cell
  go_enter Try.func21, Try.ntmps21
  go_wp2
  refine bodyPost_ret (results_c1 Try.results21 _ _ w.heap.size 52 _ _ _ rfl (hnew w _) Try.underlying52 rfl (by kernel_rfl)) rfl ?_
  exact ⟨rfl, (Below.refl _ w).alloc (Nat.le_refl _) _⟩
theorem buildD (sp : Option Addr) (n c m : Nat) (w : World) :
    (Instr.build 59 #[(1, .slice sp n c), (3, .map (some m)), (4, .bool true)]).run Try.prog w = .ok (.agg #[.int .i64 0, .int .i64 0, .int .i64 0, .int .i64 0, .slice sp n c, .slice none 0 0, .map (some m), .bool true, .int .i64 0, .int .i64 0]) w := by kernel_rfl
/-- A new disk of an image. -/
def newD (img : List Int) : DS := ⟨img, [], true, 0, 0, 0, 0, 0⟩
theorem newD_ok {img : List Int} {n : Nat} (h1 : 3 ≤ n) (h2 : n ≤ 4096) (hi : img.length = 256 * n) (hb : Bts img) : DsOk (newD img) :=
  ⟨⟨n, h1, h2, hi, fun o ho => by cases ho⟩, hb, by simp [newD], by simp [newD], by simp [newD], by simp [newD], by simp [newD], by simp [newD]⟩
set_option maxHeartbeats 400000 in
theorem holding_any (w : World) (base g c : Nat) (img : List Int) (rest : List Value) (hI : w.heap[g]? = some (.cells (ints .u8 img ++ rest).toArray 5 (0, 0))) (hc : img.length ≤ c) (hm : c ≤ maxLen) (hg : base ≤ g) (hb : base ≤ w.heap.size) :
    Calls Try.prog 36 #[.slice (some ⟨g, 0, none⟩) img.length c] w fun e w' => e = .returned (.pointer (some ⟨w.heap.size + 1, 0, none⟩)) ∧ DK w' base ⟨w.heap.size + 1, g, w.heap.size, c, .slice none 0 0, rest, .map []⟩ (newD img) ∧ Below w.heap.size w w' := by
  have hmm := @run_makeMap Try.prog
  have hbd := buildD
  go_enter Try.func36, Try.ntmps36
  go_wp2
  go_ret
  have hB1 : Below w.heap.size w (w.alloc (.map #[] 0)) := (Below.refl _ w).alloc (Nat.le_refl _) _
  have hB2 : ∀ o, Below (w.alloc (.map #[] 0)).heap.size (w.alloc (.map #[] 0)) ((w.alloc (.map #[] 0)).alloc o) := fun o => (Below.refl _ _).alloc (Nat.le_refl _) o
  have hs : (w.alloc (.map #[] 0)).heap.size = w.heap.size + 1 := by simp
  refine ⟨rfl, ⟨?_, ?_, hc, hm, ownsRow_none _ _ _ _, ?_, NewM.nil, by show base ≤ w.heap.size + 1; omega, hg, hb⟩, hB1.alloc (by rw [hs]; omega) _⟩
  · show _ = some (Obj.cells #[_, _, _, _, _, _, _, _, _, _] _ _)
    have := hnew (w.alloc (.map #[] 0)) (.cells #[.int .i64 0, .int .i64 0, .int .i64 0, .int .i64 0, .slice (some ⟨g, 0, none⟩) img.length c, .slice none 0 0, .map (some w.heap.size), .bool true, .int .i64 0, .int .i64 0] 59)
    rw [hs] at this
    exact this
  · exact hold (hold hI)
  · exact ownsMap_heap (World.ownsMap_made w Try.prog 3 _) ((hB2 _).block w.heap.size (by rw [hs]; omega))
theorem hold_to (w : World) (base g c : Nat) (img : List Int) (hl : img.length = c) (hI : w.heap[g]? = some (.cells (ints .u8 img).toArray 5 (0, 0))) (hc : 0 ≤ c) (hm : c ≤ maxLen) (hg : base ≤ g) (hb : base ≤ w.heap.size) :
    Calls Try.prog 36 #[.slice (some ⟨g, 0, none⟩) c c] w fun e w' => e = .returned (.pointer (some ⟨w.heap.size + 1, 0, none⟩)) ∧ DK w' base ⟨w.heap.size + 1, g, w.heap.size, c, .slice none 0 0, [], .map []⟩ (newD img) ∧ Below w.heap.size w w' := by
  have := holding_any w base g c img [] (by rw [List.append_nil]; exact hI) (by omega) hm hg hb
  rw [hl] at this
  exact this
theorem bts_rep (n : Nat) : Bts (List.replicate n 0) := fun x hx => by simp at hx; omega
set_option maxRecDepth 100000 in
set_option maxHeartbeats 400000 in
theorem New_ok (w : World) (n : Nat) (h3 : 3 ≤ n) (h4 : n ≤ 4096) :
    Calls Try.prog 10 #[.int .i64 n] w fun e w' => ∃ p F, e = .returned (.tuple #[.pointer (some ⟨p, 0, none⟩), .int .i64 0]) ∧ DA w' w.heap.size F p (newD (List.replicate (256 * n) 0)) ∧ Below w.heap.size w w' := by
  have HP := hid (possible_any w n)
  have he : decide (3 ≤ (n : Int) ∧ (n : Int) ≤ 4096) = true := decide_eq_true ⟨by omega, by omega⟩
  have HE := hid he
  clear he
  obtain ⟨i5, hi5, hz5, hs5, hy5⟩ := Try.info5
  have HI := hid hi5
  have K1 := hid (show i5.bytes * (n * 256) ≤ 281474976710656 by rw [hy5]; omega)
  have K2 := hid (show n * 256 ≤ maxLen by unfold maxLen; omega)
  have i0 : (n : Int) ≤ 4096 := by omega
  clear hi5
  go_enter Try.func10, Try.ntmps10
  go_wp2_with (first
    | (go_at_call 35; refine HP.out.mono ?_; rintro e w0 ⟨rfl, rfl⟩; rw [HE.out])
    | (refine wpList_make_full _ rfl _ _ 22 rfl w.heap.size 5 i5 (.int .u8 0) 1 Try.underlying22 HI.out hz5 hs5 .i64 .i64 _ _ (n * 256) rfl rfl (by push_cast; rfl) (by push_cast; rfl) K1.out K2.out (Nat.le_refl _) ?_; intro w1 hO1 hg1; have hB1 := grown_keeps hg1 (fun k hk => by cases hk) (Nat.le_refl w.heap.size); have hr1 := made_row hO1; clear hg1 hO1)
    | (go_at_call 36; refine (hold_to w1 w.heap.size w.heap.size (n * 256) (padz [] (n * 256)) (by simp [padz]) hr1 (by omega) (by unfold maxLen; omega) (Nat.le_refl _) hB1.size).mono ?_; rintro e w2 ⟨rfl, hK, hB2⟩))
  go_ret2
  have hz : padz [] (n * 256) = List.replicate (256 * n) 0 := by simp [padz, Nat.mul_comm]
  rw [hz] at hK
  exact ⟨_, _, rfl, ⟨_, rfl, rfl, hK, newD_ok h3 h4 (by simp) (bts_rep _)⟩, hB1.trans (hB2.mono hB1.size)⟩
set_option maxHeartbeats 400000 in
theorem New_no (w : World) (n : Int) (h : n < 3 ∨ 4096 < n) :
    Calls Try.prog 10 #[.int .i64 n] w fun e w' => e = .returned (.tuple #[.pointer none, .int .i64 40]) ∧ w = w' := by
  have HP := hid (possible_any w n)
  have he : decide (3 ≤ (n : Int) ∧ (n : Int) ≤ 4096) = false := decide_eq_false (fun q => by omega)
  have HE := hid he
  clear he
  go_enter Try.func10, Try.ntmps10
  go_wp2_with (go_at_call 35; refine HP.out.mono ?_; rintro e w0 ⟨rfl, rfl⟩; rw [HE.out])
  go_ret2
  exact ⟨rfl, rfl⟩
end Go.Proofs.Ytbgjnihkiolmlaa
