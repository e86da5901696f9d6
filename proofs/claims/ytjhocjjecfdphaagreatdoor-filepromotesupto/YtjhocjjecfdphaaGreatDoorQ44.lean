import Derived.Test.YtjhocjjecfdphaaGreatDoorQ43
namespace Go.Proofs.YtjhocjjecfdphaaGreatDoor
set_option linter.unusedVariables false
set_option linter.unusedSimpArgs false
set_option maxRecDepth 100000
set_option maxHeartbeats 4000000
section
open Go.RowKit
attribute [local go_sem ↓] Go.wp_at_zero Go.wp_at_succ
theorem ownsRow_base {w : World} {base b2 : Nat} {e : TypeId} {size : Nat} {v : Value} {n : Nat} {xs : List Value} (h : w.ownsRow base e size v n xs) (hb : b2 ≤ base) : w.ownsRow b2 e size v n xs :=
 ⟨h.1, h.2.imp id fun ⟨g, cap, cur, e1, hg, r⟩ => ⟨g, cap, cur, e1, by omega, r⟩⟩
theorem RD.base_le {w : World} {base b2 : Nat} {F : List Nat} {p m : Nat} {D : DS} (h : RD w base F p m D) (hb : b2 ≤ base) : RD w b2 F p m D := by
 obtain ⟨Q, R, e1, e2, h, hd, ho⟩ := h
 exact ⟨Q, R, e1, e2, ⟨h.cell, ownsRow_base h.bs hb, ownsRow_base h.lg hb, h.ln, fun x hx => ownsRow_base (h.dt x hx) hb, Nat.le_trans hb h.bp⟩, hd, ho⟩
theorem Sep.frame {base : Nat} {w w1 : World} {C : Nat → Cm} (h : Sep base w C) {F : List Nat} (hf : Go.Proofs.YtjhocjjecfdphaaGreatDoor.Fr F w w1) (hF : ∀ q ∈ F, ∀ k, q ∉ (C k).fp) : Sep base w1 C :=
 ⟨Nat.le_trans h.hb hf.size, fun k => (h.ok k).to hf.size (fun q hq => hf.block q ((h.ok k).1 q hq).2 (fun e => hF q e k hq)), h.ap⟩
structure SC where
 pa : Int
 ia : List Int
 s1 : Option Addr
 c1 : Nat
 pb : Int
 ib : List Int
 s2 : Option Addr
 c2 : Nat
 ov : Value
def SC.C (s : SC) : List Value := [.int .i64 s.pa, .slice s.s1 s.ia.length s.c1, .int .i64 s.pb, .slice s.s2 s.ib.length s.c2, s.ov]
structure ScOk (w : World) (s : SC) : Prop where
 ya : Bts s.ia
 la : s.ia.length ≤ 1048576
 sa : Src w s.s1 s.c1 s.ia
 na : s.s1 = none → s.c1 = 0
 yb : Bts s.ib
 lb : s.ib.length ≤ 1048576
 sb : Src w s.s2 s.c2 s.ib
 nb : s.s2 = none → s.c2 = 0
theorem ScOk.below {w w1 : World} {s : SC} (h : ScOk w s) (hb : Below w.heap.size w w1) : ScOk w1 s := ⟨h.ya, h.la, h.sa.below hb (Nat.le_refl _), h.na, h.yb, h.lb, h.sb.below hb (Nat.le_refl _), h.nb⟩
theorem box_sc (a b : Int) (s1 s2 s3 : Option Addr) (n1 c1 n2 c2 n3 c3 : Nat) (w : World) : (Instr.box 27 (.agg #[.int .i64 a, .slice s1 n1 c1, .int .i64 b, .slice s2 n2 c2, .slice s3 n3 c3])).run Tryz.prog w = .ok (.pointer (some ⟨w.heap.size, 0, none⟩)) (w.alloc (.cells #[.int .i64 a, .slice s1 n1 c1, .int .i64 b, .slice s2 n2 c2, .slice s3 n3 c3] 27)) := by kernel_rfl
theorem wpList_box_sc {w : World} {ops : Array Oper} {rest : List Oper} {o : Oper} {a : Act} {Q : Exit → Act → World → Prop} (hg : o.guard = none) (x : Operand) (ho : o.op = .box 27 x) (s : SC) (s3 : Option Addr) (n3 c3 : Nat) (hov : s.ov = .slice s3 n3 c3) (hx : a.eval x = .agg s.C.toArray)
   (h : wpList Tryz.prog ops Q rest (a.put o.dst (.pointer (some ⟨w.heap.size, 0, none⟩))) (w.alloc (.cells s.C.toArray 27))) : wpList Tryz.prog ops Q (o :: rest) a w := by
 refine wpList_plain hg fun K hK => ?_
 unfold Oper.wp execOp
 simp only [ho, hx, Sem.run_bind]
 unfold SC.C at h ⊢
 rw [hov] at h ⊢
 simp only [box_sc, Result.andThen_ok, Sem.run_pure]
 exact hK _ _ h
theorem bx_world (w : World) : (Instr.box 51 (.agg #[.slice none 0 0, .slice none 0 0])).run Tryz.prog w = .ok (.pointer (some ⟨w.heap.size, 0, none⟩)) (w.alloc (.cells #[.slice none 0 0, .slice none 0 0] 51)) := by kernel_rfl
theorem bl_world : Tryz.prog.built 51 [] = some #[.slice none 0 0, .slice none 0 0] := by kernel_rfl
theorem bs_rd (a b : Option Addr) (w : World) : (Instr.buildSlice 48 2 #[(0, .pointer a), (1, .pointer b)]).run Tryz.prog w = .ok (.slice (some ⟨w.heap.size, 0, none⟩) 2 2) (w.alloc (.cells #[.pointer a, .pointer b] 54)) := by kernel_rfl
theorem bs_xf (w : World) : (Instr.buildSlice 49 3 #[(0, .pointer none), (1, .pointer none), (2, .pointer none)]).run Tryz.prog w = .ok (.slice (some ⟨w.heap.size, 0, none⟩) 3 3) (w.alloc (.cells #[.pointer none, .pointer none, .pointer none] 47)) := by kernel_rfl
theorem infoPRm : (Tryz.prog.info? 54).map (fun i => (i.zero.map (·.cells.size), i.size, i.bytes)) = some (some 1, 1, 8) := by kernel_rfl
theorem infoPR : ∃ i z, Tryz.prog.info? 54 = some i ∧ i.zero = some z ∧ i.size = 1 ∧ i.bytes = 8 ∧ z.cells.size = 1 := by
 have h := infoPRm
 cases hi : Tryz.prog.info? 54 with
 | none => rw [hi] at h; simp at h
 | some i =>
   rw [hi] at h
   cases hz : i.zero with
   | none => simp [hz] at h
   | some z => simp [hz] at h; exact ⟨i, z, rfl, hz, h.2.1, h.2.2, h.1⟩
theorem infoPXm : (Tryz.prog.info? 47).map (fun i => (i.zero.map (·.cells.size), i.size, i.bytes)) = some (some 1, 1, 8) := by kernel_rfl
theorem infoPX : ∃ i z, Tryz.prog.info? 47 = some i ∧ i.zero = some z ∧ i.size = 1 ∧ i.bytes = 8 ∧ z.cells.size = 1 := by
 have h := infoPXm
 cases hi : Tryz.prog.info? 47 with
 | none => rw [hi] at h; simp at h
 | some i =>
   rw [hi] at h
   cases hz : i.zero with
   | none => simp [hz] at h
   | some z => simp [hz] at h; exact ⟨i, z, rfl, hz, h.2.1, h.2.2, h.1⟩
def bgA (s : SC) : AW := ⟨fun i => if i = 0 then mdF s.pa s.ia else if i = 1 then mdF s.pb s.ib else none, fun _ => none⟩
def compX (base m : Nat) (P : PL) (B : AW) : Nat → Cm
 | 4 => cmX P.xw P.Dx P.Fx
 | 5 => cmRow base 54 P.Dx 2 [ptrD P.px B 0, ptrD P.px B 1]
 | 6 => cmRow base 47 P.Fx 3 [ptrF P.gx B 0, ptrF P.gx B 1, ptrF P.gx B 2]
 | 9 => cmR base (P.Fr 0) (P.px 0) m (B.d 0)
 | 10 => cmR base (P.Fr 1) (P.px 1) m (B.d 1)
 | _ => Cm.no
theorem madeR_cm {B base m : Nat} {w : World} {r : Option DS} {e : Ending} (h : MadeR B m w r e) (hb : base ≤ B) : ∃ p F, e = .returned (.pointer (r.map fun _ => ⟨p, 0, none⟩)) ∧ (cmR base F p m r).ok base w ∧ ∀ q ∈ (cmR base F p m r).fp, B ≤ q := by
 cases r with
 | none => exact ⟨0, [], h, Cm.no_ok _ _, fun q hq => by cases hq⟩
 | some D =>
   obtain ⟨p, F, e1, h1⟩ := h
   exact ⟨p, F, e1, cmR_ok (h1.base_le hb), fun q hq => (h1.lt q hq).1⟩
theorem wpList_bs {w w' : World} {ops : Array Oper} {rest : List Oper} {o : Oper} {a : Act} {Q : Exit → Act → World → Prop} (hg : o.guard = none) (t : TypeId) (n : Nat) (ps : Array (Nat × Operand)) (ho : o.op = .buildSlice t n ps) (vs : Array (Nat × Value)) (hv : (ps.map fun (i, x) => (i, a.eval x)) = vs) (r : Value) (hr : (Instr.buildSlice t n vs).run Tryz.prog w = .ok r w')
   (h : wpList Tryz.prog ops Q rest (a.put o.dst r) w') : wpList Tryz.prog ops Q (o :: rest) a w := by
 refine wpList_plain hg fun K hK => ?_
 unfold Oper.wp execOp
 simp only [ho, hv, Sem.run_bind, hr, Result.andThen_ok, Sem.run_pure]
 exact hK _ _ h
theorem sc_at {w : World} {O : Nat} {s : SC} (h : w.heap[O]? = some (.cells s.C.toArray 27 (0, 0))) : w.rangeAt O 0 [.int .i64 s.pa, .slice s.s1 s.ia.length s.c1] ∧ w.rangeAt O 2 [.int .i64 s.pb, .slice s.s2 s.ib.length s.c2] := by
 constructor
 · intro j v hv
   have hj := (List.getElem?_eq_some_iff.1 hv).1
   rw [cell_of_row _ _ _ _ _ _ h]
   have : j = 0 ∨ j = 1 := by simp at hj; omega
   rcases this with rfl | rfl <;> simpa [SC.C] using hv
 · intro j v hv
   have hj := (List.getElem?_eq_some_iff.1 hv).1
   rw [cell_of_row _ _ _ _ _ _ h]
   have : j = 0 ∨ j = 1 := by simp at hj; omega
   rcases this with rfl | rfl <;> simpa [SC.C] using hv
theorem size_start : (Tryz.prog.info? 24).map (·.size) = some 2 := by kernel_rfl
theorem xBegin_any (w : World) (base m : Nat) (hb : base ≤ w.heap.size) (s : SC) (hs : ScOk w s) (s3 : Option Addr) (n3 c3 : Nat) (hov : s.ov = .slice s3 n3 c3) :
   Calls Tryz.prog 6 #[.agg s.C.toArray] w fun e w' => ∃ P : PL, e = .returned (.pointer (some ⟨P.xw, 0, none⟩)) ∧ Sep base w' (compX base m P (bgA s)) ∧ Below w.heap.size w w' := by
 have b1 : Below w.heap.size w ((w.alloc (.cells s.C.toArray 27)).alloc (.cells #[.slice none 0 0, .slice none 0 0] 51)) := ((Below.refl _ w).alloc (Nat.le_refl _) _).alloc (by simp) _
 have rO : ((w.alloc (.cells s.C.toArray 27)).alloc (.cells #[.slice none 0 0, .slice none 0 0] 51)).heap[w.heap.size]? = some (.cells s.C.toArray 27 (0, 0)) := hold (hnew w _)
 have rX : ((w.alloc (.cells s.C.toArray 27)).alloc (.cells #[.slice none 0 0, .slice none 0 0] 51)).heap[w.heap.size + 1]? = some (.cells #[.slice none 0 0, .slice none 0 0] 51 (0, 0)) := by have := hnew (w.alloc (.cells s.C.toArray 27)) (.cells #[.slice none 0 0, .slice none 0 0] 51); simpa using this
 have z1 : ((w.alloc (.cells s.C.toArray 27)).alloc (.cells #[.slice none 0 0, .slice none 0 0] 51)).heap.size = w.heap.size + 2 := by simp
 have hs1 := hs.below b1
 have LW := hid bl_world
 have bxw := bx_world
 have LA := hid (show (Tryz.prog.info? 24).map (·.size) = some ([.int .i64 s.pa, .slice s.s1 s.ia.length s.c1] : List Value).length by rw [size_start]; rfl)
 have LB := hid (show (Tryz.prog.info? 24).map (·.size) = some ([.int .i64 s.pb, .slice s.s2 s.ib.length s.c2] : List Value).length by rw [size_start]; rfl)
 have RA := hid (sc_at rO).1
 have HOV := hid hov
 have ya := hs.ya
 have la := hs.la
 have na := hs.na
 have yb := hs.yb
 have lb := hs.lb
 have nb := hs.nb
 clear hs hov
 go_enter Tryz.func6, Tryz.ntmps6
 go_wp2_with (first
   | refine wpList_box_sc rfl (.tmp 0) rfl s s3 n3 c3 HOV.out rfl ?_
   | refine wpList_built (by rfl) 51 _ (by rfl) _ (by rfl) _ LW.out ?_
   | (refine wpList_load_mid rfl 24 _ rfl w.heap.size 0 rfl [.int .i64 s.pa, .slice s.s1 s.ia.length s.c1] _ RA.out Tryz.underlying24 rfl LA.out ?_; refine Hid.out ?_))
 refine hid ?_
 clear bxw RA LW
 generalize (w.alloc (.cells s.C.toArray 27)).alloc (.cells #[.slice none 0 0, .slice none 0 0] 51) = w1 at *
 have KA := hid (xmade_any w1 s.pa s.ia ya la s.s1 s.c1 m hs1.sa na)
 go_wp2_with (first | (refine KA.out.mono ?_; rintro e w2 ⟨hM2, b2⟩; obtain ⟨pA, FA, rfl, okA, nwA⟩ := madeR_cm hM2 (base := base) (by omega); refine Hid.out ?_))
 refine hid ?_
 clear KA
 clear hM2
 have rO2 := hbel b2 rO (hlt_ rO)
 have rX2 := hbel b2 rX (hlt_ rX)
 have RB := hid (sc_at rO2).2
 have KB := hid (xmade_any w2 s.pb s.ib yb lb s.s2 s.c2 m (hs1.sb.below b2 (Nat.le_refl _)) nb)
 go_wp2_with (first
   | refine wpList_load_mid rfl 24 _ rfl w.heap.size 2 rfl [.int .i64 s.pb, .slice s.s2 s.ib.length s.c2] _ RB.out Tryz.underlying24 rfl LB.out ?_
   | (refine KB.out.mono ?_; rintro e w3 ⟨hM3, b3⟩; obtain ⟨pB, FB, rfl, okB, nwB⟩ := madeR_cm hM3 (base := base) (by have := b2.size; omega); refine Hid.out ?_))
 refine hid ?_
 clear KB RB
 clear hM3
 have rX3 := hbel b3 rX2 (hlt_ rX2)
 have S0 := Sep.start w1 base (by omega)
 have S1 := S0.new 9 b2 nwA okA
 have S2 := S1.new 10 b3 nwB okB
 have hx1 : w.heap.size + 1 < w1.heap.size := by omega
 have z2 := b2.size
 have z3 := b3.size
 have nx9 : ∀ k, w.heap.size + 1 ∉ (upC (upC (fun _ => Cm.no) 9 (cmR base FA pA m (mdF s.pa s.ia))) 10 (cmR base FB pB m (mdF s.pb s.ib)) k).fp := fun k hk => by
   by_cases e10 : k = 10
   · subst e10; rw [upC_at] at hk; have := nwB _ hk; omega
   · rw [upC_ne _ _ _ e10] at hk
     by_cases e9 : k = 9
     · subst e9; rw [upC_at] at hk; have := nwA _ hk; omega
     · rw [upC_ne _ _ _ e9] at hk; cases hk
 generalize hva : (mdF s.pa s.ia).map (fun _ => (⟨pA, 0, none⟩ : Addr)) = va at *
 generalize hvb : (mdF s.pb s.ib).map (fun _ => (⟨pB, 0, none⟩ : Addr)) = vb at *
 have HVA := hid hva
 have HVB := hid hvb
 clear hva hvb
 obtain ⟨i5, zz, hi5, hz5, hs5, hy5, hc5⟩ := infoPR
 obtain ⟨i6, zz6, hi6, hz6, hs6, hy6, hc6⟩ := infoPX
 have hown0 : ∀ W : World, W.ownsRow base 54 1 (.slice none 0 0) 0 [] := fun W => ⟨rfl, Or.inl ⟨rfl, rfl⟩⟩
 have hown1 : ∀ W : World, W.ownsRow base 47 1 (.slice none 0 0) 0 [] := fun W => ⟨rfl, Or.inl ⟨rfl, rfl⟩⟩
 have BS := hid (bs_rd va vb w3)
 have cX3 : w3.cell? ⟨w.heap.size + 1, 0, none⟩ = some (.slice none 0 0) := by rw [cell_of_row _ _ _ _ _ _ rX3]; rfl
 have cl2 : ∀ j u, ([.pointer va, .pointer vb] : List Value)[j]? = some u → (w3.alloc (.cells #[.pointer va, .pointer vb] 54)).cell? ((⟨w3.heap.size, 0, none⟩ : Addr).add j) = some u := by
   intro j u hu
   rw [Addr.add_mid, Nat.zero_add, cell_of_row _ _ _ _ _ _ (hnew w3 _)]
   simpa using hu
 have one2 : ∀ u ∈ ([.pointer va, .pointer vb] : List Value), u.oneCell' = true := by intro u hu; simp at hu; rcases hu with rfl | rfl <;> rfl
 have HC2 := hid cl2
 have HO2 := hid one2
 clear cl2 one2
 go_wp2_with (first
   | (refine wpList_bs rfl 48 2 #[(0, .tmp 19), (1, .tmp 20)] rfl #[(0, .pointer va), (1, .pointer vb)] (by simp [Act.eval]) _ BS.out ?_; refine Hid.out ?_))
 refine hid ?_
 refine wpList_append_own_at _ rfl (.tmp 18) (.tmp 21) 48 rfl base 54 i5 zz 1 8 Tryz.underlying48 hi5 hz5 hs5 hy5 hc5 (by decide) (.slice none 0 0) 0 [] rfl (hown0 _) ⟨w3.heap.size, 0, none⟩ 2 2 [.pointer va, .pointer vb] rfl rfl HC2.out HO2.out (by simp [maxLen]) (by omega) (by simp; omega) ?_
 intro v4 w4 hR4 hg4 _ hv4
 have b4 : Below w3.heap.size w3 w4 := ((Below.refl _ w3).alloc (Nat.le_refl _) _).trans (grown_keeps hg4 (fun k hk => by cases hk) (by simp))
 have rX4 := hbel b4 rX3 (hlt_ rX3)
 have hv4b : ∀ k, v4.ownBlock = some k → w3.heap.size < k := fun k e => by
   rcases hv4 with q | q
   · rw [q] at e; cases e
   · rw [q] at e; cases e; simp
 obtain ⟨bd, cdd, rfl, -⟩ := row_at hR4 (by omega)
 have S4 := S2.new 5 b4 (c := cmRow base 54 (.slice (some ⟨bd, 0, none⟩) 2 cdd) 2 [.pointer va, .pointer vb]) (fun k hk => by have := hv4b k (by simpa [cmRow] using hk); omega) (cmRow_ok hR4)
 have fz4 : w4.frozen? ⟨w.heap.size + 1, 0, none⟩ = false := frozen_of_row _ _ _ _ _ rX4
 have cX4 : w4.cell? ⟨w.heap.size + 1, 0, none⟩ = some (.slice none 0 0) := by rw [cell_of_row _ _ _ _ _ _ rX4]; rfl
 have z4 := b4.size
 clear HC2 HO2 BS hown0 S0 S1
 have rX5 : (w4.setCell ⟨w.heap.size + 1, 0, none⟩ (.slice (some ⟨bd, 0, none⟩) 2 cdd)).heap[w.heap.size + 1]? = some (.cells #[.slice (some ⟨bd, 0, none⟩) 2 cdd, .slice none 0 0] 51 (0, 0)) := heap_setCell_same _ _ _ _ _ _ rX4
 have cX5 : (w4.setCell ⟨w.heap.size + 1, 0, none⟩ (.slice (some ⟨bd, 0, none⟩) 2 cdd)).cell? ⟨w.heap.size + 1, 1, none⟩ = some (.slice none 0 0) := by rw [cell_of_row _ _ _ _ _ _ rX5]; rfl
 have nx5 : ∀ k, w.heap.size + 1 ∉ (upC (upC (upC (fun _ => Cm.no) 9 (cmR base FA pA m (mdF s.pa s.ia))) 10 (cmR base FB pB m (mdF s.pb s.ib))) 5 (cmRow base 54 (.slice (some ⟨bd, 0, none⟩) 2 cdd) 2 [.pointer va, .pointer vb]) k).fp := fun k hk => by
   by_cases e5 : k = 5
   · subst e5; rw [upC_at] at hk; have := hv4b _ (by simpa [cmRow] using hk); omega
   · rw [upC_ne _ _ _ e5] at hk; exact nx9 k hk
 have f5 : Go.Proofs.YtjhocjjecfdphaaGreatDoor.Fr [w.heap.size + 1] w4 (w4.setCell ⟨w.heap.size + 1, 0, none⟩ (.slice (some ⟨bd, 0, none⟩) 2 cdd)) := (Fr.refl _ w4).setCell List.mem_cons_self 0 _
 have S5 := S4.frame f5 (fun q hq k => by rw [List.mem_singleton.1 hq]; exact nx5 k)
 have HZ5 := hid (show (w4.setCell ⟨w.heap.size + 1, 0, none⟩ (.slice (some ⟨bd, 0, none⟩) 2 cdd)).heap.size = w4.heap.size by simp)
 have HS5 := hid S5
 have HF5 := hid f5
 have HN5 := hid nx5
 have HR5 := hid rX5
 clear S4 S2 S5 f5 nx5 nx9 rX5
 go_wp2_with (first | refine wpList_bs rfl 49 3 #[(0, .const (.pointer none)), (1, .const (.pointer none)), (2, .const (.pointer none))] rfl #[(0, .pointer none), (1, .pointer none), (2, .pointer none)] (by simp [Act.eval]) _ (bs_xf _) ?_; refine Hid.out ?_)
 refine hid ?_
 generalize w4.setCell ⟨w.heap.size + 1, 0, none⟩ (.slice (some ⟨bd, 0, none⟩) 2 cdd) = w5 at *
 have z5 := HF5.out.size
 refine wpList_append_own_at _ rfl (.tmp 29) (.tmp 30) 49 rfl base 47 i6 zz6 1 8 Tryz.underlying49 hi6 hz6 hs6 hy6 hc6 (by decide) (.slice none 0 0) 0 [] rfl (hown1 _) ⟨w4.heap.size, 0, none⟩ 3 3 [.pointer none, .pointer none, .pointer none] rfl rfl (by
   intro j u hu
   rw [Addr.add_mid, Nat.zero_add, ← HZ5.out, cell_of_row _ _ _ _ _ _ (hnew w5 _)]
   simpa using hu) (by intro u hu; simp at hu; subst hu; rfl) (by simp [maxLen]) (by omega) (by simp; omega) ?_
 intro v6 w6 hR6 hg6 _ hv6
 have b6 : Below w5.heap.size w5 w6 := ((Below.refl _ w5).alloc (Nat.le_refl _) _).trans (grown_keeps hg6 (fun k hk => by cases hk) (by simp))
 have rX6 := hbel b6 HR5.out (hlt_ HR5.out)
 have hv6b : ∀ k, v6.ownBlock = some k → w5.heap.size < k := fun k e => by
   rcases hv6 with q | q
   · rw [q] at e; cases e
   · rw [q] at e; cases e; simp
 obtain ⟨bf, cff, rfl, -⟩ := row_at hR6 (by omega)
 have S6 := HS5.out.new 6 b6 (c := cmRow base 47 (.slice (some ⟨bf, 0, none⟩) 3 cff) 3 [.pointer none, .pointer none, .pointer none]) (fun k hk => by have := hv6b k (by simpa [cmRow] using hk); omega) (cmRow_ok hR6)
 have fz6 : w6.frozen? ⟨w.heap.size + 1, 1, none⟩ = false := frozen_of_row _ _ _ _ _ rX6
 have cX6 : w6.cell? ⟨w.heap.size + 1, 1, none⟩ = some (.slice none 0 0) := by rw [cell_of_row _ _ _ _ _ _ rX6]; rfl
 have nx6 : ∀ k, w.heap.size + 1 ∉ (upC (upC (upC (upC (fun _ => Cm.no) 9 (cmR base FA pA m (mdF s.pa s.ia))) 10 (cmR base FB pB m (mdF s.pb s.ib))) 5 (cmRow base 54 (.slice (some ⟨bd, 0, none⟩) 2 cdd) 2 [.pointer va, .pointer vb])) 6 (cmRow base 47 (.slice (some ⟨bf, 0, none⟩) 3 cff) 3 [.pointer none, .pointer none, .pointer none]) k).fp := fun k hk => by
   by_cases e6 : k = 6
   · subst e6; rw [upC_at] at hk; have := hv6b _ (by simpa [cmRow] using hk); omega
   · rw [upC_ne _ _ _ e6] at hk; exact HN5.out k hk
 have f7 : Go.Proofs.YtjhocjjecfdphaaGreatDoor.Fr [w.heap.size + 1] w6 (w6.setCell ⟨w.heap.size + 1, 1, none⟩ (.slice (some ⟨bf, 0, none⟩) 3 cff)) := (Fr.refl _ w6).setCell List.mem_cons_self 1 _
 have rX7 : (w6.setCell ⟨w.heap.size + 1, 1, none⟩ (.slice (some ⟨bf, 0, none⟩) 3 cff)).heap[w.heap.size + 1]? = some (.cells #[.slice (some ⟨bd, 0, none⟩) 2 cdd, .slice (some ⟨bf, 0, none⟩) 3 cff] 51 (0, 0)) := heap_setCell_same _ _ _ _ _ _ rX6
 have S7 := S6.frame f7 (fun q hq k => by rw [List.mem_singleton.1 hq]; exact nx6 k)
 have z6 := b6.size
 have S8 := S7.put 4 (c := cmX (w.heap.size + 1) (.slice (some ⟨bd, 0, none⟩) 2 cdd) (.slice (some ⟨bf, 0, none⟩) 3 cff)) (cmX_ok rX7 (by omega)) (fun k hk q hq hq2 => by
   have : q = w.heap.size + 1 := List.mem_singleton.1 hq
   subst this; exact nx6 k hq2)
 have HEND := hid (show ∃ P : PL, Ending.returned (.pointer (some ⟨w.heap.size + 1, 0, none⟩)) = Ending.returned (.pointer (some ⟨P.xw, 0, none⟩)) ∧ Sep base (w6.setCell ⟨w.heap.size + 1, 1, none⟩ (.slice (some ⟨bf, 0, none⟩) 3 cff)) (compX base m P (bgA s)) ∧ Below w.heap.size w (w6.setCell ⟨w.heap.size + 1, 1, none⟩ (.slice (some ⟨bf, 0, none⟩) 3 cff)) from by
   refine ⟨⟨0, w.heap.size + 1, .slice none 0 0, .slice none 0 0, .slice none 0 0, .slice (some ⟨bd, 0, none⟩) 2 cdd, .slice (some ⟨bf, 0, none⟩) 3 cff, fun _ => 0, fun i => if i = 0 then pA else pB, fun _ => [], fun i => if i = 0 then FA else FB, fun _ => 0, fun _ => 0⟩, rfl, ?_, ?_⟩
   · have e : compX base m ⟨0, w.heap.size + 1, .slice none 0 0, .slice none 0 0, .slice none 0 0, .slice (some ⟨bd, 0, none⟩) 2 cdd, .slice (some ⟨bf, 0, none⟩) 3 cff, fun _ => 0, fun i => if i = 0 then pA else pB, fun _ => [], fun i => if i = 0 then FA else FB, fun _ => 0, fun _ => 0⟩ (bgA s) = upC (upC (upC (upC (upC (fun _ => Cm.no) 9 (cmR base FA pA m (mdF s.pa s.ia))) 10 (cmR base FB pB m (mdF s.pb s.ib))) 5 (cmRow base 54 (.slice (some ⟨bd, 0, none⟩) 2 cdd) 2 [.pointer va, .pointer vb])) 6 (cmRow base 47 (.slice (some ⟨bf, 0, none⟩) 3 cff) 3 [.pointer none, .pointer none, .pointer none])) 4 (cmX (w.heap.size + 1) (.slice (some ⟨bd, 0, none⟩) 2 cdd) (.slice (some ⟨bf, 0, none⟩) 3 cff)) := by
       rw [← HVA.out, ← HVB.out]
       funext k
       rcases k with _ | _ | _ | _ | _ | _ | _ | _ | _ | _ | _ | k
       all_goals rfl
     rw [e]; exact S8
   · have q1 : Below w.heap.size w w4 := ((b1.trans (b2.mono b1.size)).trans (b3.mono (by omega))).trans (b4.mono (by omega))
     have q2 : Below w.heap.size w4 w5 := HF5.out.below (fun k hk => by rw [List.mem_singleton.1 hk]; omega) (by omega)
     have q3 : Below w.heap.size w5 w6 := b6.mono (by omega)
     have q4 : Below w.heap.size w6 _ := f7.below (fun k hk => by rw [List.mem_singleton.1 hk]; omega) (by omega)
     exact (q1.trans q2).trans (q3.trans q4))
 clear HS5 HF5 HN5 HR5 S6 S7 S8 nx6 f7 rX7
 go_wp2_with fail
 go_ret
 exact HEND.out
theorem Nx.drew' {base : Nat} {F : List Nat} {p : Nat} {w w1 : World} {D : DS} (h : Nx base F p w.drew D w1) : Nx base F p w D w1 := by
 obtain ⟨F1, y1, y2, y3⟩ := h; exact ⟨F1, y1, (Fr.refl F w).drew.trans y2 (Gr.refl _ _), y3⟩
theorem NxF.drew' {base : Nat} {F : List Nat} {p g : Nat} {w w1 : World} {D : DS} {s : Sup} {nx ep : Int} (h : NxF base F p g w.drew D s nx ep w1) : NxF base F p g w D s nx ep w1 := by
 obtain ⟨F1, y1, y2, y3, y4⟩ := h; exact ⟨F1, y1, y2, (Fr.refl (g :: F) w).drew.trans y3 (Gr.refl _ _), y4⟩
theorem Own7.drew' {base : Nat} {F : List Nat} {p pw g : Nat} {Dv Fv Rv : Value} {w w1 : World} {D : DS} {s : Sup} {nx ep : Int} (h : Own7 base F p pw g Dv Fv Rv w.drew D s nx ep w1) : Own7 base F p pw g Dv Fv Rv w D s nx ep w1 :=
 ⟨h.it, h.os, h.tape, h.output, h.size, h.block⟩
theorem Pro.end7 {w w2 w3 : World} {o : OP} {rv : Value} (h : Pro w w2 o rv) {base : Nat} {F : List Nat} {p pw g : Nat} {Dv Fv Rv : Value} {D : DS} {s : Sup} {nx ep : Int} (hF : ∀ k ∈ F, k < w.heap.size) (hg : g < w.heap.size) (hp : pw < w.heap.size) (hR : ∀ k, Rv.ownBlock = some k → k < w.heap.size) (hx : Own7 base F p pw g Dv Fv Rv w2 D s nx ep w3) (cs : Array Value) : Own7 base F p pw g Dv Fv Rv w D s nx ep (w3.setRow (w.heap.size + 1) cs) := by
 obtain ⟨F', Rv', rm', h1, h2, h3, h4, h5, h6, h7, h8⟩ := hx.it
 have hs := h.sz
 refine ⟨⟨F', Rv', rm', h1.of_heap fun k hk => setRow_other _ _ _ _ (fun e => ?_), (setRow_other _ _ _ _ (by omega)).trans h2, (setRow_other _ _ _ _ (by omega)).trans h3, h4.of_heap fun k e => setRow_other _ _ _ _ (fun q => ?_), h5, h6, fun k hk => (h7 k hk).imp id (fun q => by omega), fun k e => ⟨(h8 k e).1.imp id (fun q => by omega), (h8 k e).2⟩⟩, hx.os.trans h.bl.os, hx.tape.trans h.bl.tape, hx.output.trans h.bl.output, by rw [setRow_size]; exact Nat.le_trans h.bl.size hx.size, fun k hk a b c d => ?_⟩
 · rcases h7 k hk with q | q
   · have := hF k q; omega
   · omega
 · rcases (h8 k e).1 with r | r
   · have := hR k r; omega
   · omega
 · rw [setRow_other _ _ _ _ (by omega), hx.block k (by omega) a b c d, h.bl.block k hk]
end
end Go.Proofs.YtjhocjjecfdphaaGreatDoor
