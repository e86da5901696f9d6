import Derived.Test.YtcndllcalnffoaaDoorSf
import Derived.Test.YtcndllcalnffoaaDoorO7
namespace Go.Proofs.YtcndllcalnffoaaDoor
set_option linter.unusedVariables false
set_option linter.unusedSimpArgs false
open Go.RowKit
open Go.Proofs.YtcndllcalnffoaaDoor.Ca (Ct ct0 ctC argV AS)
attribute [local go_sem ↓] Go.wp_at_zero Go.wp_at_succ

theorem wpList_fieldW1 {ops : Array Oper} {rest : List Oper} {o : Oper} {a : Act} {w : World} {Q : Exit → Act → World → Prop} (hw : Region.wanted o (yielded ops a.tmps) = true) (x : Operand) (ho : o.op = .field 26 x 1) (s2 : Sup) (y : Int) (hy : s2.ge = y) (hx : a.eval x = .agg (supC s2))
    (h : wpList Tryd.prog ops Q rest (a.put o.dst (.int .i64 y)) w) : wpList Tryd.prog ops Q (o :: rest) a w := by
  refine BigFrame.wpList_want hw fun K hK => ?_
  unfold Oper.wp
  have e : (execOp a.eval o).run Tryd.prog w = .ok (.value (.int .i64 y)) w := by
    subst hy
    unfold execOp
    simp only [ho, hx]
    kernel_rfl
  rw [e]
  exact hK _ _ h
theorem Mds.later {w w1 : World} {B : Nat} {sp : Option Addr} {ms : List MD} (h : Mds w B sp ms) (hb : Below B w w1) : Mds w1 B sp ms := by
  obtain ⟨b, o, h1, h2⟩ := h
  refine ⟨b, o, h1, fun i hi => ?_⟩
  obtain ⟨tp, tc, q3, q4, q5⟩ := h2 i hi
  have q1 := (h1 (by omega)).1
  exact ⟨tp, tc, fun j v hv => (hb.cell (p := ⟨b, o + i * 2 + j, none⟩) q1).trans (q3 j v hv), SrcB q4 hb q5, q5⟩
theorem Mds.wide {w : World} {B B2 : Nat} {sp : Option Addr} {ms : List MD} (h : Mds w B sp ms) (hB : B ≤ B2) : Mds w B2 sp ms := by
  obtain ⟨b, o, h1, h2⟩ := h
  refine ⟨b, o, fun q => ⟨by have := (h1 q).1; omega, (h1 q).2⟩, fun i hi => ?_⟩
  obtain ⟨tp, tc, q3, q4, q5⟩ := h2 i hi
  exact ⟨tp, tc, q3, q4, fun q a e => by have := q5 q a e; omega⟩
theorem Sx.next {w : World} {base : Nat} {S : Sto} {n : Nat} {o : Sup} {L : List (Int × List Int)} {b : Nat} {a : Int} (h : Sx w base S n o L b a) (hv : S.vs.length ≤ 4096) (x : Int) (hx : x = 2 + (L.length : Int) + (S.vs.length : Int)) : Calls Tryd.prog 14 #[.pointer (some ⟨S.st, 0, none⟩)] w fun e w' => e = .returned (.int .i64 x) ∧ Below w.heap.size w w' := by
  obtain ⟨b1, b2, b3, b4, b5⟩ := h.bd
  have := oNext_any w base S h.sk (by omega) (by rw [b1]; omega)
  rw [show S.s.ma + (S.cts.length : Int) = x by rw [b1, b4, hx]; push_cast; rfl] at this
  exact this
theorem Sx.staged {w : World} {base : Nat} {S : Sto} {n : Nat} {o : Sup} {L : List (Int × List Int)} {b : Nat} {a : Int} (h : Sx w base S n o L b a) (hv : S.vs.length ≤ 4096) (x : Int) (hx : x = (S.vs.length : Int)) : Calls Tryd.prog 15 #[.pointer (some ⟨S.st, 0, none⟩)] w fun e w' => e = .returned (.int .i64 x) ∧ w = w' := by
  have := oStaged_any w base S h.sk (by rw [h.sk.cl]; omega)
  rw [h.sk.cl, ← hx] at this
  exact this
theorem md_take {ms : List MD} (hok : ∀ i, i < ms.length → MdOk (ms.getD i dM)) : ∀ i, i < (ms.take 14).length → MdOk ((ms.take 14).getD i dM) := fun i hi => by
  have e : (ms.take 14).getD i dM = ms.getD i dM := by
    rw [List.length_take] at hi
    rw [List.getD_eq_getElem?_getD, List.getD_eq_getElem?_getD, List.getElem?_take, if_pos (by omega)]
  rw [e]; exact hok i (by rw [List.length_take] at hi; omega)
set_option maxRecDepth 100000 in
theorem cut14_any (w : World) (sp : Option Addr) (cap : Nat) (ms : List MD) (hM : Mds w w.heap.size sp ms) (hc : ms.length ≤ cap) (hcl : cap ≤ 9223372036854775807) :
    Calls Tryd.prog 7 #[.slice sp ms.length cap, .int .i64 14] w fun e w' => e = .returned (.slice sp (ms.take 14).length cap) ∧ w' = w := by
  rw [List.length_take]
  by_cases h : 14 < ms.length
  · obtain ⟨b, o, h1, _⟩ := hM
    obtain ⟨-, rfl⟩ := h1 (by omega)
    rw [show min 14 ms.length = 14 by omega]
    have i0 : (14 : Int) < (ms.length : Int) := by omega
    have i1 : (14 : Int) ≤ (cap : Int) := by omega
    have i2 : (ms.length : Int) ≤ (cap : Int) := by omega
    have i3 : (cap : Int) ≤ 9223372036854775807 := by omega
    generalize ms.length = n at *
    go_enter Tryd.func7, Tryd.ntmps7
    go_wp2
    go_ret
    exact ⟨rfl, rfl⟩
  · rw [show min 14 ms.length = ms.length by omega]
    have i0 : (ms.length : Int) ≤ 14 := by omega
    generalize ms.length = n at *
    go_enter Tryd.func7, Tryd.ntmps7
    go_wp2
    go_ret
    exact ⟨rfl, rfl⟩

def cntC (a b c d : Int) : Array Value := #[.int .i64 a, .int .i64 b, .int .i64 c, .int .i64 d]
theorem guardN : Tryd.prog.eqGuardType Tryd.prog.depth 39 = false := by kernel_rfl
theorem eqCnt (a b c d : Int) (w : World) : (Op.equalIn 10000 39 (.agg (cntC a b c d)) (.agg (cntC a b c d))).run Tryd.prog w = .ok true w := by
  unfold cntC
  go_simp
theorem size_counts : (Tryd.prog.info? 39).map (·.size) = some 4 := by kernel_rfl
def zr (n : Nat) : List Int := List.replicate n 0
/-- The superblocks of the disk. -/
def mS (g : Int) : Sup := ⟨9, g, 2, 0, 16⟩
def MI (g : Int) (I0 I1 : List Int) : Prop := (g % 2 = 0 ∧ I0 = secS (mS g) ++ zr 192 ∧ I1 = secS (mS (g - 1)) ++ zr 192) ∨ (g % 2 = 1 ∧ I0 = secS (mS (g - 1)) ++ zr 192 ∧ I1 = secS (mS g) ++ zr 192)
theorem mS_val (g : Int) (h0 : 0 ≤ g) (h1 : g ≤ 1099511627776) : validS (mS g) = true := (validS_iff _).2 ⟨(by decide : (1 : Int) ≤ 9), (by decide : (9 : Int) ≤ 32), h0, h1, (by decide : (3 : Int) ≤ 16), (by decide : (16 : Int) ≤ 4096), (by decide : (2 : Int) ≤ 2), (by decide : (2 : Int) ≤ 16), Or.inl rfl⟩
theorem zr_byts (n : Nat) : Byts (zr n) := fun x hx => by unfold zr at hx; simp at hx; omega
theorem zr_len (n : Nat) : (zr n).length = n := by simp [zr]
theorem most_hs (g : Int) (h0 : 1 ≤ g) (h1 : g ≤ 1099511627776) (I0 I1 : List Int) (h : MI g I0 I1) : Hs (newD (I0 ++ I1 ++ zr 3584)) 16 (mS g) (mS (g - 1)) [] ∧ (I0 ++ I1 ++ zr 3584).length = 4096 ∧ Bts (I0 ++ I1 ++ zr 3584) ∧ I0.length = 256 ∧ I1.length = 256 := by
  have vs := mS_val g (by omega) h1
  have vo := mS_val (g - 1) (by omega) (by omega)
  have bz := zr_byts 192
  have l0 : I0.length = 256 := by rcases h with h | h <;> rw [h.2.1, List.length_append, secS_len, zr_len]
  have l1 : I1.length = 256 := by rcases h with h | h <;> rw [h.2.2, List.length_append, secS_len, zr_len]
  have b0 : Byts I0 := by
    rcases h with h | h <;> rw [h.2.1]
    · exact byts_app (secS_byts _ vs) bz
    · exact byts_app (secS_byts _ vo) bz
  have b1 : Byts I1 := by
    rcases h with h | h <;> rw [h.2.2]
    · exact byts_app (secS_byts _ vo) bz
    · exact byts_app (secS_byts _ vs) bz
  have hl : (I0 ++ I1 ++ zr 3584).length = 4096 := by rw [List.length_append, List.length_append, l0, l1, zr_len]
  have hb : Bts (I0 ++ I1 ++ zr 3584) := byts_app (byts_app b0 b1) (zr_byts 3584)
  have p0 : pgO (I0 ++ I1 ++ zr 3584) 0 = I0 := by unfold pgO; rw [Nat.zero_mul, List.drop_zero, List.append_assoc, List.take_left' l0]
  have p1 : pgO (I0 ++ I1 ++ zr 3584) 1 = I1 := by unfold pgO; rw [Nat.one_mul, List.append_assoc, List.drop_left' l0, List.take_left' l1]
  refine ⟨⟨newD_ok (n := 16) (by omega) (by omega) (by rw [hl]) hb, ?_, rfl, rfl, ?_, rfl, rfl, fun j hj => absurd hj (by simp), (fun v hv => by cases hv), by show 2 + 0 ≤ 16; omega⟩, hl, hb, l0, l1⟩
  · show (I0 ++ I1 ++ zr 3584).length / 256 = 16
    rw [hl]
  · show Good (mS g) (mS (g - 1)) (pgO (I0 ++ I1 ++ zr 3584) 0) (pgO (I0 ++ I1 ++ zr 3584) 1)
    rw [p0, p1]
    exact ⟨vs, vo, ⟨by show g = g - 1 + 1; omega, rfl, rfl, (by decide : (2 : Int) ≤ 2)⟩, zr 192, zr 192, zr_len 192, zr_len 192, bz, bz, h⟩
theorem spl2 (I0 I1 : List Int) (l0 : I0.length = 256) (l1 : I1.length = 256) : splice (splice (ints .u8 (padz [] 4096)) 0 (ints .u8 I0)) 256 (ints .u8 I1) = ints .u8 (I0 ++ I1 ++ zr 3584) := by
  have e : padz [] 4096 = zr 4096 := by unfold padz zr; rw [List.nil_append, List.length_nil, Nat.sub_zero]
  have e2 : ints .u8 (zr 4096) = ints .u8 (zr 256) ++ (ints .u8 (zr 256) ++ ints .u8 (zr 3584)) := by
    unfold ints zr
    rw [← List.map_append, ← List.map_append, List.replicate_append_replicate, List.replicate_append_replicate]
  have a0 : (ints .u8 I0).length = 256 := by rw [ints_len, l0]
  have a1 : (ints .u8 I1).length = 256 := by rw [ints_len, l1]
  have az : (ints .u8 (zr 256)).length = 256 := by rw [ints_len, zr_len]
  unfold splice
  rw [e, e2, a0, a1, List.take_zero, List.nil_append, Nat.zero_add, List.drop_left' az, List.take_left' a0, ← List.drop_drop, List.drop_left' a0, List.drop_left' az]
  simp only [ints, List.map_append, List.append_assoc]
/-- The disk is claimed by another: the store is stale. -/
theorem Sx.claim {w : World} {base : Nat} {S : Sto} {n : Nat} {o : Sup} {L : List (Int × List Int)} {b : Nat} (h : Sx w base S n o L b 0) (hb : b ≤ 100000) :
    Calls Tryd.prog 17 #[.pointer (some ⟨S.p, 0, none⟩)] w fun e w' => e = .returned (.int .i64 (S.D.epoch + 1)) ∧ (∀ w1 hd, Below w'.heap.size w' w1 → Calls Tryd.prog 10 #[.pointer (some ⟨S.st, 0, none⟩), .int .i64 hd] w1 fun e w2 => e = .returned (.int .i64 3) ∧ Below w1.heap.size w1 w2) ∧ Below base w w' := by
  refine (Claim_any w base S.F S.p S.D h.sk.da (by have := h.ep; omega)).mono ?_
  rintro e w' ⟨rfl, F7, hD7, hF7, hG7⟩
  have hm := h.bd.1
  have hf : FK w' S.g S.p S.s S.s.ma S.ep := by
    have := h.sk.fk.other h.sk.da hF7
    rw [h.nx] at this
    rw [hm]; exact this
  have hK := h.sk.disked (F' := F7) (D' := { S.D with epoch := S.D.epoch + 1 }) hD7 (2 + L.length) hm hf (hF7.wide S.g) hG7 (fun x _ => rfl)
  refine ⟨rfl, fun w1 hd hb1 => oFlush_dead w1 base _ (hK.below hb1) 3 ?_ (by decide) hd, hF7.below (fun k hk => (h.sk.in_lt (by simp [hk])).1) h.sk.base⟩
  have := (live_0 h.lv).1
  show liveF { S.D with epoch := S.D.epoch + 1 } S.ep = 3
  unfold liveF
  rw [if_pos (by show S.D.epoch + 1 ≠ S.ep; omega)]
def R7 (b0 : Bool) (w : World) (s7 : Value) (wx : World) : Prop := ∃ g : Int, s7 = .int .i64 g ∧ ((b0 = false ∧ g = 1099511627776) ∨ (b0 = true ∧ g = 1099511627775)) ∧ w = wx
/-- The superblocks are laid. -/
def R8 (g : Int) (w2 : World) (s8 s9 : Value) (wx : World) : Prop := ∃ (spA : Option Addr) (capA : Nat) (spB : Option Addr) (capB : Nat) (I0 I1 : List Int), s8 = .slice spA 256 capA ∧ s9 = .slice spB 256 capB ∧ Src w2 spA capA I0 ∧ Src w2 spB capB I1 ∧ MI g I0 I1 ∧ w2 = wx
/-- The generation is the highest. -/
def R74 (B km : Nat) (wr : World) (st p : Nat) (s15 : Value) (wx : World) : Prop := ∃ (S : Sto) (o : Sup) (L : List (Int × List Int)) (h : Int), s15 = .int .i64 h ∧ Sx wx B S 16 o L 1000 0 ∧ S.s.ge = 1099511627776 ∧ S.st = st ∧ S.p = p ∧ (h = 0 ∨ (2 ≤ h ∧ h < 2 + (km : Int))) ∧ L.length + S.vs.length = km ∧ Below B wr wx
end Go.Proofs.YtcndllcalnffoaaDoor
