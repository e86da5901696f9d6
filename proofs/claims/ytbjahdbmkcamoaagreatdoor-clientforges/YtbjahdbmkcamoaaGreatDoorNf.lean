import Derived.Test.YtbjahdbmkcamoaaGreatDoorNe
namespace Go.Proofs.YtbjahdbmkcamoaaGreatDoor
set_option linter.unusedVariables false
set_option linter.unusedSimpArgs false
open Go.RowKit
attribute [local go_sem ↓] Go.wp_at_zero Go.wp_at_succ

theorem or_nat (A x k : Nat) (hk : k ≤ 24) (hA : A < 2 ^ k) (hx : x < 256) : bits .or .i64 (A : Int) ((x * 2 ^ k : Nat) : Int) = ((A + x * 2 ^ k : Nat) : Int) := by
  have h24 : (2 : Nat) ^ k ≤ 2 ^ 24 := Nat.pow_le_pow_right (by decide) hk
  have hxp : x * 2 ^ k ≤ 255 * 2 ^ 24 := Nat.mul_le_mul (by omega) h24
  show IntKind.i64.wrap ((BitVec.ofInt 64 (A : Int) ||| BitVec.ofInt 64 ((x * 2 ^ k : Nat) : Int)).toNat : Int) = _
  have e1 : (BitVec.ofInt 64 (A : Int)).toNat = A := by rw [BitVec.toNat_ofInt]; omega
  have e2 : (BitVec.ofInt 64 ((x * 2 ^ k : Nat) : Int)).toNat = x * 2 ^ k := by rw [BitVec.toNat_ofInt]; omega
  rw [BitVec.toNat_or, e1, e2, Nat.or_comm, Nat.mul_comm x, ← Nat.two_pow_add_eq_or_of_lt hA, Nat.add_comm, IntKind.wrap_i64]
  rw [Nat.mul_comm] at hxp
  omega
theorem results_c3 {P : Program} {fn : Func} {p q r : Tmp} {ty : TypeId} (h : fn.results = #[.cell p ty, .tmp q, .tmp r]) (tmps : Array Value) (w : World) (g : Nat) (t : TypeId) (cs : Array Value) (fr : Nat × Nat) (d : TypeDesc)
    (hp : tmps.getD p undef = .pointer (some ⟨g, 0, none⟩)) (hg : w.heap[g]? = some (.cells cs t fr))
    (hu : P.underlying ty = some d) (hd : (match d with | .struct _ | .array _ _ => true | _ => false) = true) (hi : (P.info? ty).map (·.size) = some cs.size) :
    (results fn tmps).run P w = .ok (.tuple #[.agg cs, tmps.getD q undef, tmps.getD r undef]) w := by
  have hp' : tmps[p]?.getD undef = .pointer (some ⟨g, 0, none⟩) := by simpa using hp
  simp [results, h, hp', asAddr, run_loadVar_row w g t ty cs fr d hg hu hd hi]
theorem results_c2 {P : Program} {fn : Func} {p q : Tmp} {ty : TypeId} (h : fn.results = #[.cell p ty, .tmp q]) (tmps : Array Value) (w : World) (g : Nat) (t : TypeId) (cs : Array Value) (fr : Nat × Nat) (d : TypeDesc)
    (hp : tmps.getD p undef = .pointer (some ⟨g, 0, none⟩)) (hg : w.heap[g]? = some (.cells cs t fr))
    (hu : P.underlying ty = some d) (hd : (match d with | .struct _ | .array _ _ => true | _ => false) = true) (hi : (P.info? ty).map (·.size) = some cs.size) :
    (results fn tmps).run P w = .ok (.tuple #[.agg cs, tmps.getD q undef]) w := by
  have hp' : tmps[p]?.getD undef = .pointer (some ⟨g, 0, none⟩) := by simpa using hp
  simp [results, h, hp', asAddr, run_loadVar_row w g t ty cs fr d hg hu hd hi]
theorem src_cut {w : World} {b o cap : Nat} {t : List Int} (hS : Src w (some ⟨b, o, none⟩) cap t) (n : Nat) (h : n ≤ t.length) : Src w (some ⟨b, o, none⟩) n (t.take n) := by
  obtain ⟨h1, h2, b', o', h3, h4, h5⟩ := hS
  refine ⟨by rw [List.length_take]; omega, by omega, b', o', fun h => h3 (by rw [List.length_take] at h; omega), fun h => h4 (by rw [List.length_take] at h; omega), fun j hj => ?_⟩
  rw [List.length_take] at hj
  rw [h5 j (by omega), List.getD_eq_getElem?_getD, List.getD_eq_getElem?_getD, List.getElem?_take, if_pos (by omega)]
theorem src_rest {w : World} {b o cap : Nat} {t : List Int} (hS : Src w (some ⟨b, o, none⟩) cap t) (n : Nat) (h : n ≤ t.length) : Src w (some ⟨b, o + n, none⟩) (cap - n) (t.drop n) := by
  obtain ⟨h1, h2, b', o', h3, h4, h5⟩ := hS
  refine ⟨by rw [List.length_drop]; omega, by omega, b, o + n, fun h => ?_, fun h => rfl, fun j hj => ?_⟩
  · rw [List.length_drop] at h
    have e := h4 (by omega)
    cases e
    exact h3 (by omega)
  · rw [List.length_drop] at hj
    have e := h4 (by omega)
    cases e
    rw [Nat.add_assoc, h5 (n + j) (by omega), List.getD_eq_getElem?_getD, List.getD_eq_getElem?_getD, List.getElem?_drop]
def CutP (b : Nat) (t : List Int) (n : Nat) (w w' : World) (e : Ending) : Prop :=
  ∃ o1 c1 o2 c2, e = .returned (.tuple #[.slice (some ⟨b, o1, none⟩) n c1, .slice (some ⟨b, o2, none⟩) (t.length - n) c2, .bool true]) ∧ Src w' (some ⟨b, o1, none⟩) c1 (t.take n) ∧ Src w' (some ⟨b, o2, none⟩) c2 (t.drop n) ∧ Below w.heap.size w w'
set_option maxRecDepth 100000 in
set_option maxHeartbeats 2000000 in
theorem cut_no (w : World) (n m : Nat) (sp : Option Addr) (cap : Nat) (h : m < n) (hn : n ≤ 9223372036854775807) :
    Calls Tryz.prog 94 #[.slice sp m cap, .int .i64 n] w fun e w' => e = .returned (.tuple #[.slice none 0 0, .slice none 0 0, .bool false]) ∧ Below w.heap.size w w' := by
  have i1 : (m : Int) < (n : Int) := by omega
  have i2 : (n : Int) ≤ 9223372036854775807 := by omega
  go_enter Tryz.func94, Tryz.ntmps94
  go_wp2
  exact bodyPost_ret (results_tmp3 Tryz.results94 _ _ _) rfl ⟨rfl, Below.refl _ _⟩
set_option maxRecDepth 100000 in
set_option maxHeartbeats 2000000 in
theorem cut_yes (w : World) (t : List Int) (n : Nat) (b o cap : Nat) (hS : Src w (some ⟨b, o, none⟩) cap t) (h : n ≤ t.length) :
    Calls Tryz.prog 94 #[.slice (some ⟨b, o, none⟩) t.length cap, .int .i64 n] w fun e w' => CutP b t n w w' e := by
  have S1 := hid (src_cut hS n h)
  have S2 := hid (src_rest hS n h)
  have S0 := hid hS
  have hc := hS.1
  have hm := hS.2.1
  unfold maxLen at hm
  unfold CutP
  have HE := hid (show t.length - n = 0 → t.drop n = [] from fun e => List.eq_nil_of_length_eq_zero (by rw [List.length_drop]; exact e))
  have ML := hid (show cap ≤ maxLen from hS.2.1)
  generalize t.length = m at *
  have i1 : (n : Int) ≤ (m : Int) := by omega
  have i2 : (m : Int) ≤ (cap : Int) := by omega
  have i3 : (cap : Int) ≤ 9223372036854775807 := by omega
  have i4 : (n : Int) ≤ (cap : Int) := by omega
  by_cases hq : cap = n
  · subst hq
    obtain rfl : m = cap := by omega
    go_enter Tryz.func94, Tryz.ntmps94
    go_wp2
    go_quiet (fail)
    go_wp2
    refine bodyPost_ret (results_tmp3 Tryz.results94 _ _ _) rfl ?_
    refine ⟨o, m, o, 0, ?_, S1.out.below (below_drewN (Below.refl _ _) _) (Nat.le_refl _), ?_, below_drewN (Below.refl _ _) _⟩
    · simp
    · rw [HE.out (by omega)]; exact Src.empty _ _ _ (by simp [maxLen])
  · have i5 : (n : Int) < (cap : Int) := by omega
    go_enter Tryz.func94, Tryz.ntmps94
    go_wp2
    go_quiet (fail)
    go_wp2
    refine bodyPost_ret (results_tmp3 Tryz.results94 _ _ _) rfl ?_
    refine ⟨o, n, o + n, cap - n, ?_, S1.out.below (below_drewN (Below.refl _ _) _) (Nat.le_refl _), S2.out.below (below_drewN (Below.refl _ _) _) (Nat.le_refl _), below_drewN (Below.refl _ _) _⟩
    simp
set_option maxRecDepth 100000 in
set_option maxHeartbeats 2000000 in
theorem number_any (w : World) (t : List Int) (hy : Bys t) (hl : t.length = 2) (sp : Option Addr) (cap : Nat) (hS : Src w sp cap t) :
    Calls Tryz.prog 95 #[.slice sp 2 cap] w fun e w' => e = .returned (.int .i64 (t.getD 0 0 + 256 * t.getD 1 0)) ∧ Below w.heap.size w w' := by
  obtain ⟨hc, hm, b, o, hb, hsp, hsrc⟩ := hS
  obtain rfl := hsp (by omega)
  have c0 := hsrc 0 (by omega)
  have c1 := hsrc 1 (by omega)
  rw [Nat.add_zero] at c0
  have b0 := hy.at 0 (by omega)
  have b1 := hy.at 1 (by omega)
  generalize t.getD 0 0 = x0 at *
  generalize t.getD 1 0 = x1 at *
  have HO := hid (show bits .or .i64 x0 (x1 * 256) = x0 + 256 * x1 by
    obtain ⟨a, rfl⟩ := Int.eq_ofNat_of_zero_le b0.1
    obtain ⟨b, rfl⟩ := Int.eq_ofNat_of_zero_le b1.1
    have h1 := or_nat a b 8 (by decide) (by omega) (by omega)
    rw [show ((b : Int) * 256) = ((b * 2 ^ 8 : Nat) : Int) by omega, h1]
    omega)
  clear hsrc hsp hb hy hl hc hm
  go_enter Tryz.func95, Tryz.ntmps95
  go_wp2
  go_quiet (fail)
  go_wp2
  go_ret
  refine ⟨?_, below_drewN (Below.refl _ _) _⟩
  rw [← HO.out]
  rfl

def ansC (f : Bool) (v : Value) : List Value := [.bool f, v]
def RAp (w : World) (t : List Int) (e : Ending) (w' : World) : Prop :=
  Below w.heap.size w w' ∧ match decA t with
  | none => ∃ a r, e = .returned (.tuple #[a, r, .bool false]) ∧ ∃ cs, a = .agg cs ∧ cs.size = 2 ∧ (∃ b s n c, cs = (ansC b (.slice s n c)).toArray) ∧ ∃ s n c, r = .slice s n c
  | some x => ∃ s1 c1 s2 c2, e = .returned (.tuple #[.agg (ansC x.1 (.slice s1 x.2.1.length c1)).toArray, .slice s2 x.2.2.length c2, .bool true]) ∧ Own w' w.heap.size (.slice s1 x.2.1.length c1) x.2.1 ∧ Src w' s2 c2 x.2.2 ∧ (s2 = none → c2 = 0)
theorem src_blk {w w1 : World} {b o cap : Nat} {t : List Int} (hS : Src w (some ⟨b, o, none⟩) cap t) (hb : Below (b + 1) w w1) : Src w1 (some ⟨b, o, none⟩) cap t := by
  obtain ⟨h1, h2, b', o', h3, h4, h5⟩ := hS
  refine ⟨h1, h2, b', o', fun h => Nat.lt_of_lt_of_le (h3 h) hb.size, h4, fun j hj => ?_⟩
  have e := h4 (by omega)
  cases e
  exact (hb.cell (p := ⟨b, o + j, none⟩) (by show b < b + 1; omega)).trans (h5 j hj)
theorem ansC_one (f : Bool) (s : Option Addr) (n c : Nat) : ∀ x ∈ ansC f (.slice s n c), x.oneCell' = true := fun x hx => by
  simp only [ansC, List.mem_cons, List.not_mem_nil, or_false] at hx
  rcases hx with rfl | rfl <;> rfl
theorem Tryz.sizeAn : (Tryz.prog.info? 33).map (·.size) = some 2 := by kernel_rfl
theorem built_an0 : Tryz.prog.built 33 [] = some (ansC false (.slice none 0 0)).toArray := by kernel_rfl
theorem built_an (s : Option Addr) (n c : Nat) : Tryz.prog.built 33 [(0, .bool true), (1, .slice s n c)] = some (ansC true (.slice s n c)).toArray := by kernel_rfl
theorem allocAn (a : Act) (o : Oper) (w : World) (ho : o.op = .alloc 33) : (execOp a.eval o).run Tryz.prog w = .ok (.value (.pointer (some ⟨w.heap.size, 0, none⟩))) (w.alloc (.cells (ansC false (.slice none 0 0)).toArray 33)) := by
  unfold execOp
  rw [ho]
  kernel_rfl
theorem wpList_allocV {P : Program} {t : TypeId} {Z : List Value} (hz : ∀ (a : Act) (o : Oper) (w : World), o.op = .alloc t → (execOp a.eval o).run P w = .ok (.value (.pointer (some ⟨w.heap.size, 0, none⟩))) (w.alloc (.cells Z.toArray t)))
    {ops : Array Oper} {rest : List Oper} {o1 : Oper} {a : Act} {w : World} {Q : Exit → Act → World → Prop} (hg1 : o1.guard = none) (ho1 : o1.op = .alloc t)
    (h : wpList P ops Q rest (a.put o1.dst (.pointer (some ⟨w.heap.size, 0, none⟩))) (w.alloc (.cells Z.toArray t))) : wpList P ops Q (o1 :: rest) a w := by
  refine wpList_plain hg1 fun K hK => ?_
  unfold Oper.wp
  rw [hz a o1 w ho1]
  exact hK _ _ h
set_option maxRecDepth 100000 in
set_option maxHeartbeats 2000000 in
theorem readAnswer_nil (w : World) (sp : Option Addr) (cap : Nat) :
    Calls Tryz.prog 84 #[.slice sp 0 cap] w (RAp w []) := by
  have KC := hid (fun w1 => cut_no w1 1 0 sp cap (by omega) (by omega))
  have FZ := hid (fun w' (hb : Below w.heap.size w w') => show RAp w ([]) (.returned (.tuple #[.agg (ansC false (.slice none 0 0)).toArray, .slice none 0 0, .bool false])) w' from by unfold RAp; rw [show decA [] = none from rfl]; exact ⟨hb, _, _, rfl, _, rfl, rfl, ⟨_, _, _, _, rfl⟩, ⟨_, _, _, rfl⟩⟩)
  generalize RAp w [] = P at *
  have BZ := hid built_an0
  have d0 := (BK.nil w).alloc (ansC false (.slice none 0 0)) 33
  go_enter Tryz.func84, Tryz.ntmps84
  go_wp2_with fail
  refine (KC.out _).mono ?_
  rintro e w2 ⟨rfl, hb2⟩
  have d2 := d0.call hb2
  have r2 := d2.row (.head _)
  go_wp2_with (first | refine wpList_built (by rfl) 33 _ (by rfl) _ (by rfl) _ BZ.out ?_ | refine wpList_store_row rfl 33 _ _ (by rfl) w.heap.size (ansC false (.slice none 0 0)).toArray (by rfl) (by rfl) 33 _ r2 (by rw [Tryz.sizeAn]; rfl) (by rfl) (all_oneCell_toArray (ansC_one _ _ _ _)) ?_)
  exact bodyPost_ret (v := .tuple #[.agg (ansC false (.slice none 0 0)).toArray, .slice none 0 0, .bool false]) (results_c3 Tryz.results84 _ _ w.heap.size 33 _ _ _ rfl (setRow_heap _ _ _ _ _ _ r2) Tryz.underlying33 rfl (by rw [Tryz.sizeAn]; rfl)) rfl (FZ.out _ (below_setRow d2.1 (Nat.le_refl _) _))
set_option maxRecDepth 100000 in
set_option maxHeartbeats 2000000 in
theorem readAnswer_bad (w : World) (x : Int) (r : List Int) (sp : Option Addr) (cap : Nat) (hS : Src w sp cap (x :: r)) (hx : 1 < x) :
    Calls Tryz.prog 84 #[.slice sp (x :: r).length cap] w (RAp w (x :: r)) := by
  have FZ := hid (fun w' (hb : Below w.heap.size w w') => show RAp w (x :: r) (.returned (.tuple #[.agg (ansC false (.slice none 0 0)).toArray, .slice none 0 0, .bool false])) w' from by unfold RAp; rw [show decA (x :: r) = none by simp only [decA]; rw [if_neg (by omega), if_neg (by omega)]]; exact ⟨hb, _, _, rfl, _, rfl, rfl, ⟨_, _, _, _, rfl⟩, ⟨_, _, _, rfl⟩⟩)
  generalize RAp w (x :: r) = P at *
  have S0 := hid hS
  obtain ⟨b, o, rfl⟩ : ∃ b o, sp = some ⟨b, o, none⟩ := by obtain ⟨_, _, b, o, h3, h4, _⟩ := hS; exact ⟨b, o, h4 (by simp)⟩
  have hbw : b + 1 ≤ w.heap.size := hS.lt (by simp)
  have BZ := hid built_an0
  have d0 := (BK.nil w).alloc (ansC false (.slice none 0 0)) 33
  have KC := hid (fun w1 (h : Src w1 (some ⟨b, o, none⟩) cap (x :: r)) => cut_yes w1 (x :: r) 1 b o cap h (by simp))
  unfold CutP at KC
  have XL := hid (show (x :: r).length = r.length + 1 from rfl)
  rw [XL.out] at KC ⊢
  simp only [List.drop_succ_cons, List.drop_zero, List.take_succ_cons, List.take_zero, Nat.add_sub_cancel] at KC
  go_enter Tryz.func84, Tryz.ntmps84
  go_wp2_with fail
  refine (KC.out _ (S0.out.below d0.1 (Nat.le_refl _))).mono ?_
  rintro e w2 ⟨o1, c1, o2, c2, rfl, S1, S2, hb2⟩
  have d2 := d0.call hb2
  have r2 := d2.row (.head _)
  have x0 : w2.cell? ⟨b, o1, none⟩ = some (.int .u8 (x)) := by
    obtain ⟨_, _, b', o', _, h4, h5⟩ := S1
    have e := h4 (by simp)
    cases e
    exact h5 0 (by simp)
  go_wp2_with (first | refine wpList_built (by rfl) 33 _ (by rfl) _ (by rfl) _ BZ.out ?_ | refine wpList_store_row rfl 33 _ _ (by rfl) w.heap.size (ansC false (.slice none 0 0)).toArray (by rfl) (by rfl) 33 _ r2 (by rw [Tryz.sizeAn]; rfl) (by rfl) (all_oneCell_toArray (ansC_one _ _ _ _)) ?_)
  exact bodyPost_ret (v := .tuple #[.agg (ansC false (.slice none 0 0)).toArray, .slice none 0 0, .bool false]) (results_c3 Tryz.results84 _ _ w.heap.size 33 _ _ _ rfl (setRow_heap _ _ _ _ _ _ r2) Tryz.underlying33 rfl (by rw [Tryz.sizeAn]; rfl)) rfl (FZ.out _ (below_setRow d2.1 (Nat.le_refl _) _))
set_option maxRecDepth 100000 in
set_option maxHeartbeats 2000000 in
theorem readAnswer_zero (w : World) (r : List Int) (sp : Option Addr) (cap : Nat) (hS : Src w sp cap (0 :: r)) :
    Calls Tryz.prog 84 #[.slice sp (0 :: r).length cap] w (RAp w (0 :: r)) := by
  have FZ := hid (fun w' (hb : Below w.heap.size w w') s c (h1 : Src w' s c r) (h2 : s = none → c = 0) => show RAp w (0 :: r) (.returned (.tuple #[.agg (ansC false (.slice none 0 0)).toArray, .slice s r.length c, .bool true])) w' from ⟨hb, none, 0, s, c, rfl, Own.nil _ _, h1, h2⟩)
  generalize RAp w (0 :: r) = P at *
  have S0 := hid hS
  obtain ⟨b, o, rfl⟩ : ∃ b o, sp = some ⟨b, o, none⟩ := by obtain ⟨_, _, b, o, h3, h4, _⟩ := hS; exact ⟨b, o, h4 (by simp)⟩
  have hbw : b + 1 ≤ w.heap.size := hS.lt (by simp)
  have BZ := hid built_an0
  have d0 := (BK.nil w).alloc (ansC false (.slice none 0 0)) 33
  have KC := hid (fun w1 (h : Src w1 (some ⟨b, o, none⟩) cap (0 :: r)) => cut_yes w1 (0 :: r) 1 b o cap h (by simp))
  unfold CutP at KC
  have XL := hid (show (0 :: r).length = r.length + 1 from rfl)
  rw [XL.out] at KC ⊢
  simp only [List.drop_succ_cons, List.drop_zero, List.take_succ_cons, List.take_zero, Nat.add_sub_cancel] at KC
  go_enter Tryz.func84, Tryz.ntmps84
  go_wp2_with fail
  refine (KC.out _ (S0.out.below d0.1 (Nat.le_refl _))).mono ?_
  rintro e w2 ⟨o1, c1, o2, c2, rfl, S1, S2, hb2⟩
  have d2 := d0.call hb2
  have r2 := d2.row (.head _)
  have x0 : w2.cell? ⟨b, o1, none⟩ = some (.int .u8 (0)) := by
    obtain ⟨_, _, b', o', _, h4, h5⟩ := S1
    have e := h4 (by simp)
    cases e
    exact h5 0 (by simp)
  go_wp2_with (first | refine wpList_built (by rfl) 33 _ (by rfl) _ (by rfl) _ BZ.out ?_ | refine wpList_store_row rfl 33 _ _ (by rfl) w.heap.size (ansC false (.slice none 0 0)).toArray (by rfl) (by rfl) 33 _ r2 (by rw [Tryz.sizeAn]; rfl) (by rfl) (all_oneCell_toArray (ansC_one _ _ _ _)) ?_)
  exact bodyPost_ret (v := .tuple #[.agg (ansC false (.slice none 0 0)).toArray, .slice (some ⟨b, o2, none⟩) r.length c2, .bool true]) (results_c3 Tryz.results84 _ _ w.heap.size 33 _ _ _ rfl (setRow_heap _ _ _ _ _ _ r2) Tryz.underlying33 rfl (by rw [Tryz.sizeAn]; rfl)) rfl (FZ.out _ (below_setRow d2.1 (Nat.le_refl _) _) _ _ (src_blk S2 (below_setRow (Below.refl _ _) hbw _)) (fun h => by cases h))
set_option maxRecDepth 100000 in
set_option maxHeartbeats 2000000 in
theorem readAnswer_short (w : World) (r : List Int) (sp : Option Addr) (cap : Nat) (hS : Src w sp cap (1 :: r)) (hr : r.length < 2) :
    Calls Tryz.prog 84 #[.slice sp (1 :: r).length cap] w (RAp w (1 :: r)) := by
  have FZ := hid (fun w' (hb : Below w.heap.size w w') => show RAp w (1 :: r) (.returned (.tuple #[.agg (ansC false (.slice none 0 0)).toArray, .slice none 0 0, .bool false])) w' from by unfold RAp; rw [show decA (1 :: r) = none by match r, hr with | [], _ => rfl | [a], _ => rfl]; exact ⟨hb, _, _, rfl, _, rfl, rfl, ⟨_, _, _, _, rfl⟩, ⟨_, _, _, rfl⟩⟩)
  have K2 := hid (fun w1 s c => cut_no w1 2 r.length s c hr (by omega))
  generalize RAp w (1 :: r) = P at *
  have S0 := hid hS
  obtain ⟨b, o, rfl⟩ : ∃ b o, sp = some ⟨b, o, none⟩ := by obtain ⟨_, _, b, o, h3, h4, _⟩ := hS; exact ⟨b, o, h4 (by simp)⟩
  have hbw : b + 1 ≤ w.heap.size := hS.lt (by simp)
  have BZ := hid built_an0
  have d0 := (BK.nil w).alloc (ansC false (.slice none 0 0)) 33
  have KC := hid (fun w1 (h : Src w1 (some ⟨b, o, none⟩) cap (1 :: r)) => cut_yes w1 (1 :: r) 1 b o cap h (by simp))
  unfold CutP at KC
  have XL := hid (show (1 :: r).length = r.length + 1 from rfl)
  rw [XL.out] at KC ⊢
  simp only [List.drop_succ_cons, List.drop_zero, List.take_succ_cons, List.take_zero, Nat.add_sub_cancel] at KC
  go_enter Tryz.func84, Tryz.ntmps84
  go_wp2_with fail
  refine (KC.out _ (S0.out.below d0.1 (Nat.le_refl _))).mono ?_
  rintro e w2 ⟨o1, c1, o2, c2, rfl, S1, S2, hb2⟩
  have d2 := d0.call hb2
  have r2 := d2.row (.head _)
  have x0 : w2.cell? ⟨b, o1, none⟩ = some (.int .u8 (1)) := by
    obtain ⟨_, _, b', o', _, h4, h5⟩ := S1
    have e := h4 (by simp)
    cases e
    exact h5 0 (by simp)
  go_wp2_with fail
  refine (K2.out _ _ _).mono ?_
  rintro e w3 ⟨rfl, hb3⟩
  have d3 := d2.call hb3
  have r2 := d3.row (.head _)
  go_wp2_with (first | refine wpList_built (by rfl) 33 _ (by rfl) _ (by rfl) _ BZ.out ?_ | refine wpList_store_row rfl 33 _ _ (by rfl) w.heap.size (ansC false (.slice none 0 0)).toArray (by rfl) (by rfl) 33 _ r2 (by rw [Tryz.sizeAn]; rfl) (by rfl) (all_oneCell_toArray (ansC_one _ _ _ _)) ?_)
  exact bodyPost_ret (v := .tuple #[.agg (ansC false (.slice none 0 0)).toArray, .slice none 0 0, .bool false]) (results_c3 Tryz.results84 _ _ w.heap.size 33 _ _ _ rfl (setRow_heap _ _ _ _ _ _ r2) Tryz.underlying33 rfl (by rw [Tryz.sizeAn]; rfl)) rfl (FZ.out _ (below_setRow d3.1 (Nat.le_refl _) _))
set_option maxRecDepth 100000 in
set_option maxHeartbeats 2000000 in
theorem readAnswer_long (w : World) (a y : Int) (q : List Int) (hy : Bys (1 :: a :: y :: q)) (sp : Option Addr) (cap : Nat) (hS : Src w sp cap (1 :: a :: y :: q)) (hn : 128 < a + 256 * y) :
    Calls Tryz.prog 84 #[.slice sp (1 :: a :: y :: q).length cap] w (RAp w (1 :: a :: y :: q)) := by
  have FZ := hid (fun w' (hb : Below w.heap.size w w') => show RAp w (1 :: a :: y :: q) (.returned (.tuple #[.agg (ansC false (.slice none 0 0)).toArray, .slice none 0 0, .bool false])) w' from by unfold RAp; rw [show decA (1 :: a :: y :: q) = none by simp only [decA]; rw [if_neg (by decide), if_pos trivial, if_neg (by omega)]]; exact ⟨hb, _, _, rfl, _, rfl, rfl, ⟨_, _, _, _, rfl⟩, ⟨_, _, _, rfl⟩⟩)
  have ha := hy a (by simp)
  have hb := hy y (by simp)
  have i9 : a + 256 * y ≤ 65535 := by omega
  generalize RAp w (1 :: a :: y :: q) = P at *
  have S0 := hid hS
  obtain ⟨b, o, rfl⟩ : ∃ b o, sp = some ⟨b, o, none⟩ := by obtain ⟨_, _, b, o, h3, h4, _⟩ := hS; exact ⟨b, o, h4 (by simp)⟩
  have hbw : b + 1 ≤ w.heap.size := hS.lt (by simp)
  have BZ := hid built_an0
  have d0 := (BK.nil w).alloc (ansC false (.slice none 0 0)) 33
  have KC := hid (fun w1 (h : Src w1 (some ⟨b, o, none⟩) cap (1 :: a :: y :: q)) => cut_yes w1 (1 :: a :: y :: q) 1 b o cap h (by simp))
  unfold CutP at KC
  have XL := hid (show (1 :: a :: y :: q).length = (a :: y :: q).length + 1 from rfl)
  rw [XL.out] at KC ⊢
  simp only [List.drop_succ_cons, List.drop_zero, List.take_succ_cons, List.take_zero, Nat.add_sub_cancel] at KC
  have K2 := hid (fun w1 o c (h : Src w1 (some ⟨b, o, none⟩) c (a :: y :: q)) => cut_yes w1 (a :: y :: q) 2 b o c h (by simp))
  unfold CutP at K2
  rw [show (a :: y :: q).length = q.length + 2 from rfl] at K2
  simp only [List.drop_succ_cons, List.drop_zero, List.take_succ_cons, List.take_zero, Nat.add_sub_cancel] at K2
  have KN := hid (fun w1 s c (h : Src w1 s c [a, y]) => number_any w1 [a, y] (fun z hz => hy z (by simp at hz ⊢; omega)) rfl s c h)
  simp only [List.getD_cons_zero, List.getD_cons_succ] at KN
  generalize a + 256 * y = n at *
  go_enter Tryz.func84, Tryz.ntmps84
  go_wp2_with fail
  refine (KC.out _ (S0.out.below d0.1 (Nat.le_refl _))).mono ?_
  rintro e w2 ⟨o1, c1, o2, c2, rfl, S1, S2, hb2⟩
  have d2 := d0.call hb2
  have r2 := d2.row (.head _)
  have x0 : w2.cell? ⟨b, o1, none⟩ = some (.int .u8 (1)) := by
    obtain ⟨_, _, b', o', _, h4, h5⟩ := S1
    have e := h4 (by simp)
    cases e
    exact h5 0 (by simp)
  go_wp2_with fail
  refine (K2.out _ _ _ S2).mono ?_
  rintro e w3 ⟨o3, c3, o4, c4, rfl, S3, S4, hb3⟩
  have d3 := d2.call hb3
  have r2 := d3.row (.head _)
  go_wp2_with fail
  refine (KN.out _ _ _ S3).mono ?_
  rintro e w4 ⟨rfl, hb4⟩
  have d4 := d3.call hb4
  have r2 := d4.row (.head _)
  go_wp2_with (first | refine wpList_built (by rfl) 33 _ (by rfl) _ (by rfl) _ BZ.out ?_ | refine wpList_store_row rfl 33 _ _ (by rfl) w.heap.size (ansC false (.slice none 0 0)).toArray (by rfl) (by rfl) 33 _ r2 (by rw [Tryz.sizeAn]; rfl) (by rfl) (all_oneCell_toArray (ansC_one _ _ _ _)) ?_)
  exact bodyPost_ret (v := .tuple #[.agg (ansC false (.slice none 0 0)).toArray, .slice none 0 0, .bool false]) (results_c3 Tryz.results84 _ _ w.heap.size 33 _ _ _ rfl (setRow_heap _ _ _ _ _ _ r2) Tryz.underlying33 rfl (by rw [Tryz.sizeAn]; rfl)) rfl (FZ.out _ (below_setRow d4.1 (Nat.le_refl _) _))
set_option maxRecDepth 100000 in
set_option maxHeartbeats 2000000 in
theorem readAnswer_miss (w : World) (a y : Int) (q : List Int) (hy : Bys (1 :: a :: y :: q)) (sp : Option Addr) (cap : Nat) (hS : Src w sp cap (1 :: a :: y :: q)) (hn : a + 256 * y ≤ 128) (hq : q.length < (a + 256 * y).toNat) :
    Calls Tryz.prog 84 #[.slice sp (1 :: a :: y :: q).length cap] w (RAp w (1 :: a :: y :: q)) := by
  have FZ := hid (fun w' (hb : Below w.heap.size w w') => show RAp w (1 :: a :: y :: q) (.returned (.tuple #[.agg (ansC false (.slice none 0 0)).toArray, .slice none 0 0, .bool false])) w' from by unfold RAp; rw [show decA (1 :: a :: y :: q) = none by simp only [decA]; rw [if_neg (by decide), if_pos trivial, if_neg (by omega)]]; exact ⟨hb, _, _, rfl, _, rfl, rfl, ⟨_, _, _, _, rfl⟩, ⟨_, _, _, rfl⟩⟩)
  have ha := hy a (by simp)
  have hb := hy y (by simp)
  obtain ⟨n, hne⟩ := Int.eq_ofNat_of_zero_le (show 0 ≤ a + 256 * y by omega)
  rw [hne] at hn hq
  have i9 : (n : Int) ≤ 128 := by omega
  have K3 := hid (fun w1 s c => cut_no w1 n q.length s c (by omega) (by omega))
  generalize RAp w (1 :: a :: y :: q) = P at *
  have S0 := hid hS
  obtain ⟨b, o, rfl⟩ : ∃ b o, sp = some ⟨b, o, none⟩ := by obtain ⟨_, _, b, o, h3, h4, _⟩ := hS; exact ⟨b, o, h4 (by simp)⟩
  have hbw : b + 1 ≤ w.heap.size := hS.lt (by simp)
  have BZ := hid built_an0
  have d0 := (BK.nil w).alloc (ansC false (.slice none 0 0)) 33
  have KC := hid (fun w1 (h : Src w1 (some ⟨b, o, none⟩) cap (1 :: a :: y :: q)) => cut_yes w1 (1 :: a :: y :: q) 1 b o cap h (by simp))
  unfold CutP at KC
  have XL := hid (show (1 :: a :: y :: q).length = (a :: y :: q).length + 1 from rfl)
  rw [XL.out] at KC ⊢
  simp only [List.drop_succ_cons, List.drop_zero, List.take_succ_cons, List.take_zero, Nat.add_sub_cancel] at KC
  have K2 := hid (fun w1 o c (h : Src w1 (some ⟨b, o, none⟩) c (a :: y :: q)) => cut_yes w1 (a :: y :: q) 2 b o c h (by simp))
  unfold CutP at K2
  rw [show (a :: y :: q).length = q.length + 2 from rfl] at K2
  simp only [List.drop_succ_cons, List.drop_zero, List.take_succ_cons, List.take_zero, Nat.add_sub_cancel] at K2
  have KN := hid (fun w1 s c (h : Src w1 s c [a, y]) => number_any w1 [a, y] (fun z hz => hy z (by simp at hz ⊢; omega)) rfl s c h)
  simp only [List.getD_cons_zero, List.getD_cons_succ] at KN
  rw [hne] at KN
  clear hne hq hn
  go_enter Tryz.func84, Tryz.ntmps84
  go_wp2_with fail
  refine (KC.out _ (S0.out.below d0.1 (Nat.le_refl _))).mono ?_
  rintro e w2 ⟨o1, c1, o2, c2, rfl, S1, S2, hb2⟩
  have d2 := d0.call hb2
  have r2 := d2.row (.head _)
  have x0 : w2.cell? ⟨b, o1, none⟩ = some (.int .u8 (1)) := by
    obtain ⟨_, _, b', o', _, h4, h5⟩ := S1
    have e := h4 (by simp)
    cases e
    exact h5 0 (by simp)
  go_wp2_with fail
  refine (K2.out _ _ _ S2).mono ?_
  rintro e w3 ⟨o3, c3, o4, c4, rfl, S3, S4, hb3⟩
  have d3 := d2.call hb3
  have r2 := d3.row (.head _)
  go_wp2_with fail
  refine (KN.out _ _ _ S3).mono ?_
  rintro e w4 ⟨rfl, hb4⟩
  have d4 := d3.call hb4
  have r2 := d4.row (.head _)
  go_wp2_with fail
  refine (KN.out _ _ _ (S3.below hb4 (Nat.le_refl _))).mono ?_
  rintro e w5 ⟨rfl, hb5⟩
  have d5 := d4.call hb5
  have S5 := (S4.below hb4 (Nat.le_refl _)).below hb5 (Nat.le_refl _)
  go_wp2_with fail
  refine (K3.out _ _ _).mono ?_
  rintro e w6 ⟨rfl, hb6⟩
  have d6 := d5.call hb6
  have r2 := d6.row (.head _)
  go_wp2_with (first | refine wpList_built (by rfl) 33 _ (by rfl) _ (by rfl) _ BZ.out ?_ | refine wpList_store_row rfl 33 _ _ (by rfl) w.heap.size (ansC false (.slice none 0 0)).toArray (by rfl) (by rfl) 33 _ r2 (by rw [Tryz.sizeAn]; rfl) (by rfl) (all_oneCell_toArray (ansC_one _ _ _ _)) ?_)
  exact bodyPost_ret (v := .tuple #[.agg (ansC false (.slice none 0 0)).toArray, .slice none 0 0, .bool false]) (results_c3 Tryz.results84 _ _ w.heap.size 33 _ _ _ rfl (setRow_heap _ _ _ _ _ _ r2) Tryz.underlying33 rfl (by rw [Tryz.sizeAn]; rfl)) rfl (FZ.out _ (below_setRow d6.1 (Nat.le_refl _) _))
set_option maxRecDepth 100000 in
set_option maxHeartbeats 2000000 in
theorem readAnswer_one (w : World) (a y : Int) (q : List Int) (hy : Bys (1 :: a :: y :: q)) (sp : Option Addr) (cap : Nat) (hS : Src w sp cap (1 :: a :: y :: q)) (hn : a + 256 * y ≤ 128) (hq : (a + 256 * y).toNat ≤ q.length) :
    Calls Tryz.prog 84 #[.slice sp (1 :: a :: y :: q).length cap] w (RAp w (1 :: a :: y :: q)) := by
  have ha := hy a (by simp)
  have hb := hy y (by simp)
  obtain ⟨n, hne⟩ := Int.eq_ofNat_of_zero_le (show 0 ≤ a + 256 * y by omega)
  rw [hne] at hn hq
  have i9 : (n : Int) ≤ 128 := by omega
  rw [Int.toNat_natCast] at hq
  have LT : (q.take n).length = n := by rw [List.length_take]; omega
  have LD : (q.drop n).length = q.length - n := List.length_drop
  have FZ := hid (fun w' (hb : Below w.heap.size w w') s1 c1 s c (h0 : Own w' w.heap.size (.slice s1 n c1) (q.take n)) (h1 : Src w' s c (q.drop n)) (h2 : s = none → c = 0) => show RAp w (1 :: a :: y :: q) (.returned (.tuple #[.agg (ansC true (.slice s1 n c1)).toArray, .slice s (q.length - n) c, .bool true])) w' from by
    unfold RAp
    rw [show decA (1 :: a :: y :: q) = some (true, q.take n, q.drop n) by simp only [decA]; rw [if_neg (by decide), if_pos trivial, hne, Int.toNat_natCast, if_pos ⟨hn, hq⟩]]
    refine ⟨hb, s1, c1, s, c, ?_, ?_, h1, h2⟩
    · show _ = Ending.returned (.tuple #[.agg (ansC true (.slice s1 (q.take n).length c1)).toArray, .slice s (q.drop n).length c, .bool true])
      rw [LT, LD]
    · show Own w' w.heap.size (.slice s1 (q.take n).length c1) (q.take n)
      rw [LT]; exact h0)
  have K3 := hid (fun w1 o c (h : Src w1 (some ⟨sp.get!.block, o, none⟩) c q) => cut_yes w1 q n sp.get!.block o c h hq)
  have KL := hid (fun w1 o c (h : Src w1 (some ⟨sp.get!.block, o, none⟩) c (q.take n)) => Clone_any w1 (q.take n) (some ⟨sp.get!.block, o, none⟩) c h (fun h => by cases h) (by omega))
  unfold CutP at K3
  rw [LT] at KL
  have BN := hid built_an
  generalize RAp w (1 :: a :: y :: q) = P at *
  have S0 := hid hS
  obtain ⟨b, o, rfl⟩ : ∃ b o, sp = some ⟨b, o, none⟩ := by obtain ⟨_, _, b, o, h3, h4, _⟩ := hS; exact ⟨b, o, h4 (by simp)⟩
  have hbw : b + 1 ≤ w.heap.size := hS.lt (by simp)
  simp only [Option.get!_some] at K3 KL
  have BZ := hid built_an0
  have d0 := (BK.nil w).alloc (ansC false (.slice none 0 0)) 33
  have KC := hid (fun w1 (h : Src w1 (some ⟨b, o, none⟩) cap (1 :: a :: y :: q)) => cut_yes w1 (1 :: a :: y :: q) 1 b o cap h (by simp))
  unfold CutP at KC
  have XL := hid (show (1 :: a :: y :: q).length = (a :: y :: q).length + 1 from rfl)
  rw [XL.out] at KC ⊢
  simp only [List.drop_succ_cons, List.drop_zero, List.take_succ_cons, List.take_zero, Nat.add_sub_cancel] at KC
  have K2 := hid (fun w1 o c (h : Src w1 (some ⟨b, o, none⟩) c (a :: y :: q)) => cut_yes w1 (a :: y :: q) 2 b o c h (by simp))
  unfold CutP at K2
  rw [show (a :: y :: q).length = q.length + 2 from rfl] at K2
  simp only [List.drop_succ_cons, List.drop_zero, List.take_succ_cons, List.take_zero, Nat.add_sub_cancel] at K2
  have KN := hid (fun w1 s c (h : Src w1 s c [a, y]) => number_any w1 [a, y] (fun z hz => hy z (by simp at hz ⊢; omega)) rfl s c h)
  simp only [List.getD_cons_zero, List.getD_cons_succ] at KN
  rw [hne] at KN
  clear hne hq hn
  go_enter Tryz.func84, Tryz.ntmps84
  go_wp2_with fail
  refine (KC.out _ (S0.out.below d0.1 (Nat.le_refl _))).mono ?_
  rintro e w2 ⟨o1, c1, o2, c2, rfl, S1, S2, hb2⟩
  have d2 := d0.call hb2
  have r2 := d2.row (.head _)
  have x0 : w2.cell? ⟨b, o1, none⟩ = some (.int .u8 (1)) := by
    obtain ⟨_, _, b', o', _, h4, h5⟩ := S1
    have e := h4 (by simp)
    cases e
    exact h5 0 (by simp)
  go_wp2_with fail
  refine (K2.out _ _ _ S2).mono ?_
  rintro e w3 ⟨o3, c3, o4, c4, rfl, S3, S4, hb3⟩
  have d3 := d2.call hb3
  have r2 := d3.row (.head _)
  go_wp2_with fail
  refine (KN.out _ _ _ S3).mono ?_
  rintro e w4 ⟨rfl, hb4⟩
  have d4 := d3.call hb4
  have r2 := d4.row (.head _)
  go_wp2_with fail
  refine (KN.out _ _ _ (S3.below hb4 (Nat.le_refl _))).mono ?_
  rintro e w5 ⟨rfl, hb5⟩
  have d5 := d4.call hb5
  have S5 := (S4.below hb4 (Nat.le_refl _)).below hb5 (Nat.le_refl _)
  go_wp2_with fail
  refine (K3.out _ _ _ S5).mono ?_
  rintro e w6 ⟨o6, c6, o7, c7, rfl, S6, S7, hb6⟩
  have d6 := d5.call hb6
  go_wp2_with fail
  refine (KL.out _ _ _ S6).mono ?_
  rintro e w7 ⟨v7, rfl, hO7, hb7⟩
  obtain ⟨s7, c7', rfl, _, _⟩ := hO7.form
  rw [LT] at hO7
  rw [LT]
  have d7 := d6.call hb7
  have r2 := d7.row (.head _)
  have h6 := d6.lt (.head _)
  go_wp2_with (first | refine wpList_built (by rfl) 33 _ (by rfl) _ (by rfl) _ (BN.out _ _ _) ?_ | refine wpList_store_row rfl 33 _ _ (by rfl) w.heap.size (ansC true (.slice s7 n c7')).toArray (by rfl) (by rfl) 33 _ r2 (by rw [Tryz.sizeAn]; rfl) (by rfl) (all_oneCell_toArray (ansC_one _ _ _ _)) ?_)
  exact bodyPost_ret (v := .tuple #[.agg (ansC true (.slice s7 n c7')).toArray, .slice (some ⟨b, o7, none⟩) (q.length - n) c7, .bool true]) (results_c3 Tryz.results84 _ _ w.heap.size 33 _ _ _ rfl (setRow_heap _ _ _ _ _ _ r2) Tryz.underlying33 rfl (by rw [Tryz.sizeAn]; rfl)) rfl (FZ.out _ (below_setRow d7.1 (Nat.le_refl _) _) _ _ _ _ (own_lower (hO7.of_heap (fun k hk => setRow_other _ w.heap.size k (ansC true (.slice s7 n c7')).toArray (by have h1 := (hO7.block k hk).1; omega))) (Nat.le_of_lt h6)) (src_blk (S7.below hb7 (Nat.le_refl _)) (below_setRow (Below.refl _ _) hbw _)) (fun h => by cases h))
theorem readAnswer_any (w : World) (t : List Int) (hy : Bys t) (sp : Option Addr) (cap : Nat) (hS : Src w sp cap t) :
    Calls Tryz.prog 84 #[.slice sp t.length cap] w (RAp w t) := by
  match t, hy, hS with
  | [], _, _ => exact readAnswer_nil w sp cap
  | x :: r, hy, hS =>
    have hx := hy x (by simp)
    by_cases h0 : x = 0
    · subst h0; exact readAnswer_zero w r sp cap hS
    · by_cases h1 : x = 1
      · subst h1
        match r, hy, hS with
        | [], _, hS => exact readAnswer_short w [] sp cap hS (by simp)
        | [a], _, hS => exact readAnswer_short w [a] sp cap hS (by simp)
        | a :: y :: q, hy, hS =>
          by_cases hn : a + 256 * y ≤ 128
          · by_cases hq : (a + 256 * y).toNat ≤ q.length
            · exact readAnswer_one w a y q hy sp cap hS hn hq
            · exact readAnswer_miss w a y q hy sp cap hS hn (by omega)
          · exact readAnswer_long w a y q hy sp cap hS (by omega)
      · exact readAnswer_bad w x r sp cap hS (by omega)
end Go.Proofs.YtbjahdbmkcamoaaGreatDoor
namespace Go.Proofs.YtbjahdbmkcamoaaGreatDoor
set_option linter.unusedVariables false
set_option linter.unusedSimpArgs false
open Go.RowKit
attribute [local go_sem ↓] Go.wp_at_zero Go.wp_at_succ

def RNp (w : World) (r : List Int) (e : Ending) (w' : World) : Prop :=
  Below w.heap.size w w' ∧ match decB r with
  | none => ∃ X s n c, e = .returned (.tuple #[.agg (ints .u8 X).toArray, .slice s n c, .bool false]) ∧ X.length = 32
  | some y => ∃ s c, e = .returned (.tuple #[.agg (ints .u8 y.1).toArray, .slice s y.2.length c, .bool true]) ∧ OwnD w' w.heap.size (.slice s y.2.length c) y.2
theorem splice_all (cur cs : List Value) (h : cur.length = cs.length) : splice cur 0 cs = cs := by
  unfold splice
  rw [List.take_zero, List.nil_append, Nat.zero_add, List.drop_of_length_le (by omega), List.append_nil]
theorem src_cells {w : World} {b o cap : Nat} {t : List Int} (hS : Src w (some ⟨b, o, none⟩) cap t) (h : 0 < t.length) : w.rangeAt b o (ints .u8 t) := by
  have := src_take hS t.length (Nat.le_refl _) h
  rwa [List.take_length] at this
theorem results_c3n {P : Program} {fn : Func} {p q r : Tmp} {ty : TypeId} (h : fn.results = #[.cell p ty, .tmp q, .tmp r]) (tmps : Array Value) (w : World) (g : Nat) (t : TypeId) (cs : List Value) (d : TypeDesc)
    (hp : tmps.getD p undef = .pointer (some ⟨g, 0, none⟩)) (hg : w.heap[g]? = some (.cells cs.toArray t (0, 0)))
    (hu : P.underlying ty = some d) (hd : (match d with | .struct _ | .array _ _ => true | _ => false) = true) (hi : (P.info? ty).map (·.size) = some cs.length) :
    (results fn tmps).run P w = .ok (.tuple #[.agg cs.toArray, tmps.getD q undef, tmps.getD r undef]) w := results_c3 h tmps w g t cs.toArray _ d hp hg hu hd (by rw [hi, List.size_toArray])
set_option maxRecDepth 100000 in
set_option maxHeartbeats 2000000 in
theorem readNb_short (w : World) (r : List Int) (sp : Option Addr) (cap : Nat) (hr : r.length < 32) :
    Calls Tryz.prog 85 #[.slice sp r.length cap] w (RNp w r) := by
  have KC := hid (fun w1 => cut_no w1 32 r.length sp cap hr (by omega))
  have FZ := hid (fun w' (hb : Below w.heap.size w w') => show RNp w r (.returned (.tuple #[.agg (ints .u8 zB).toArray, .slice none 0 0, .bool false])) w' from by
    unfold RNp
    rw [show decB r = none by unfold decB; rw [if_neg (by omega)]]
    exact ⟨hb, zB, none, 0, 0, rfl, rfl⟩)
  have SZ := hid (show (Tryz.prog.info? 23).map (·.size) = some (ints .u8 zB).toArray.size by rw [Tryz.sizeA]; rfl)
  have SL := hid (show (Tryz.prog.info? 23).map (·.size) = some (ints .u8 zB).length by rw [Tryz.sizeA]; rfl)
  have ON := hid (ints_one .u8 zB)
  have AA := hid allocA32
  have d0 := (BK.nil w).alloc (ints .u8 zB) 23
  generalize ints .u8 zB = IB at *
  generalize RNp w r = P at *
  go_enter Tryz.func85, Tryz.ntmps85
  go_wp2_with (first | refine wpList_allocV AA.out rfl rfl ?_)
  refine (KC.out _).mono ?_
  rintro e w2 ⟨rfl, hb2⟩
  have d2 := d0.call hb2
  have r2 := d2.row (.head _)
  go_wp2_with (first | refine wpList_load_row_w (by rfl) 23 _ (by rfl) _ (by rfl) 23 _ _ _ r2 Tryz.underlying23 rfl SZ.out ?_ | refine wpList_store_row rfl 23 _ _ (by rfl) w.heap.size IB.toArray (by rfl) (by rfl) 23 _ r2 SZ.out (by rfl) (all_oneCell_toArray ON.out) ?_)
  exact bodyPost_ret (v := .tuple #[.agg IB.toArray, .slice none 0 0, .bool false]) (results_c3n Tryz.results85 _ _ w.heap.size 23 _ _ rfl (setRow_heap _ _ _ _ _ _ r2) Tryz.underlying23 rfl SL.out) rfl (FZ.out _ (below_setRow d2.1 (Nat.le_refl _) _))
set_option maxRecDepth 100000 in
set_option maxHeartbeats 2000000 in
theorem readNb_long (w : World) (r : List Int) (hy : Bys r) (sp : Option Addr) (cap : Nat) (hS : Src w sp cap r) (hr : 32 ≤ r.length) :
    Calls Tryz.prog 85 #[.slice sp r.length cap] w (RNp w r) := by
  have hml : r.length ≤ 9223372036854775807 := by have h1 := hS.1; have h2 := hS.2.1; unfold maxLen at h2; omega
  obtain ⟨b, o, rfl⟩ : ∃ b o, sp = some ⟨b, o, none⟩ := by obtain ⟨_, _, b, o, h3, h4, _⟩ := hS; exact ⟨b, o, h4 (by omega)⟩
  have hbw : b < w.heap.size := hS.lt (by omega)
  have hbl : (r.take 32).length = 32 := by rw [List.length_take]; omega
  have HBL := hid hbl
  have KC := hid (fun w1 (h : Src w1 (some ⟨b, o, none⟩) cap r) => cut_yes w1 r 32 b o cap h hr)
  unfold CutP at KC
  have KO := hid (fun w1 => countOf_any w1 (r.take 32) hbl (hy.take 32))
  have hol : onesN (r.take 32) ≤ 256 := by have := onesN_le (r.take 32); omega
  have FN := hid (fun w' (hb : Below w.heap.size w w') s n c (h : r.length ≠ 32 + 32 * onesN (r.take 32)) => show RNp w r (.returned (.tuple #[.agg (ints .u8 (r.take 32)).toArray, .slice s n c, .bool false])) w' from by
    unfold RNp
    rw [show decB r = none by unfold decB; rw [if_neg h]]
    exact ⟨hb, r.take 32, s, n, c, rfl, hbl⟩)
  have FY := hid (fun w' (hb : Below w.heap.size w w') s c (h : r.length = 32 + 32 * onesN (r.take 32)) (hO : OwnD w' w.heap.size (.slice s (onesN (r.take 32)) c) (chunks (onesN (r.take 32)) (r.drop 32))) => show RNp w r (.returned (.tuple #[.agg (ints .u8 (r.take 32)).toArray, .slice s (onesN (r.take 32)) c, .bool true])) w' from by
    unfold RNp
    rw [show decB r = some (r.take 32, chunks (onesN (r.take 32)) (r.drop 32)) by unfold decB; rw [if_pos h]]
    refine ⟨hb, s, c, ?_, ?_⟩
    · show _ = Ending.returned (.tuple #[.agg (ints .u8 (r.take 32)).toArray, .slice s (chunks (onesN (r.take 32)) (r.drop 32)).length c, .bool true])
      rw [chunks_len]
    · show OwnD w' w.heap.size (.slice s (chunks (onesN (r.take 32)) (r.drop 32)).length c) _
      rw [chunks_len]; exact hO)
  have SZ := hid (show (Tryz.prog.info? 23).map (·.size) = some (ints .u8 (r.take 32)).toArray.size by rw [Tryz.sizeA, List.size_toArray, ints_len, hbl])
  have SL := hid (show (Tryz.prog.info? 23).map (·.size) = some (ints .u8 (r.take 32)).length by rw [Tryz.sizeA, ints_len, hbl])
  have ON := hid (ints_one .u8 (r.take 32))
  have AA := hid allocA32
  have d0 := (BK.nil w).alloc (ints .u8 zB) 23
  have LZ := hid (show (ints .u8 zB).length = 32 from rfl)
  have LI := hid (show (ints .u8 (r.take 32)).length = 32 by rw [ints_len, hbl])
  have KP := hid (fun w1 o1 c1 (h : Src w1 (some ⟨b, o1, none⟩) c1 (r.take 32)) j v (hv : (ints .u8 (r.take 32))[j]? = some v) => show w1.cell? ((⟨b, o1, none⟩ : Addr).add j) = some v by rw [Addr.add_mid]; exact src_cells h (by omega) j v hv)
  have CT := hid (fun k (h : k < onesN (r.take 32)) => chunks_take (onesN (r.take 32)) (r.drop 32) k h)
  have HQ := hid (show (r.drop 32).length = r.length - 32 from List.length_drop)
  have Hr := hid hr
  have DC := hid (fun k (h : 32 ≤ ((r.drop 32).drop (32 * k)).length) => (show (((r.drop 32).drop (32 * k)).take 32).length = 32 by rw [List.length_take]; omega))
  have DD := hid (fun k => (show ((r.drop 32).drop (32 * k)).drop 32 = (r.drop 32).drop (32 * (k + 1)) by rw [List.drop_drop]; congr 1))
  have DL := hid (fun k => (show ((r.drop 32).drop (32 * k)).length = (r.drop 32).length - 32 * k from List.length_drop))
  have HOL := hid hol
  clear hbl
  generalize RNp w r = P at *
  generalize hIB : ints .u8 (r.take 32) = IB at *
  clear hIB
  generalize ints .u8 zB = IZ at *
  generalize hQ : r.drop 32 = q at *
  generalize hOO : onesN (r.take 32) = O at *
  generalize hRL : r.length = m at *
  clear hQ hOO hRL hr
  go_enter Tryz.func85, Tryz.ntmps85
  go_wp2_with (first | refine wpList_allocV AA.out rfl rfl ?_)
  refine (KC.out _ (hS.below d0.1 (Nat.le_refl _))).mono ?_
  rintro e w2 ⟨o1, c1, o2, c2, rfl, S1, S2, hb2⟩
  have d2 := d0.call hb2
  have r2 := d2.row (.head _)
  have S2' := hid S2
  go_wp2_with (first
    | (refine wpList_copy_splice rfl (.tmp 16) (.tmp 17) 30 30 rfl 5 Tryz.underlying30 Tryz.size5 (some ⟨w.heap.size, 0, none⟩) (some ⟨b, o1, none⟩) 32 32 32 c1 (by rfl) (by rfl) w.heap.size 0 IZ 23 r2 IB (by rw [LI.out]; rfl) (fun _ => ⟨rfl, _, rfl, KP.out _ _ _ S1⟩) (by rw [LI.out, LZ.out]; decide) ON.out w.heap.size w2 (Below.refl _ _) (Nat.le_refl _) ?_; intro w3 hr3 hB3; refine Hid.out ?_))
  refine hid ?_
  have r2 : w3.heap[w.heap.size]? = some (.cells IB.toArray 23 (0, 0)) := by rw [hr3.out, splice_all _ _ (by rw [LZ.out, LI.out])]
  have d3 : BK w w3 [(w.heap.size, IB, 23)] := ⟨d2.1.trans hB3, fun x hx => by
    simp only [List.mem_cons, List.not_mem_nil, or_false] at hx
    subst hx
    exact r2⟩
  have S3 : Src w3 (some ⟨b, o2, none⟩) c2 q := src_blk S2'.out (hB3.mono (by omega))
  clear S1 S2 S2' hr3 hB3 d2 hb2 d0
  rw [← HQ.out]
  go_wp2_with (first | refine wpList_load_row_w (by rfl) 23 _ (by rfl) _ (by rfl) 23 _ _ _ r2 Tryz.underlying23 rfl SZ.out ?_)
  refine (KO.out _).mono ?_
  rintro e w4 ⟨rfl, hb4⟩
  have d4 := d3.call hb4
  have S4 := S3.below hb4 (Nat.le_refl _)
  have hz4 := d4.lt (.head _)
  clear S3 d3 r2
  have iO : (O : Int) ≤ 256 := by omega
  go_wp2
  go_loopw [3, 4, 5, 6, 21] (fun v3 v4 v5 v6 i wr => ∃ (k : Nat) (t : List Int) (o6 c6 : Nat) (ch : List (List Int)), k ≤ O ∧ i = .int .i64 k ∧ Hid (t = q.drop (32 * k)) ∧ v6 = .slice (some ⟨b, o6, none⟩) t.length c6 ∧ Src wr (some ⟨b, o6, none⟩) c6 t ∧ Hid (ch = chunks k q) ∧ OwnD wr (w.heap.size + 1) v3 ch ∧ Hid (32 * k ≤ q.length) ∧ BK w wr [(w.heap.size, IB, 23)]) (fun _ _ _ _ i _ => O - (intOf i).toNat)
  case atStart => exact ⟨0, q, o2, c2, [], by omega, rfl, hid (by simp), rfl, S4, hid rfl, OwnD.nil _ _, hid (by omega), d4⟩
  case round =>
    clear S4 d4
    obtain ⟨k, t, o6, c6, ch, hk, rfl, ht, rfl, S6, hch, hO, h32, d6⟩ := hrel
    have hzr := d6.lt (.head _)
    have hml2 : t.length ≤ 9223372036854775807 := by have h1 := S6.1; have h2 := S6.2.1; unfold maxLen at h2; omega
    by_cases hlt : k < O
    · have ik : (k : Int) < (O : Int) := by omega
      by_cases h6 : 32 ≤ t.length
      · have KC6 := hid (cut_yes wr t 32 b o6 c6 S6 h6)
        unfold CutP at KC6
        go_wp2_with fail
        refine KC6.out.mono ?_
        rintro e w7 ⟨o7, c7, o8, c8, rfl, S7, S8, hb7⟩
        have d7 := d6.call hb7
        have hO7 := hO.below hb7 (Nat.le_refl _)
        have l7 : (t.take 32).length = 32 := by rw [List.length_take]; omega
        have rg := src_cells S7 (by omega)
        have LD := hid (show (Tryz.prog.info? 28).map (·.size) = some (ints .u8 (t.take 32)).length by rw [Tryz.sizeD, ints_len, l7])
        have L7 := hid (show (ints .u8 (t.take 32)).length = 32 by rw [ints_len, l7])
        have l7' := hid l7
        have ar : ∀ w, (Instr.arrayAt 28 (.slice (some ⟨b, o7, none⟩) 32 c7)).run Tryz.prog w = .ok (.pointer (some ⟨b, o7, none⟩)) w := fun w => run_arrayAt w 28 5 32 (some ⟨b, o7, none⟩) 32 c7 Tryz.underlying28 (Nat.le_refl _)
        have HC := hid (show chunks (k + 1) q = ch ++ [t.take 32] by rw [CT.out k hlt, hch.out, ← ht.out])
        have HT := hid (show t.drop 32 = q.drop (32 * (k + 1)) by rw [ht.out, DD.out])
        have H3 := hid (show 32 * (k + 1) ≤ q.length by have := DL.out k; rw [← ht.out] at this; omega)
        have HD := hid (show (t.drop 32).length = t.length - 32 from List.length_drop)
        have hcl := hid (show ch.length + 1 ≤ 4398046511104 by rw [hch.out, chunks_len]; omega)
        have hz7 : w.heap.size + 1 ≤ w7.heap.size := d7.lt (.head _)
        clear l7 hch ht h32 S6 hO d6 S7
        rw [← HD.out]
        generalize t.take 32 = dg at *
        generalize t.drop 32 = t2 at *
        generalize t.length = tl at *
        go_wp2_with (first
          | refine wpList_load_mid_w (by rfl) 28 _ (by rfl) b o7 (by rfl) _ _ rg Tryz.underlying28 rfl LD.out ?_
          | refine wpList_sliceD rfl _ (by rfl) (ints .u8 dg) L7.out (by rfl) ?_
          | (at_builtin; refine wpList_pushD rfl (.tmp 32) (.tmp 36) rfl (w.heap.size + 1) _ ch dg rfl hO7 rfl l7'.out hcl.out hz7 _ _ ?_; intro v9 w9 hO9 hB9))
        go_roundw
        case rel => exact ⟨k + 1, t2, o8, c8, ch ++ [dg], by omega, by go_num, HT, rfl, src_blk S8 (hB9.mono (by omega)), hid HC.out.symm, hO9, H3, d7.1.trans (hB9.mono (by omega)), fun x hx => by
          simp only [List.mem_cons, List.not_mem_nil, or_false] at hx
          subst hx
          exact hbel hB9 (d7.row (.head _)) (by omega)⟩
        case measure => simp [intOf]; omega
      · have KC6 := hid (cut_no wr 32 t.length (some ⟨b, o6, none⟩) c6 (by omega) (by omega))
        have HN := hid (show m ≠ 32 + 32 * O by have := DL.out k; rw [← ht.out] at this; have := HQ.out; omega)
        go_wp2_with fail
        refine KC6.out.mono ?_
        rintro e w7 ⟨rfl, hb7⟩
        have d7 := d6.call hb7
        have r2 := d7.row (.head _)
        go_wp2_with (first | refine wpList_load_row_w (by rfl) 23 _ (by rfl) _ (by rfl) 23 _ _ _ r2 Tryz.underlying23 rfl SZ.out ?_ | refine wpList_store_row rfl 23 _ _ (by rfl) w.heap.size IB.toArray (by rfl) (by rfl) 23 _ r2 SZ.out (by rfl) (all_oneCell_toArray ON.out) ?_)
        exact bodyPost_ret (v := .tuple #[.agg IB.toArray, .slice none 0 0, .bool false]) (results_c3n Tryz.results85 _ _ w.heap.size 23 _ _ rfl (setRow_heap _ _ _ _ _ _ r2) Tryz.underlying23 rfl SL.out) rfl (FN.out _ (below_setRow d7.1 (Nat.le_refl _) _) _ _ _ HN.out)
    · obtain rfl : k = O := by omega
      have r2 := d6.row (.head _)
      have hlq : t.length = q.length - 32 * k := by rw [ht.out, DL.out]
      obtain ⟨s3, c3, rfl, _, _⟩ := hO.form
      have hcl : ch.length = k := by rw [hch.out, chunks_len]
      rw [hch.out, chunks_len] at hO
      rw [hcl]
      have HO := hid hO
      by_cases h0 : t.length = 0
      · have HY := hid (show m = 32 + 32 * k by have := HQ.out; have := h32.out; have := Hr.out; omega)
        rw [h0]
        clear hlq hch ht hcl h32 hO
        go_wp2_with (first | refine wpList_load_row_w (by rfl) 23 _ (by rfl) _ (by rfl) 23 _ _ _ r2 Tryz.underlying23 rfl SZ.out ?_ | refine wpList_store_row rfl 23 _ _ (by rfl) w.heap.size IB.toArray (by rfl) (by rfl) 23 _ r2 SZ.out (by rfl) (all_oneCell_toArray ON.out) ?_)
        exact bodyPost_ret (v := .tuple #[.agg IB.toArray, .slice s3 k c3, .bool true]) (results_c3n Tryz.results85 _ _ w.heap.size 23 _ _ rfl (setRow_heap _ _ _ _ _ _ r2) Tryz.underlying23 rfl SL.out) rfl (FY.out _ (below_setRow d6.1 (Nat.le_refl _) _) _ _ HY.out (own_lowerD (HO.out.of_heap (fun j hj => setRow_other _ w.heap.size j IB.toArray (by have h1 := (HO.out.block j hj).1; omega))) (by omega)))
      · have HN := hid (show m ≠ 32 + 32 * k by have := HQ.out; have := h32.out; have := Hr.out; omega)
        have h0' : ¬ ((t.length : Int) = 0) := by omega
        have HF := hid (show ((t.length : Int) == 0) = false by simpa using h0')
        clear hlq hch ht hcl h32 hO h0
        generalize t.length = tl at *
        go_wp2_with (first | refine wpList_load_row_w (by rfl) 23 _ (by rfl) _ (by rfl) 23 _ _ _ r2 Tryz.underlying23 rfl SZ.out ?_ | refine wpList_store_row rfl 23 _ _ (by rfl) w.heap.size IB.toArray (by rfl) (by rfl) 23 _ r2 SZ.out (by rfl) (all_oneCell_toArray ON.out) ?_)
        exact bodyPost_ret (v := .tuple #[.agg IB.toArray, .slice s3 k c3, .bool ((tl : Int) == 0)]) (results_c3n Tryz.results85 _ _ w.heap.size 23 _ _ rfl (setRow_heap _ _ _ _ _ _ r2) Tryz.underlying23 rfl SL.out) rfl (by rw [HF.out]; exact FN.out _ (below_setRow d6.1 (Nat.le_refl _) _) _ _ _ HN.out)
theorem readNb_any (w : World) (r : List Int) (hy : Bys r) (sp : Option Addr) (cap : Nat) (hS : Src w sp cap r) :
    Calls Tryz.prog 85 #[.slice sp r.length cap] w (RNp w r) := by
  by_cases hr : r.length < 32
  · exact readNb_short w r sp cap hr
  · exact readNb_long w r hy sp cap hS (by omega)
def DecP (w : World) (t : List Int) (e : Ending) (w' : World) : Prop := ∃ s1 c1 s2 c2, e = .returned (.tuple #[.agg (pfC (decV t) (.slice s1 (decV t).vs.length c1) (.slice s2 (decV t).ss.length c2)).toArray, .int .i64 (decE t)]) ∧ Own w' w.heap.size (.slice s1 (decV t).vs.length c1) (decV t).vs ∧ OwnD w' w.heap.size (.slice s2 (decV t).ss.length c2) (decV t).ss ∧ Below w.heap.size w w'
theorem decP_none {w w' : World} {t : List Int} (h : decP t = none) (hb : Below w.heap.size w w') : DecP w t (.returned (.tuple #[.agg (pfC pf0 (.slice none 0 0) (.slice none 0 0)).toArray, .int .i64 120])) w' := by
  unfold DecP decV decE
  rw [h]
  exact ⟨none, 0, none, 0, rfl, Own.nil _ _, OwnD.nil _ _, hb⟩
theorem decP_some {w w' : World} {t : List Int} {p : Pf} (h : decP t = some p) (hb : Below w.heap.size w w') (s1 s2 : Option Addr) (c1 c2 : Nat) (h1 : Own w' w.heap.size (.slice s1 p.vs.length c1) p.vs) (h2 : OwnD w' w.heap.size (.slice s2 p.ss.length c2) p.ss) :
    DecP w t (.returned (.tuple #[.agg (pfC p (.slice s1 p.vs.length c1) (.slice s2 p.ss.length c2)).toArray, .int .i64 0])) w' := by
  unfold DecP decV decE
  rw [h]
  exact ⟨s1, c1, s2, c2, rfl, h1, h2, hb⟩
set_option maxRecDepth 100000 in
set_option maxHeartbeats 2000000 in
theorem decode_noA (w : World) (t : List Int) (hy : Bys t) (sp : Option Addr) (cap : Nat) (hS : Src w sp cap t) (hA : decA t = none) :
    Calls Tryz.prog 69 #[.slice sp t.length cap] w (DecP w t) := by
  have KA := hid (fun w1 (h : Src w1 sp cap t) => readAnswer_any w1 t hy sp cap h)
  unfold RAp at KA
  rw [hA] at KA
  have FZ := hid (fun w' (hb : Below w.heap.size w w') => decP_none (t := t) (by unfold decP; rw [hA]; rfl) hb)
  have AP := hid allocPf
  have AN := hid allocAn
  have AA := hid allocA32
  have BZ := hid built_pf0
  have LA := hid (show (ansC false (.slice none 0 0)).length = 2 from rfl)
  have LB := hid (show (ints .u8 zB).length = 32 from rfl)
  have SZ := hid (show (Tryz.prog.info? 52).map (·.size) = some (pfC pf0 (.slice none 0 0) (.slice none 0 0)).toArray.size by rw [Tryz.sizeP]; rfl)
  have ON := hid (pfC_one pf0 (.slice none 0 0) (.slice none 0 0) rfl rfl)
  have d0 := (BK.nil w).alloc (pfC pf0 (.slice none 0 0) (.slice none 0 0)) 52
  generalize pfC pf0 (.slice none 0 0) (.slice none 0 0) = IZ at *
  generalize DecP w t = P at *
  go_enter Tryz.func69, Tryz.ntmps69
  go_wp2_with (first | refine wpList_allocV AP.out rfl rfl ?_)
  refine (KA.out _ (hS.below d0.1 (Nat.le_refl _))).mono ?_
  rintro e w2 ⟨hb2, a, r, rfl, cs, rfl, hcs, ⟨fb, fs, fn, fc, rfl⟩, s2, n2, c2, rfl⟩
  have d2 := d0.call hb2
  go_wp2_with (first | (refine wpList_new AN.out LA.out Tryz.sizeAn rfl rfl rfl _ _ rfl rfl (ansC fb (.slice fs fn fc)) rfl rfl (by rfl) (ansC_one _ _ _ _) ?_; refine Hid.out ?_))
  refine hid ?_
  have d3 := d2.other (.cells (ansC fb (.slice fs fn fc)).toArray 33)
  have r2 := d3.row (.head _)
  go_wp2_with (first | refine wpList_allocV AP.out rfl rfl ?_ | refine wpList_built (by rfl) 52 _ (by rfl) _ (by rfl) _ BZ.out ?_ | refine wpList_store_row rfl 52 _ _ (by rfl) w.heap.size IZ.toArray (by rfl) (by rfl) 52 _ r2 SZ.out (by rfl) (all_oneCell_toArray ON.out) ?_)
  exact bodyPost_ret (v := .tuple #[.agg IZ.toArray, .int .i64 120]) (results_c2 Tryz.results69 _ _ w.heap.size 52 _ _ _ rfl (setRow_heap _ _ _ _ _ _ r2) Tryz.underlying52 rfl SZ.out) rfl (FZ.out _ (below_setRow d3.1 (Nat.le_refl _) _))
set_option maxRecDepth 100000 in
set_option maxHeartbeats 2000000 in
theorem decode_noB (w : World) (t : List Int) (hy : Bys t) (sp : Option Addr) (cap : Nat) (hS : Src w sp cap t) (x : Bool × List Int × List Int) (hA : decA t = some x) (hB : decB x.2.2 = none) :
    Calls Tryz.prog 69 #[.slice sp t.length cap] w (DecP w t) := by
  have KA := hid (fun w1 (h : Src w1 sp cap t) => readAnswer_any w1 t hy sp cap h)
  unfold RAp at KA
  rw [hA] at KA
  have hyr : Bys x.2.2 := fun z hz => hy z (by rw [← (decA_some hy hA).2.2]; exact List.mem_append_right _ hz)
  have KR := hid (fun w1 s c (h : Src w1 s c x.2.2) => readNb_any w1 x.2.2 hyr s c h)
  unfold RNp at KR
  rw [hB] at KR
  have FZ := hid (fun w' (hb : Below w.heap.size w w') => decP_none (t := t) (by unfold decP; rw [hA, Option.bind_some, hB]; rfl) hb)
  have AP := hid allocPf
  have AN := hid allocAn
  have AA := hid allocA32
  have BZ := hid built_pf0
  have LA := hid (show (ansC false (.slice none 0 0)).length = 2 from rfl)
  have LB := hid (show (ints .u8 zB).length = 32 from rfl)
  have SZ := hid (show (Tryz.prog.info? 52).map (·.size) = some (pfC pf0 (.slice none 0 0) (.slice none 0 0)).toArray.size by rw [Tryz.sizeP]; rfl)
  have ON := hid (pfC_one pf0 (.slice none 0 0) (.slice none 0 0) rfl rfl)
  have d0 := (BK.nil w).alloc (pfC pf0 (.slice none 0 0) (.slice none 0 0)) 52
  generalize pfC pf0 (.slice none 0 0) (.slice none 0 0) = IZ at *
  generalize DecP w t = P at *
  obtain ⟨f, v, r⟩ := x
  simp only at KA KR
  go_enter Tryz.func69, Tryz.ntmps69
  go_wp2_with (first | refine wpList_allocV AP.out rfl rfl ?_)
  refine (KA.out _ (hS.below d0.1 (Nat.le_refl _))).mono ?_
  rintro e w2 ⟨hb2, s2, c2, s3, c3, rfl, hO2, hS2, hn2⟩
  have d2 := d0.call hb2
  go_wp2_with (first | (refine wpList_new AN.out LA.out Tryz.sizeAn rfl rfl rfl _ _ rfl rfl (ansC f (.slice s2 v.length c2)) rfl rfl (by rfl) (ansC_one _ _ _ _) ?_; refine Hid.out ?_))
  refine hid ?_
  have d3 := d2.alloc (ansC f (.slice s2 v.length c2)) 33
  have b3 : Below w2.heap.size w2 (w2.alloc (.cells (ansC f (.slice s2 v.length c2)).toArray 33)) := (Below.refl _ _).alloc (Nat.le_refl _) _
  have hS3 := hS2.below b3 (Nat.le_refl _)
  have hO3 := hO2.below b3 (Nat.le_refl _)
  have hz0 := d2.lt (.head _)
  have hz3 : w2.heap.size < (w2.alloc (.cells (ansC f (.slice s2 v.length c2)).toArray 33)).heap.size := by simp
  generalize w2.alloc (.cells (ansC f (.slice s2 v.length c2)).toArray 33) = w3 at *
  generalize hG3 : w2.heap.size = G3 at *
  clear hG3
  go_wp2_with fail
  refine (KR.out _ _ _ hS3).mono ?_
  rintro e w4 ⟨hb4, X, s4, n4, c4, rfl, hX⟩
  have d4 := d3.call hb4
  have LX := hid (show (ints .u8 X).length = 32 by rw [ints_len, hX])
  go_wp2_with (first | (refine wpList_new AA.out LB.out Tryz.sizeA rfl rfl rfl _ _ rfl rfl (ints .u8 X) rfl rfl LX.out (ints_one _ _) ?_; refine Hid.out ?_))
  refine hid ?_
  have d5 := d4.other (.cells (ints .u8 X).toArray 23)
  have r2 := d5.row (.tail _ (.head _))
  go_wp2_with (first | refine wpList_allocV AP.out rfl rfl ?_ | refine wpList_built (by rfl) 52 _ (by rfl) _ (by rfl) _ BZ.out ?_ | refine wpList_store_row rfl 52 _ _ (by rfl) w.heap.size IZ.toArray (by rfl) (by rfl) 52 _ r2 SZ.out (by rfl) (all_oneCell_toArray ON.out) ?_)
  exact bodyPost_ret (v := .tuple #[.agg IZ.toArray, .int .i64 120]) (results_c2 Tryz.results69 _ _ w.heap.size 52 _ _ _ rfl (setRow_heap _ _ _ _ _ _ r2) Tryz.underlying52 rfl SZ.out) rfl (FZ.out _ (below_setRow d5.1 (Nat.le_refl _) _))
set_option maxRecDepth 100000 in
set_option maxHeartbeats 2000000 in
theorem decode_yes (w : World) (t : List Int) (hy : Bys t) (sp : Option Addr) (cap : Nat) (hS : Src w sp cap t) (x : Bool × List Int × List Int) (hA : decA t = some x) (y : List Int × List (List Int)) (hB : decB x.2.2 = some y) :
    Calls Tryz.prog 69 #[.slice sp t.length cap] w (DecP w t) := by
  have KA := hid (fun w1 (h : Src w1 sp cap t) => readAnswer_any w1 t hy sp cap h)
  unfold RAp at KA
  rw [hA] at KA
  have hyr : Bys x.2.2 := fun z hz => hy z (by rw [← (decA_some hy hA).2.2]; exact List.mem_append_right _ hz)
  have KR := hid (fun w1 s c (h : Src w1 s c x.2.2) => readNb_any w1 x.2.2 hyr s c h)
  unfold RNp at KR
  rw [hB] at KR
  have hP : decP t = some ⟨x.1, x.2.1, y.1, y.2⟩ := by unfold decP; rw [hA, Option.bind_some, hB]; rfl
  have ok := (dec_some hy hP).1
  have FY := hid (fun w' (hb : Below w.heap.size w w') s1 s2 c1 c2 h1 h2 => decP_some (t := t) hP hb s1 s2 c1 c2 h1 h2)
  have BF := hid (fun s1 s2 n1 c1 n2 c2 => built_pf ⟨x.1, x.2.1, y.1, y.2⟩ ok s1 s2 n1 c1 n2 c2)
  have LF := hid (fun u v => pfC_len ok u v)
  have OF := hid (fun s1 s2 n1 c1 n2 c2 => pfC_one ⟨x.1, x.2.1, y.1, y.2⟩ (.slice s1 n1 c1) (.slice s2 n2 c2) rfl rfl)
  have LY := hid (show (ints .u8 y.1).length = 32 by rw [ints_len]; exact ok.bs)
  have SY := hid (show (Tryz.prog.info? 23).map (·.size) = some (ints .u8 y.1).toArray.size by rw [Tryz.sizeA, List.size_toArray, LY.out])
  have AP := hid allocPf
  have AN := hid allocAn
  have AA := hid allocA32
  have BZ := hid built_pf0
  have LA := hid (show (ansC false (.slice none 0 0)).length = 2 from rfl)
  have LB := hid (show (ints .u8 zB).length = 32 from rfl)
  have SZ := hid (show (Tryz.prog.info? 52).map (·.size) = some (pfC pf0 (.slice none 0 0) (.slice none 0 0)).toArray.size by rw [Tryz.sizeP]; rfl)
  have ON := hid (pfC_one pf0 (.slice none 0 0) (.slice none 0 0) rfl rfl)
  have d0 := (BK.nil w).alloc (pfC pf0 (.slice none 0 0) (.slice none 0 0)) 52
  generalize pfC pf0 (.slice none 0 0) (.slice none 0 0) = IZ at *
  generalize DecP w t = P at *
  obtain ⟨f, v, r⟩ := x
  simp only at KA KR FY BF LF OF LY SY
  obtain ⟨bs, ss⟩ := y
  simp only at KR FY BF LF OF LY SY
  go_enter Tryz.func69, Tryz.ntmps69
  go_wp2_with (first | refine wpList_allocV AP.out rfl rfl ?_)
  refine (KA.out _ (hS.below d0.1 (Nat.le_refl _))).mono ?_
  rintro e w2 ⟨hb2, s2, c2, s3, c3, rfl, hO2, hS2, hn2⟩
  have d2 := d0.call hb2
  go_wp2_with (first | (refine wpList_new AN.out LA.out Tryz.sizeAn rfl rfl rfl _ _ rfl rfl (ansC f (.slice s2 v.length c2)) rfl rfl (by rfl) (ansC_one _ _ _ _) ?_; refine Hid.out ?_))
  refine hid ?_
  have d3 := d2.alloc (ansC f (.slice s2 v.length c2)) 33
  have b3 : Below w2.heap.size w2 (w2.alloc (.cells (ansC f (.slice s2 v.length c2)).toArray 33)) := (Below.refl _ _).alloc (Nat.le_refl _) _
  have hS3 := hS2.below b3 (Nat.le_refl _)
  have hO3 := hO2.below b3 (Nat.le_refl _)
  have hz0 := d2.lt (.head _)
  have hz3 : w2.heap.size < (w2.alloc (.cells (ansC f (.slice s2 v.length c2)).toArray 33)).heap.size := by simp
  generalize w2.alloc (.cells (ansC f (.slice s2 v.length c2)).toArray 33) = w3 at *
  generalize hG3 : w2.heap.size = G3 at *
  clear hG3
  go_wp2_with fail
  refine (KR.out _ _ _ hS3).mono ?_
  rintro e w4 ⟨hb4, s4, c4, rfl, hO4⟩
  have d4 := d3.call hb4
  have hO4b := hO3.below hb4 (Nat.le_refl _)
  go_wp2_with (first | (refine wpList_new AA.out LB.out Tryz.sizeA rfl rfl rfl _ _ rfl rfl (ints .u8 bs) rfl rfl LY.out (ints_one _ _) ?_; refine Hid.out ?_))
  refine hid ?_
  have d5 := d4.alloc (ints .u8 bs) 23
  have b5 : Below w4.heap.size w4 (w4.alloc (.cells (ints .u8 bs).toArray 23)) := (Below.refl _ _).alloc (Nat.le_refl _) _
  have hO5 := hO4.below b5 (Nat.le_refl _)
  have hO5b := hO4b.below b5 (Nat.le_refl _)
  have ra := d5.row (.head _)
  have rb := d5.cell (.tail _ (.head _)) (v := .bool f) (j := 0) rfl
  have rc := d5.cell (.tail _ (.head _)) (v := .slice s2 v.length c2) (j := 1) rfl
  have r2 := d5.row (.tail _ (.tail _ (.head _)))
  rw [show (w.alloc (.cells IZ.toArray 52)).heap.size = w.heap.size + 1 by simp] at hO5b
  have LZ9 : IZ.length = 35 := by have := SZ.out; rw [Tryz.sizeP, List.size_toArray] at this; exact (Option.some.inj this).symm
  have LZ := hid LZ9
  clear LZ9
  generalize w4.alloc (.cells (ints .u8 bs).toArray 23) = w5 at *
  generalize w4.heap.size = G4 at *
  generalize ints .u8 bs = IB at *
  generalize pfC ⟨f, v, bs, ss⟩ = PF at *
  go_wp2_with (first
    | refine wpList_load_row_w (by rfl) 23 _ (by rfl) _ (by rfl) 23 _ _ _ ra Tryz.underlying23 rfl SY.out ?_
    | refine wpList_built (by rfl) 52 _ (by rfl) _ (by rfl) _ (BF.out _ _ _ _ _ _) ?_
    | refine wpList_store_row rfl 52 _ _ (by rfl) w.heap.size (PF (.slice s2 v.length c2) (.slice s4 ss.length c4)).toArray (by rfl) (by rfl) 52 _ r2 (by rw [Tryz.sizeP, List.size_toArray, LF.out]) (by rw [List.size_toArray, List.size_toArray, LF.out, LZ.out]) (all_oneCell_toArray (OF.out _ _ _ _ _ _)) ?_)
  exact bodyPost_ret (v := .tuple #[.agg (PF (.slice s2 v.length c2) (.slice s4 ss.length c4)).toArray, .int .i64 0]) (results_c2 Tryz.results69 _ _ w.heap.size 52 _ _ _ rfl (setRow_heap _ _ _ _ _ _ r2) Tryz.underlying52 rfl (by rw [Tryz.sizeP, List.size_toArray, LF.out])) rfl (FY.out _ (below_setRow d5.1 (Nat.le_refl _) _) _ _ _ _
    (own_lower (hO5b.of_heap (fun k hk => setRow_other _ w.heap.size k _ (by have h1 := (hO5b.block k hk).1; omega))) (by omega))
    (own_lowerD (hO5.of_heap (fun k hk => setRow_other _ w.heap.size k _ (by have h1 := (hO5.block k hk).1; omega))) (by omega)))
theorem decode_any (w : World) (t : List Int) (hy : Bys t) (sp : Option Addr) (cap : Nat) (hS : Src w sp cap t) :
    Calls Tryz.prog 69 #[.slice sp t.length cap] w (DecP w t) := by
  cases hA : decA t with
  | none => exact decode_noA w t hy sp cap hS hA
  | some x =>
    cases hB : decB x.2.2 with
    | none => exact decode_noB w t hy sp cap hS x hA hB
    | some y => exact decode_yes w t hy sp cap hS x hA y hB
end Go.Proofs.YtbjahdbmkcamoaaGreatDoor
