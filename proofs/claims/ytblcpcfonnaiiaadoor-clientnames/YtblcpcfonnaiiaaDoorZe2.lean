import Derived.Test.YtblcpcfonnaiiaaDoorZd2
namespace Go.Proofs.YtblcpcfonnaiiaaDoor
set_option linter.unusedVariables false
set_option linter.unusedSimpArgs false
open Go.RowKit
attribute [local go_sem ↓] Go.wp_at_zero Go.wp_at_succ

theorem or_nat (A x k : Nat) (hk : k ≤ 24) (hA : A < 2 ^ k) (hx : x < 256) : bits .or .i64 (A : Int) ((x * 2 ^ k : Nat) : Int) = ((A + x * 2 ^ k : Nat) : Int) := by
  have h24 : (2 : Nat) ^ k ≤ 2 ^ 24 := Nat.pow_le_pow_right (by decide) hk
  have hxp : x * 2 ^ k ≤ 255 * 2 ^ 24 := Nat.mul_le_mul (by omega) h24
  show IntKind.i64.wrap ((BitVec.ofInt 64 (A : Int) ||| BitVec.ofInt 64 ((x * 2 ^ k : Nat) : Int)).toNat : Int) = _
  have e1 : (BitVec.ofInt 64 (A : Int)).toNat = A := by rw [BitVec.toNat_ofInt]; omega
  have e2 : (BitVec.ofInt 64 ((x * 2 ^ k : Nat) : Int)).toNat = x * 2 ^ k := by rw [BitVec.toNat_ofInt]; omega
  rw [BitVec.toNat_or, e1, e2, Nat.or_comm, Nat.mul_comm x, ← Nat.two_pow_add_eq_or_of_lt hA, Nat.add_comm, IntKind.wrap_i64]
  rw [Nat.mul_comm] at hxp
  omega
theorem results_c3 {P : Program} {fn : Func} {p q r : Tmp} {ty : TypeId} (h : fn.results = #[.cell p ty, .tmp q, .tmp r]) (tmps : Array Value) (w : World) (g : Nat) (t : TypeId) (cs : Array Value) (fr : Nat × Nat) (d : TypeDesc)
    (hp : tmps.getD p undef = .pointer (some ⟨g, 0, none⟩)) (hg : w.heap[g]? = some (.cells cs t fr))
    (hu : P.underlying ty = some d) (hd : (match d with | .struct _ | .array _ _ => true | _ => false) = true) (hi : (P.info? ty).map (·.size) = some cs.size) :
    (results fn tmps).run P w = .ok (.tuple #[.agg cs, tmps.getD q undef, tmps.getD r undef]) w := by
  have hp' : tmps[p]?.getD undef = .pointer (some ⟨g, 0, none⟩) := by simpa using hp
  simp [results, h, hp', asAddr, run_loadVar_row w g t ty cs fr d hg hu hd hi]
theorem results_c2 {P : Program} {fn : Func} {p q : Tmp} {ty : TypeId} (h : fn.results = #[.cell p ty, .tmp q]) (tmps : Array Value) (w : World) (g : Nat) (t : TypeId) (cs : Array Value) (fr : Nat × Nat) (d : TypeDesc)
    (hp : tmps.getD p undef = .pointer (some ⟨g, 0, none⟩)) (hg : w.heap[g]? = some (.cells cs t fr))
    (hu : P.underlying ty = some d) (hd : (match d with | .struct _ | .array _ _ => true | _ => false) = true) (hi : (P.info? ty).map (·.size) = some cs.size) :
    (results fn tmps).run P w = .ok (.tuple #[.agg cs, tmps.getD q undef]) w := by
  have hp' : tmps[p]?.getD undef = .pointer (some ⟨g, 0, none⟩) := by simpa using hp
  simp [results, h, hp', asAddr, run_loadVar_row w g t ty cs fr d hg hu hd hi]
theorem src_cut {w : World} {b o cap : Nat} {t : List Int} (hS : Src w (some ⟨b, o, none⟩) cap t) (n : Nat) (h : n ≤ t.length) : Src w (some ⟨b, o, none⟩) n (t.take n) := by
  obtain ⟨h1, h2, b', o', h3, h4, h5⟩ := hS
  refine ⟨by rw [List.length_take]; omega, by omega, b', o', fun h => h3 (by rw [List.length_take] at h; omega), fun h => h4 (by rw [List.length_take] at h; omega), fun j hj => ?_⟩
  rw [List.length_take] at hj
  rw [h5 j (by omega), List.getD_eq_getElem?_getD, List.getD_eq_getElem?_getD, List.getElem?_take, if_pos (by omega)]
theorem src_rest {w : World} {b o cap : Nat} {t : List Int} (hS : Src w (some ⟨b, o, none⟩) cap t) (n : Nat) (h : n ≤ t.length) : Src w (some ⟨b, o + n, none⟩) (cap - n) (t.drop n) := by
  obtain ⟨h1, h2, b', o', h3, h4, h5⟩ := hS
  refine ⟨by rw [List.length_drop]; omega, by omega, b, o + n, fun h => ?_, fun h => rfl, fun j hj => ?_⟩
  · rw [List.length_drop] at h
    have e := h4 (by omega)
    cases e
    exact h3 (by omega)
  · rw [List.length_drop] at hj
    have e := h4 (by omega)
    cases e
    rw [Nat.add_assoc, h5 (n + j) (by omega), List.getD_eq_getElem?_getD, List.getD_eq_getElem?_getD, List.getElem?_drop]
def CutP (b : Nat) (t : List Int) (n : Nat) (w w' : World) (e : Ending) : Prop :=
  ∃ o1 c1 o2 c2, e = .returned (.tuple #[.slice (some ⟨b, o1, none⟩) n c1, .slice (some ⟨b, o2, none⟩) (t.length - n) c2, .bool true]) ∧ Src w' (some ⟨b, o1, none⟩) c1 (t.take n) ∧ Src w' (some ⟨b, o2, none⟩) c2 (t.drop n) ∧ Below w.heap.size w w'
set_option maxRecDepth 100000 in
set_option maxHeartbeats 2000000 in
theorem cut_no (w : World) (n m : Nat) (sp : Option Addr) (cap : Nat) (h : m < n) (hn : n ≤ 9223372036854775807) :
    Calls Tryd.prog 66 #[.slice sp m cap, .int .i64 n] w fun e w' => e = .returned (.tuple #[.slice none 0 0, .slice none 0 0, .bool false]) ∧ Below w.heap.size w w' := by
  have i1 : (m : Int) < (n : Int) := by omega
  have i2 : (n : Int) ≤ 9223372036854775807 := by omega
  go_enter Tryd.func66, Tryd.ntmps66
  go_wp2
  exact bodyPost_ret (results_tmp3 Tryd.results66 _ _ _) rfl ⟨rfl, Below.refl _ _⟩
set_option maxRecDepth 100000 in
set_option maxHeartbeats 2000000 in
theorem cut_yes (w : World) (t : List Int) (n : Nat) (b o cap : Nat) (hS : Src w (some ⟨b, o, none⟩) cap t) (h : n ≤ t.length) :
    Calls Tryd.prog 66 #[.slice (some ⟨b, o, none⟩) t.length cap, .int .i64 n] w fun e w' => CutP b t n w w' e := by
  have S1 := hid (src_cut hS n h)
  have S2 := hid (src_rest hS n h)
  have S0 := hid hS
  have hc := hS.1
  have hm := hS.2.1
  unfold maxLen at hm
  unfold CutP
  have HE := hid (show t.length - n = 0 → t.drop n = [] from fun e => List.eq_nil_of_length_eq_zero (by rw [List.length_drop]; exact e))
  have ML := hid (show cap ≤ maxLen from hS.2.1)
  generalize t.length = m at *
  have i1 : (n : Int) ≤ (m : Int) := by omega
  have i2 : (m : Int) ≤ (cap : Int) := by omega
  have i3 : (cap : Int) ≤ 9223372036854775807 := by omega
  have i4 : (n : Int) ≤ (cap : Int) := by omega
  by_cases hq : cap = n
  · subst hq
    obtain rfl : m = cap := by omega
    go_enter Tryd.func66, Tryd.ntmps66
    go_wp2
    go_quiet (fail)
    go_wp2
    refine bodyPost_ret (results_tmp3 Tryd.results66 _ _ _) rfl ?_
    refine ⟨o, m, o, 0, ?_, S1.out.below (below_drewN (Below.refl _ _) _) (Nat.le_refl _), ?_, below_drewN (Below.refl _ _) _⟩
    · simp
    · rw [HE.out (by omega)]; exact Src.empty _ _ _ (by simp [maxLen])
  · have i5 : (n : Int) < (cap : Int) := by omega
    go_enter Tryd.func66, Tryd.ntmps66
    go_wp2
    go_quiet (fail)
    go_wp2
    refine bodyPost_ret (results_tmp3 Tryd.results66 _ _ _) rfl ?_
    refine ⟨o, n, o + n, cap - n, ?_, S1.out.below (below_drewN (Below.refl _ _) _) (Nat.le_refl _), S2.out.below (below_drewN (Below.refl _ _) _) (Nat.le_refl _), below_drewN (Below.refl _ _) _⟩
    simp
set_option maxRecDepth 100000 in
set_option maxHeartbeats 2000000 in
theorem number_any (w : World) (t : List Int) (hy : Bys t) (hl : t.length = 2) (sp : Option Addr) (cap : Nat) (hS : Src w sp cap t) :
    Calls Tryd.prog 67 #[.slice sp 2 cap] w fun e w' => e = .returned (.int .i64 (t.getD 0 0 + 256 * t.getD 1 0)) ∧ Below w.heap.size w w' := by
  obtain ⟨hc, hm, b, o, hb, hsp, hsrc⟩ := hS
  obtain rfl := hsp (by omega)
  have c0 := hsrc 0 (by omega)
  have c1 := hsrc 1 (by omega)
  rw [Nat.add_zero] at c0
  have b0 := hy.at 0 (by omega)
  have b1 := hy.at 1 (by omega)
  generalize t.getD 0 0 = x0 at *
  generalize t.getD 1 0 = x1 at *
  have HO := hid (show bits .or .i64 x0 (x1 * 256) = x0 + 256 * x1 by
    obtain ⟨a, rfl⟩ := Int.eq_ofNat_of_zero_le b0.1
    obtain ⟨b, rfl⟩ := Int.eq_ofNat_of_zero_le b1.1
    have h1 := or_nat a b 8 (by decide) (by omega) (by omega)
    rw [show ((b : Int) * 256) = ((b * 2 ^ 8 : Nat) : Int) by omega, h1]
    omega)
  clear hsrc hsp hb hy hl hc hm
  go_enter Tryd.func67, Tryd.ntmps67
  go_wp2
  go_quiet (fail)
  go_wp2
  go_ret
  refine ⟨?_, below_drewN (Below.refl _ _) _⟩
  rw [← HO.out]
  rfl

def ansC (f : Bool) (v : Value) : List Value := [.bool f, v]
def RAp (w : World) (t : List Int) (e : Ending) (w' : World) : Prop :=
  Below w.heap.size w w' ∧ match decA t with
  | none => ∃ a r, e = .returned (.tuple #[a, r, .bool false]) ∧ ∃ cs, a = .agg cs ∧ cs.size = 2 ∧ (∃ b s n c, cs = (ansC b (.slice s n c)).toArray) ∧ ∃ s n c, r = .slice s n c
  | some x => ∃ s1 c1 s2 c2, e = .returned (.tuple #[.agg (ansC x.1 (.slice s1 x.2.1.length c1)).toArray, .slice s2 x.2.2.length c2, .bool true]) ∧ Own w' w.heap.size (.slice s1 x.2.1.length c1) x.2.1 ∧ Src w' s2 c2 x.2.2 ∧ (s2 = none → c2 = 0)
theorem src_blk {w w1 : World} {b o cap : Nat} {t : List Int} (hS : Src w (some ⟨b, o, none⟩) cap t) (hb : Below (b + 1) w w1) : Src w1 (some ⟨b, o, none⟩) cap t := by
  obtain ⟨h1, h2, b', o', h3, h4, h5⟩ := hS
  refine ⟨h1, h2, b', o', fun h => Nat.lt_of_lt_of_le (h3 h) hb.size, h4, fun j hj => ?_⟩
  have e := h4 (by omega)
  cases e
  exact (hb.cell (p := ⟨b, o + j, none⟩) (by show b < b + 1; omega)).trans (h5 j hj)
theorem ansC_one (f : Bool) (s : Option Addr) (n c : Nat) : ∀ x ∈ ansC f (.slice s n c), x.oneCell' = true := fun x hx => by
  simp only [ansC, List.mem_cons, List.not_mem_nil, or_false] at hx
  rcases hx with rfl | rfl <;> rfl
theorem Tryd.sizeAn : (Tryd.prog.info? 24).map (·.size) = some 2 := by kernel_rfl
theorem built_an0 : Tryd.prog.built 24 [] = some (ansC false (.slice none 0 0)).toArray := by kernel_rfl
theorem built_an (s : Option Addr) (n c : Nat) : Tryd.prog.built 24 [(0, .bool true), (1, .slice s n c)] = some (ansC true (.slice s n c)).toArray := by kernel_rfl
theorem allocAn (a : Act) (o : Oper) (w : World) (ho : o.op = .alloc 24) : (execOp a.eval o).run Tryd.prog w = .ok (.value (.pointer (some ⟨w.heap.size, 0, none⟩))) (w.alloc (.cells (ansC false (.slice none 0 0)).toArray 24)) := by
  unfold execOp
  rw [ho]
  kernel_rfl
theorem wpList_allocV {P : Program} {t : TypeId} {Z : List Value} (hz : ∀ (a : Act) (o : Oper) (w : World), o.op = .alloc t → (execOp a.eval o).run P w = .ok (.value (.pointer (some ⟨w.heap.size, 0, none⟩))) (w.alloc (.cells Z.toArray t)))
    {ops : Array Oper} {rest : List Oper} {o1 : Oper} {a : Act} {w : World} {Q : Exit → Act → World → Prop} (hg1 : o1.guard = none) (ho1 : o1.op = .alloc t)
    (h : wpList P ops Q rest (a.put o1.dst (.pointer (some ⟨w.heap.size, 0, none⟩))) (w.alloc (.cells Z.toArray t))) : wpList P ops Q (o1 :: rest) a w := by
  refine wpList_plain hg1 fun K hK => ?_
  unfold Oper.wp
  rw [hz a o1 w ho1]
  exact hK _ _ h
set_option maxRecDepth 100000 in
set_option maxHeartbeats 2000000 in
theorem readAnswer_nil (w : World) (sp : Option Addr) (cap : Nat) :
    Calls Tryd.prog 56 #[.slice sp 0 cap] w (RAp w []) := by
  have KC := hid (fun w1 => cut_no w1 1 0 sp cap (by omega) (by omega))
  have FZ := hid (fun w' (hb : Below w.heap.size w w') => show RAp w ([]) (.returned (.tuple #[.agg (ansC false (.slice none 0 0)).toArray, .slice none 0 0, .bool false])) w' from by unfold RAp; rw [show decA [] = none from rfl]; exact ⟨hb, _, _, rfl, _, rfl, rfl, ⟨_, _, _, _, rfl⟩, ⟨_, _, _, rfl⟩⟩)
  generalize RAp w [] = P at *
  have BZ := hid built_an0
  have d0 := (BK.nil w).alloc (ansC false (.slice none 0 0)) 24
  go_enter Tryd.func56, Tryd.ntmps56
  go_wp2_with fail
  refine (KC.out _).mono ?_
  rintro e w2 ⟨rfl, hb2⟩
  have d2 := d0.call hb2
  have r2 := d2.row (.head _)
  go_wp2_with (first | refine wpList_built (by rfl) 24 _ (by rfl) _ (by rfl) _ BZ.out ?_ | refine wpList_store_row rfl 24 _ _ (by rfl) w.heap.size (ansC false (.slice none 0 0)).toArray (by rfl) (by rfl) 24 _ r2 (by rw [Tryd.sizeAn]; rfl) (by rfl) (all_oneCell_toArray (ansC_one _ _ _ _)) ?_)
  exact bodyPost_ret (v := .tuple #[.agg (ansC false (.slice none 0 0)).toArray, .slice none 0 0, .bool false]) (results_c3 Tryd.results56 _ _ w.heap.size 24 _ _ _ rfl (setRow_heap _ _ _ _ _ _ r2) Tryd.underlying24 rfl (by rw [Tryd.sizeAn]; rfl)) rfl (FZ.out _ (below_setRow d2.1 (Nat.le_refl _) _))
set_option maxRecDepth 100000 in
set_option maxHeartbeats 2000000 in
theorem readAnswer_bad (w : World) (x : Int) (r : List Int) (sp : Option Addr) (cap : Nat) (hS : Src w sp cap (x :: r)) (hx : 1 < x) :
    Calls Tryd.prog 56 #[.slice sp (x :: r).length cap] w (RAp w (x :: r)) := by
  have FZ := hid (fun w' (hb : Below w.heap.size w w') => show RAp w (x :: r) (.returned (.tuple #[.agg (ansC false (.slice none 0 0)).toArray, .slice none 0 0, .bool false])) w' from by unfold RAp; rw [show decA (x :: r) = none by simp only [decA]; rw [if_neg (by omega), if_neg (by omega)]]; exact ⟨hb, _, _, rfl, _, rfl, rfl, ⟨_, _, _, _, rfl⟩, ⟨_, _, _, rfl⟩⟩)
  generalize RAp w (x :: r) = P at *
  have S0 := hid hS
  obtain ⟨b, o, rfl⟩ : ∃ b o, sp = some ⟨b, o, none⟩ := by obtain ⟨_, _, b, o, h3, h4, _⟩ := hS; exact ⟨b, o, h4 (by simp)⟩
  have hbw : b + 1 ≤ w.heap.size := hS.lt (by simp)
  have BZ := hid built_an0
  have d0 := (BK.nil w).alloc (ansC false (.slice none 0 0)) 24
  have KC := hid (fun w1 (h : Src w1 (some ⟨b, o, none⟩) cap (x :: r)) => cut_yes w1 (x :: r) 1 b o cap h (by simp))
  unfold CutP at KC
  have XL := hid (show (x :: r).length = r.length + 1 from rfl)
  rw [XL.out] at KC ⊢
  simp only [List.drop_succ_cons, List.drop_zero, List.take_succ_cons, List.take_zero, Nat.add_sub_cancel] at KC
  go_enter Tryd.func56, Tryd.ntmps56
  go_wp2_with fail
  refine (KC.out _ (S0.out.below d0.1 (Nat.le_refl _))).mono ?_
  rintro e w2 ⟨o1, c1, o2, c2, rfl, S1, S2, hb2⟩
  have d2 := d0.call hb2
  have r2 := d2.row (.head _)
  have x0 : w2.cell? ⟨b, o1, none⟩ = some (.int .u8 (x)) := by
    obtain ⟨_, _, b', o', _, h4, h5⟩ := S1
    have e := h4 (by simp)
    cases e
    exact h5 0 (by simp)
  go_wp2_with (first | refine wpList_built (by rfl) 24 _ (by rfl) _ (by rfl) _ BZ.out ?_ | refine wpList_store_row rfl 24 _ _ (by rfl) w.heap.size (ansC false (.slice none 0 0)).toArray (by rfl) (by rfl) 24 _ r2 (by rw [Tryd.sizeAn]; rfl) (by rfl) (all_oneCell_toArray (ansC_one _ _ _ _)) ?_)
  exact bodyPost_ret (v := .tuple #[.agg (ansC false (.slice none 0 0)).toArray, .slice none 0 0, .bool false]) (results_c3 Tryd.results56 _ _ w.heap.size 24 _ _ _ rfl (setRow_heap _ _ _ _ _ _ r2) Tryd.underlying24 rfl (by rw [Tryd.sizeAn]; rfl)) rfl (FZ.out _ (below_setRow d2.1 (Nat.le_refl _) _))
set_option maxRecDepth 100000 in
set_option maxHeartbeats 2000000 in
theorem readAnswer_zero (w : World) (r : List Int) (sp : Option Addr) (cap : Nat) (hS : Src w sp cap (0 :: r)) :
    Calls Tryd.prog 56 #[.slice sp (0 :: r).length cap] w (RAp w (0 :: r)) := by
  have FZ := hid (fun w' (hb : Below w.heap.size w w') s c (h1 : Src w' s c r) (h2 : s = none → c = 0) => show RAp w (0 :: r) (.returned (.tuple #[.agg (ansC false (.slice none 0 0)).toArray, .slice s r.length c, .bool true])) w' from ⟨hb, none, 0, s, c, rfl, Own.nil _ _, h1, h2⟩)
  generalize RAp w (0 :: r) = P at *
  have S0 := hid hS
  obtain ⟨b, o, rfl⟩ : ∃ b o, sp = some ⟨b, o, none⟩ := by obtain ⟨_, _, b, o, h3, h4, _⟩ := hS; exact ⟨b, o, h4 (by simp)⟩
  have hbw : b + 1 ≤ w.heap.size := hS.lt (by simp)
  have BZ := hid built_an0
  have d0 := (BK.nil w).alloc (ansC false (.slice none 0 0)) 24
  have KC := hid (fun w1 (h : Src w1 (some ⟨b, o, none⟩) cap (0 :: r)) => cut_yes w1 (0 :: r) 1 b o cap h (by simp))
  unfold CutP at KC
  have XL := hid (show (0 :: r).length = r.length + 1 from rfl)
  rw [XL.out] at KC ⊢
  simp only [List.drop_succ_cons, List.drop_zero, List.take_succ_cons, List.take_zero, Nat.add_sub_cancel] at KC
  go_enter Tryd.func56, Tryd.ntmps56
  go_wp2_with fail
  refine (KC.out _ (S0.out.below d0.1 (Nat.le_refl _))).mono ?_
  rintro e w2 ⟨o1, c1, o2, c2, rfl, S1, S2, hb2⟩
  have d2 := d0.call hb2
  have r2 := d2.row (.head _)
  have x0 : w2.cell? ⟨b, o1, none⟩ = some (.int .u8 (0)) := by
    obtain ⟨_, _, b', o', _, h4, h5⟩ := S1
    have e := h4 (by simp)
    cases e
    exact h5 0 (by simp)
  go_wp2_with (first | refine wpList_built (by rfl) 24 _ (by rfl) _ (by rfl) _ BZ.out ?_ | refine wpList_store_row rfl 24 _ _ (by rfl) w.heap.size (ansC false (.slice none 0 0)).toArray (by rfl) (by rfl) 24 _ r2 (by rw [Tryd.sizeAn]; rfl) (by rfl) (all_oneCell_toArray (ansC_one _ _ _ _)) ?_)
  exact bodyPost_ret (v := .tuple #[.agg (ansC false (.slice none 0 0)).toArray, .slice (some ⟨b, o2, none⟩) r.length c2, .bool true]) (results_c3 Tryd.results56 _ _ w.heap.size 24 _ _ _ rfl (setRow_heap _ _ _ _ _ _ r2) Tryd.underlying24 rfl (by rw [Tryd.sizeAn]; rfl)) rfl (FZ.out _ (below_setRow d2.1 (Nat.le_refl _) _) _ _ (src_blk S2 (below_setRow (Below.refl _ _) hbw _)) (fun h => by cases h))
set_option maxRecDepth 100000 in
set_option maxHeartbeats 2000000 in
theorem readAnswer_short (w : World) (r : List Int) (sp : Option Addr) (cap : Nat) (hS : Src w sp cap (1 :: r)) (hr : r.length < 2) :
    Calls Tryd.prog 56 #[.slice sp (1 :: r).length cap] w (RAp w (1 :: r)) := by
  have FZ := hid (fun w' (hb : Below w.heap.size w w') => show RAp w (1 :: r) (.returned (.tuple #[.agg (ansC false (.slice none 0 0)).toArray, .slice none 0 0, .bool false])) w' from by unfold RAp; rw [show decA (1 :: r) = none by match r, hr with | [], _ => rfl | [a], _ => rfl]; exact ⟨hb, _, _, rfl, _, rfl, rfl, ⟨_, _, _, _, rfl⟩, ⟨_, _, _, rfl⟩⟩)
  have K2 := hid (fun w1 s c => cut_no w1 2 r.length s c hr (by omega))
  generalize RAp w (1 :: r) = P at *
  have S0 := hid hS
  obtain ⟨b, o, rfl⟩ : ∃ b o, sp = some ⟨b, o, none⟩ := by obtain ⟨_, _, b, o, h3, h4, _⟩ := hS; exact ⟨b, o, h4 (by simp)⟩
  have hbw : b + 1 ≤ w.heap.size := hS.lt (by simp)
  have BZ := hid built_an0
  have d0 := (BK.nil w).alloc (ansC false (.slice none 0 0)) 24
  have KC := hid (fun w1 (h : Src w1 (some ⟨b, o, none⟩) cap (1 :: r)) => cut_yes w1 (1 :: r) 1 b o cap h (by simp))
  unfold CutP at KC
  have XL := hid (show (1 :: r).length = r.length + 1 from rfl)
  rw [XL.out] at KC ⊢
  simp only [List.drop_succ_cons, List.drop_zero, List.take_succ_cons, List.take_zero, Nat.add_sub_cancel] at KC
  go_enter Tryd.func56, Tryd.ntmps56
  go_wp2_with fail
  refine (KC.out _ (S0.out.below d0.1 (Nat.le_refl _))).mono ?_
  rintro e w2 ⟨o1, c1, o2, c2, rfl, S1, S2, hb2⟩
  have d2 := d0.call hb2
  have r2 := d2.row (.head _)
  have x0 : w2.cell? ⟨b, o1, none⟩ = some (.int .u8 (1)) := by
    obtain ⟨_, _, b', o', _, h4, h5⟩ := S1
    have e := h4 (by simp)
    cases e
    exact h5 0 (by simp)
  go_wp2_with fail
  refine (K2.out _ _ _).mono ?_
  rintro e w3 ⟨rfl, hb3⟩
  have d3 := d2.call hb3
  have r2 := d3.row (.head _)
  go_wp2_with (first | refine wpList_built (by rfl) 24 _ (by rfl) _ (by rfl) _ BZ.out ?_ | refine wpList_store_row rfl 24 _ _ (by rfl) w.heap.size (ansC false (.slice none 0 0)).toArray (by rfl) (by rfl) 24 _ r2 (by rw [Tryd.sizeAn]; rfl) (by rfl) (all_oneCell_toArray (ansC_one _ _ _ _)) ?_)
  exact bodyPost_ret (v := .tuple #[.agg (ansC false (.slice none 0 0)).toArray, .slice none 0 0, .bool false]) (results_c3 Tryd.results56 _ _ w.heap.size 24 _ _ _ rfl (setRow_heap _ _ _ _ _ _ r2) Tryd.underlying24 rfl (by rw [Tryd.sizeAn]; rfl)) rfl (FZ.out _ (below_setRow d3.1 (Nat.le_refl _) _))
set_option maxRecDepth 100000 in
set_option maxHeartbeats 2000000 in
theorem readAnswer_long (w : World) (a y : Int) (q : List Int) (hy : Bys (1 :: a :: y :: q)) (sp : Option Addr) (cap : Nat) (hS : Src w sp cap (1 :: a :: y :: q)) (hn : 128 < a + 256 * y) :
    Calls Tryd.prog 56 #[.slice sp (1 :: a :: y :: q).length cap] w (RAp w (1 :: a :: y :: q)) := by
  have FZ := hid (fun w' (hb : Below w.heap.size w w') => show RAp w (1 :: a :: y :: q) (.returned (.tuple #[.agg (ansC false (.slice none 0 0)).toArray, .slice none 0 0, .bool false])) w' from by unfold RAp; rw [show decA (1 :: a :: y :: q) = none by simp only [decA]; rw [if_neg (by decide), if_pos trivial, if_neg (by omega)]]; exact ⟨hb, _, _, rfl, _, rfl, rfl, ⟨_, _, _, _, rfl⟩, ⟨_, _, _, rfl⟩⟩)
  have ha := hy a (by simp)
  have hb := hy y (by simp)
  have i9 : a + 256 * y ≤ 65535 := by omega
  generalize RAp w (1 :: a :: y :: q) = P at *
  have S0 := hid hS
  obtain ⟨b, o, rfl⟩ : ∃ b o, sp = some ⟨b, o, none⟩ := by obtain ⟨_, _, b, o, h3, h4, _⟩ := hS; exact ⟨b, o, h4 (by simp)⟩
  have hbw : b + 1 ≤ w.heap.size := hS.lt (by simp)
  have BZ := hid built_an0
  have d0 := (BK.nil w).alloc (ansC false (.slice none 0 0)) 24
  have KC := hid (fun w1 (h : Src w1 (some ⟨b, o, none⟩) cap (1 :: a :: y :: q)) => cut_yes w1 (1 :: a :: y :: q) 1 b o cap h (by simp))
  unfold CutP at KC
  have XL := hid (show (1 :: a :: y :: q).length = (a :: y :: q).length + 1 from rfl)
  rw [XL.out] at KC ⊢
  simp only [List.drop_succ_cons, List.drop_zero, List.take_succ_cons, List.take_zero, Nat.add_sub_cancel] at KC
  have K2 := hid (fun w1 o c (h : Src w1 (some ⟨b, o, none⟩) c (a :: y :: q)) => cut_yes w1 (a :: y :: q) 2 b o c h (by simp))
  unfold CutP at K2
  rw [show (a :: y :: q).length = q.length + 2 from rfl] at K2
  simp only [List.drop_succ_cons, List.drop_zero, List.take_succ_cons, List.take_zero, Nat.add_sub_cancel] at K2
  have KN := hid (fun w1 s c (h : Src w1 s c [a, y]) => number_any w1 [a, y] (fun z hz => hy z (by simp at hz ⊢; omega)) rfl s c h)
  simp only [List.getD_cons_zero, List.getD_cons_succ] at KN
  generalize a + 256 * y = n at *
  go_enter Tryd.func56, Tryd.ntmps56
  go_wp2_with fail
  refine (KC.out _ (S0.out.below d0.1 (Nat.le_refl _))).mono ?_
  rintro e w2 ⟨o1, c1, o2, c2, rfl, S1, S2, hb2⟩
  have d2 := d0.call hb2
  have r2 := d2.row (.head _)
  have x0 : w2.cell? ⟨b, o1, none⟩ = some (.int .u8 (1)) := by
    obtain ⟨_, _, b', o', _, h4, h5⟩ := S1
    have e := h4 (by simp)
    cases e
    exact h5 0 (by simp)
  go_wp2_with fail
  refine (K2.out _ _ _ S2).mono ?_
  rintro e w3 ⟨o3, c3, o4, c4, rfl, S3, S4, hb3⟩
  have d3 := d2.call hb3
  have r2 := d3.row (.head _)
  go_wp2_with fail
  refine (KN.out _ _ _ S3).mono ?_
  rintro e w4 ⟨rfl, hb4⟩
  have d4 := d3.call hb4
  have r2 := d4.row (.head _)
  go_wp2_with (first | refine wpList_built (by rfl) 24 _ (by rfl) _ (by rfl) _ BZ.out ?_ | refine wpList_store_row rfl 24 _ _ (by rfl) w.heap.size (ansC false (.slice none 0 0)).toArray (by rfl) (by rfl) 24 _ r2 (by rw [Tryd.sizeAn]; rfl) (by rfl) (all_oneCell_toArray (ansC_one _ _ _ _)) ?_)
  exact bodyPost_ret (v := .tuple #[.agg (ansC false (.slice none 0 0)).toArray, .slice none 0 0, .bool false]) (results_c3 Tryd.results56 _ _ w.heap.size 24 _ _ _ rfl (setRow_heap _ _ _ _ _ _ r2) Tryd.underlying24 rfl (by rw [Tryd.sizeAn]; rfl)) rfl (FZ.out _ (below_setRow d4.1 (Nat.le_refl _) _))
set_option maxRecDepth 100000 in
set_option maxHeartbeats 2000000 in
theorem readAnswer_miss (w : World) (a y : Int) (q : List Int) (hy : Bys (1 :: a :: y :: q)) (sp : Option Addr) (cap : Nat) (hS : Src w sp cap (1 :: a :: y :: q)) (hn : a + 256 * y ≤ 128) (hq : q.length < (a + 256 * y).toNat) :
    Calls Tryd.prog 56 #[.slice sp (1 :: a :: y :: q).length cap] w (RAp w (1 :: a :: y :: q)) := by
  have FZ := hid (fun w' (hb : Below w.heap.size w w') => show RAp w (1 :: a :: y :: q) (.returned (.tuple #[.agg (ansC false (.slice none 0 0)).toArray, .slice none 0 0, .bool false])) w' from by unfold RAp; rw [show decA (1 :: a :: y :: q) = none by simp only [decA]; rw [if_neg (by decide), if_pos trivial, if_neg (by omega)]]; exact ⟨hb, _, _, rfl, _, rfl, rfl, ⟨_, _, _, _, rfl⟩, ⟨_, _, _, rfl⟩⟩)
  have ha := hy a (by simp)
  have hb := hy y (by simp)
  obtain ⟨n, hne⟩ := Int.eq_ofNat_of_zero_le (show 0 ≤ a + 256 * y by omega)
  rw [hne] at hn hq
  have i9 : (n : Int) ≤ 128 := by omega
  have K3 := hid (fun w1 s c => cut_no w1 n q.length s c (by omega) (by omega))
  generalize RAp w (1 :: a :: y :: q) = P at *
  have S0 := hid hS
  obtain ⟨b, o, rfl⟩ : ∃ b o, sp = some ⟨b, o, none⟩ := by obtain ⟨_, _, b, o, h3, h4, _⟩ := hS; exact ⟨b, o, h4 (by simp)⟩
  have hbw : b + 1 ≤ w.heap.size := hS.lt (by simp)
  have BZ := hid built_an0
  have d0 := (BK.nil w).alloc (ansC false (.slice none 0 0)) 24
  have KC := hid (fun w1 (h : Src w1 (some ⟨b, o, none⟩) cap (1 :: a :: y :: q)) => cut_yes w1 (1 :: a :: y :: q) 1 b o cap h (by simp))
  unfold CutP at KC
  have XL := hid (show (1 :: a :: y :: q).length = (a :: y :: q).length + 1 from rfl)
  rw [XL.out] at KC ⊢
  simp only [List.drop_succ_cons, List.drop_zero, List.take_succ_cons, List.take_zero, Nat.add_sub_cancel] at KC
  have K2 := hid (fun w1 o c (h : Src w1 (some ⟨b, o, none⟩) c (a :: y :: q)) => cut_yes w1 (a :: y :: q) 2 b o c h (by simp))
  unfold CutP at K2
  rw [show (a :: y :: q).length = q.length + 2 from rfl] at K2
  simp only [List.drop_succ_cons, List.drop_zero, List.take_succ_cons, List.take_zero, Nat.add_sub_cancel] at K2
  have KN := hid (fun w1 s c (h : Src w1 s c [a, y]) => number_any w1 [a, y] (fun z hz => hy z (by simp at hz ⊢; omega)) rfl s c h)
  simp only [List.getD_cons_zero, List.getD_cons_succ] at KN
  rw [hne] at KN
  clear hne hq hn
  go_enter Tryd.func56, Tryd.ntmps56
  go_wp2_with fail
  refine (KC.out _ (S0.out.below d0.1 (Nat.le_refl _))).mono ?_
  rintro e w2 ⟨o1, c1, o2, c2, rfl, S1, S2, hb2⟩
  have d2 := d0.call hb2
  have r2 := d2.row (.head _)
  have x0 : w2.cell? ⟨b, o1, none⟩ = some (.int .u8 (1)) := by
    obtain ⟨_, _, b', o', _, h4, h5⟩ := S1
    have e := h4 (by simp)
    cases e
    exact h5 0 (by simp)
  go_wp2_with fail
  refine (K2.out _ _ _ S2).mono ?_
  rintro e w3 ⟨o3, c3, o4, c4, rfl, S3, S4, hb3⟩
  have d3 := d2.call hb3
  have r2 := d3.row (.head _)
  go_wp2_with fail
  refine (KN.out _ _ _ S3).mono ?_
  rintro e w4 ⟨rfl, hb4⟩
  have d4 := d3.call hb4
  have r2 := d4.row (.head _)
  go_wp2_with fail
  refine (KN.out _ _ _ (S3.below hb4 (Nat.le_refl _))).mono ?_
  rintro e w5 ⟨rfl, hb5⟩
  have d5 := d4.call hb5
  have S5 := (S4.below hb4 (Nat.le_refl _)).below hb5 (Nat.le_refl _)
  go_wp2_with fail
  refine (K3.out _ _ _).mono ?_
  rintro e w6 ⟨rfl, hb6⟩
  have d6 := d5.call hb6
  have r2 := d6.row (.head _)
  go_wp2_with (first | refine wpList_built (by rfl) 24 _ (by rfl) _ (by rfl) _ BZ.out ?_ | refine wpList_store_row rfl 24 _ _ (by rfl) w.heap.size (ansC false (.slice none 0 0)).toArray (by rfl) (by rfl) 24 _ r2 (by rw [Tryd.sizeAn]; rfl) (by rfl) (all_oneCell_toArray (ansC_one _ _ _ _)) ?_)
  exact bodyPost_ret (v := .tuple #[.agg (ansC false (.slice none 0 0)).toArray, .slice none 0 0, .bool false]) (results_c3 Tryd.results56 _ _ w.heap.size 24 _ _ _ rfl (setRow_heap _ _ _ _ _ _ r2) Tryd.underlying24 rfl (by rw [Tryd.sizeAn]; rfl)) rfl (FZ.out _ (below_setRow d6.1 (Nat.le_refl _) _))
set_option maxRecDepth 100000 in
set_option maxHeartbeats 2000000 in
theorem readAnswer_one (w : World) (a y : Int) (q : List Int) (hy : Bys (1 :: a :: y :: q)) (sp : Option Addr) (cap : Nat) (hS : Src w sp cap (1 :: a :: y :: q)) (hn : a + 256 * y ≤ 128) (hq : (a + 256 * y).toNat ≤ q.length) :
    Calls Tryd.prog 56 #[.slice sp (1 :: a :: y :: q).length cap] w (RAp w (1 :: a :: y :: q)) := by
  have ha := hy a (by simp)
  have hb := hy y (by simp)
  obtain ⟨n, hne⟩ := Int.eq_ofNat_of_zero_le (show 0 ≤ a + 256 * y by omega)
  rw [hne] at hn hq
  have i9 : (n : Int) ≤ 128 := by omega
  rw [Int.toNat_natCast] at hq
  have LT : (q.take n).length = n := by rw [List.length_take]; omega
  have LD : (q.drop n).length = q.length - n := List.length_drop
  have FZ := hid (fun w' (hb : Below w.heap.size w w') s1 c1 s c (h0 : Own w' w.heap.size (.slice s1 n c1) (q.take n)) (h1 : Src w' s c (q.drop n)) (h2 : s = none → c = 0) => show RAp w (1 :: a :: y :: q) (.returned (.tuple #[.agg (ansC true (.slice s1 n c1)).toArray, .slice s (q.length - n) c, .bool true])) w' from by
    unfold RAp
    rw [show decA (1 :: a :: y :: q) = some (true, q.take n, q.drop n) by simp only [decA]; rw [if_neg (by decide), if_pos trivial, hne, Int.toNat_natCast, if_pos ⟨hn, hq⟩]]
    refine ⟨hb, s1, c1, s, c, ?_, ?_, h1, h2⟩
    · show _ = Ending.returned (.tuple #[.agg (ansC true (.slice s1 (q.take n).length c1)).toArray, .slice s (q.drop n).length c, .bool true])
      rw [LT, LD]
    · show Own w' w.heap.size (.slice s1 (q.take n).length c1) (q.take n)
      rw [LT]; exact h0)
  have K3 := hid (fun w1 o c (h : Src w1 (some ⟨sp.get!.block, o, none⟩) c q) => cut_yes w1 q n sp.get!.block o c h hq)
  have KL := hid (fun w1 o c (h : Src w1 (some ⟨sp.get!.block, o, none⟩) c (q.take n)) => Clone_any w1 (q.take n) (some ⟨sp.get!.block, o, none⟩) c h (fun h => by cases h) (by omega))
  unfold CutP at K3
  rw [LT] at KL
  have BN := hid built_an
  generalize RAp w (1 :: a :: y :: q) = P at *
  have S0 := hid hS
  obtain ⟨b, o, rfl⟩ : ∃ b o, sp = some ⟨b, o, none⟩ := by obtain ⟨_, _, b, o, h3, h4, _⟩ := hS; exact ⟨b, o, h4 (by simp)⟩
  have hbw : b + 1 ≤ w.heap.size := hS.lt (by simp)
  simp only [Option.get!_some] at K3 KL
  have BZ := hid built_an0
  have d0 := (BK.nil w).alloc (ansC false (.slice none 0 0)) 24
  have KC := hid (fun w1 (h : Src w1 (some ⟨b, o, none⟩) cap (1 :: a :: y :: q)) => cut_yes w1 (1 :: a :: y :: q) 1 b o cap h (by simp))
  unfold CutP at KC
  have XL := hid (show (1 :: a :: y :: q).length = (a :: y :: q).length + 1 from rfl)
  rw [XL.out] at KC ⊢
  simp only [List.drop_succ_cons, List.drop_zero, List.take_succ_cons, List.take_zero, Nat.add_sub_cancel] at KC
  have K2 := hid (fun w1 o c (h : Src w1 (some ⟨b, o, none⟩) c (a :: y :: q)) => cut_yes w1 (a :: y :: q) 2 b o c h (by simp))
  unfold CutP at K2
  rw [show (a :: y :: q).length = q.length + 2 from rfl] at K2
  simp only [List.drop_succ_cons, List.drop_zero, List.take_succ_cons, List.take_zero, Nat.add_sub_cancel] at K2
  have KN := hid (fun w1 s c (h : Src w1 s c [a, y]) => number_any w1 [a, y] (fun z hz => hy z (by simp at hz ⊢; omega)) rfl s c h)
  simp only [List.getD_cons_zero, List.getD_cons_succ] at KN
  rw [hne] at KN
  clear hne hq hn
  go_enter Tryd.func56, Tryd.ntmps56
  go_wp2_with fail
  refine (KC.out _ (S0.out.below d0.1 (Nat.le_refl _))).mono ?_
  rintro e w2 ⟨o1, c1, o2, c2, rfl, S1, S2, hb2⟩
  have d2 := d0.call hb2
  have r2 := d2.row (.head _)
  have x0 : w2.cell? ⟨b, o1, none⟩ = some (.int .u8 (1)) := by
    obtain ⟨_, _, b', o', _, h4, h5⟩ := S1
    have e := h4 (by simp)
    cases e
    exact h5 0 (by simp)
  go_wp2_with fail
  refine (K2.out _ _ _ S2).mono ?_
  rintro e w3 ⟨o3, c3, o4, c4, rfl, S3, S4, hb3⟩
  have d3 := d2.call hb3
  have r2 := d3.row (.head _)
  go_wp2_with fail
  refine (KN.out _ _ _ S3).mono ?_
  rintro e w4 ⟨rfl, hb4⟩
  have d4 := d3.call hb4
  have r2 := d4.row (.head _)
  go_wp2_with fail
  refine (KN.out _ _ _ (S3.below hb4 (Nat.le_refl _))).mono ?_
  rintro e w5 ⟨rfl, hb5⟩
  have d5 := d4.call hb5
  have S5 := (S4.below hb4 (Nat.le_refl _)).below hb5 (Nat.le_refl _)
  go_wp2_with fail
  refine (K3.out _ _ _ S5).mono ?_
  rintro e w6 ⟨o6, c6, o7, c7, rfl, S6, S7, hb6⟩
  have d6 := d5.call hb6
  go_wp2_with fail
  refine (KL.out _ _ _ S6).mono ?_
  rintro e w7 ⟨v7, rfl, hO7, hb7⟩
  obtain ⟨s7, c7', rfl, _, _⟩ := hO7.form
  rw [LT] at hO7
  rw [LT]
  have d7 := d6.call hb7
  have r2 := d7.row (.head _)
  have h6 := d6.lt (.head _)
  go_wp2_with (first | refine wpList_built (by rfl) 24 _ (by rfl) _ (by rfl) _ (BN.out _ _ _) ?_ | refine wpList_store_row rfl 24 _ _ (by rfl) w.heap.size (ansC true (.slice s7 n c7')).toArray (by rfl) (by rfl) 24 _ r2 (by rw [Tryd.sizeAn]; rfl) (by rfl) (all_oneCell_toArray (ansC_one _ _ _ _)) ?_)
  exact bodyPost_ret (v := .tuple #[.agg (ansC true (.slice s7 n c7')).toArray, .slice (some ⟨b, o7, none⟩) (q.length - n) c7, .bool true]) (results_c3 Tryd.results56 _ _ w.heap.size 24 _ _ _ rfl (setRow_heap _ _ _ _ _ _ r2) Tryd.underlying24 rfl (by rw [Tryd.sizeAn]; rfl)) rfl (FZ.out _ (below_setRow d7.1 (Nat.le_refl _) _) _ _ _ _ (own_lower (hO7.of_heap (fun k hk => setRow_other _ w.heap.size k (ansC true (.slice s7 n c7')).toArray (by have h1 := (hO7.block k hk).1; omega))) (Nat.le_of_lt h6)) (src_blk (S7.below hb7 (Nat.le_refl _)) (below_setRow (Below.refl _ _) hbw _)) (fun h => by cases h))
theorem readAnswer_any (w : World) (t : List Int) (hy : Bys t) (sp : Option Addr) (cap : Nat) (hS : Src w sp cap t) :
    Calls Tryd.prog 56 #[.slice sp t.length cap] w (RAp w t) := by
  match t, hy, hS with
  | [], _, _ => exact readAnswer_nil w sp cap
  | x :: r, hy, hS =>
    have hx := hy x (by simp)
    by_cases h0 : x = 0
    · subst h0; exact readAnswer_zero w r sp cap hS
    · by_cases h1 : x = 1
      · subst h1
        match r, hy, hS with
        | [], _, hS => exact readAnswer_short w [] sp cap hS (by simp)
        | [a], _, hS => exact readAnswer_short w [a] sp cap hS (by simp)
        | a :: y :: q, hy, hS =>
          by_cases hn : a + 256 * y ≤ 128
          · by_cases hq : (a + 256 * y).toNat ≤ q.length
            · exact readAnswer_one w a y q hy sp cap hS hn hq
            · exact readAnswer_miss w a y q hy sp cap hS hn (by omega)
          · exact readAnswer_long w a y q hy sp cap hS (by omega)
      · exact readAnswer_bad w x r sp cap hS (by omega)
end Go.Proofs.YtblcpcfonnaiiaaDoor
