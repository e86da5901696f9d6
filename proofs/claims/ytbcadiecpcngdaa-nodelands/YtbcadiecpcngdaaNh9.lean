import Derived.Test.YtbcadiecpcngdaaNg9
namespace Go.Proofs.Ytbcadiecpcngdaa
set_option linter.unusedVariables false
set_option linter.unusedSimpArgs false
open Go.RowKit
attribute [local go_sem ↓] Go.wp_at_zero Go.wp_at_succ

theorem mStL (C : Array Value) (w : World) : (method 239 96 (.agg C) "ledger/node.stands").run Try.prog w = .ok (87, .agg C) w := by kernel_rfl
theorem mLdL (C : Array Value) (w : World) : (method 239 96 (.agg C) "ledger/node.load").run Try.prog w = .ok (86, .agg C) w := by kernel_rfl
theorem mStB (C : Array Value) (w : World) : (method 239 98 (.agg C) "ledger/node.stands").run Try.prog w = .ok (89, .agg C) w := by kernel_rfl
theorem mLdB (C : Array Value) (w : World) : (method 239 98 (.agg C) "ledger/node.load").run Try.prog w = .ok (88, .agg C) w := by kernel_rfl
set_option maxRecDepth 100000 in
set_option maxHeartbeats 2000000 in
theorem encode_leaf (w : World) (n : Nd) (ok : NdOk n) (sp : Option Addr) (cap : Nat) (hS : Src w sp cap n.vs) (hnil : sp = none → cap = 0) (hn : n.vs.length ≤ 9223372036854775807) (h1 : n.kd = 1) (h2 : n.l = 0 ∧ n.lc = 0 ∧ n.ls = zD) (h3 : n.r = 0 ∧ n.rc = 0 ∧ n.rs = zD) (h4 : n.vs.length ≤ 128) :
    Calls Try.prog 7 #[.agg (ndC n (.slice sp n.vs.length cap)).toArray] w fun e w' => ∃ v, e = .returned (.tuple #[v, .int .i64 (encE n)]) ∧ Own w' w.heap.size v (encL n) ∧ Below w.heap.size w w' := by
  have d0 := (BK.nil w).alloc (ndC n (.slice sp n.vs.length cap)) 39
  have KF := hid (fun w1 => formOf_any w1 n ok sp cap hn)
  have SN := hid (show (Try.prog.info? 39).map (·.size) = some (ndC n (.slice sp n.vs.length cap)).toArray.size by rw [Try.sizeNd, List.size_toArray, ndC_len ok])
  rw [show formV n (.slice sp n.vs.length cap) = .iface 96 (.agg (leafC n.k (.slice sp n.vs.length cap)).toArray) by unfold formV; rw [if_pos ⟨h1, h2, h3⟩]] at KF
  have KS := hid (fun w1 => leafStands_any w1 n.k ok.k sp n.vs.length cap hn)
  have mS := mStL (leafC n.k (.slice sp n.vs.length cap)).toArray
  have mL := mLdL (leafC n.k (.slice sp n.vs.length cap)).toArray
  rw [decide_eq_true h4] at KS
  have KL := hid (fun w1 (h : Src w1 sp cap n.vs) => leafLoad_any w1 n.k n.vs ok.k sp cap h hnil h4)
  have HR : RightP n := Or.inl ⟨h1, h2.1, h2.2.1, h2.2.2, h3.1, h3.2.1, h3.2.2, h4⟩
  have HE := hid (show encE n = 0 by unfold encE; rw [if_pos HR])
  have HL := hid (show encL n = n.k ++ n.vs by unfold encL loadP; rw [if_pos HR, if_pos h1])
  clear h1 h2 h3 h4 HR
  generalize leafC n.k (.slice sp n.vs.length cap) = C at *
  generalize ndC n (.slice sp n.vs.length cap) = NC at *
  have r0 := d0.row (.head _)
  go_enter Try.func7, Try.ntmps7
  go_wp2_with (first
    | refine wpList_load_row_w (by rfl) 39 _ (by rfl) _ (by rfl) 39 _ _ _ r0 Try.underlying39 rfl SN.out ?_)
  refine (KF.out _).mono ?_
  rintro e w1 ⟨rfl, hb1⟩
  have d1 := d0.call hb1
  go_wp2_with fail
  refine (KS.out _).mono ?_
  rintro e w2 ⟨rfl, hb2⟩
  have d2 := d1.call hb2
  go_wp2_with fail
  refine (KL.out _ (hS.below d2.1 (Nat.le_refl _))).mono ?_
  rintro e w3 ⟨v3, rfl, hO3, hb3⟩
  have d3 := d2.call hb3
  go_wp2
  refine bodyPost_ret (results_tmp2 Try.results7 _ _ _) rfl ?_
  refine ⟨v3, by rw [HE.out]; rfl, ?_, d3.1⟩
  rw [HL.out]; exact own_lower hO3 d2.1.size
set_option maxRecDepth 100000 in
set_option maxHeartbeats 2000000 in
theorem encode_long (w : World) (n : Nd) (ok : NdOk n) (sp : Option Addr) (cap : Nat) (hS : Src w sp cap n.vs) (hnil : sp = none → cap = 0) (hn : n.vs.length ≤ 9223372036854775807) (h1 : n.kd = 1) (h2 : n.l = 0 ∧ n.lc = 0 ∧ n.ls = zD) (h3 : n.r = 0 ∧ n.rc = 0 ∧ n.rs = zD) (h4 : ¬ n.vs.length ≤ 128) :
    Calls Try.prog 7 #[.agg (ndC n (.slice sp n.vs.length cap)).toArray] w fun e w' => ∃ v, e = .returned (.tuple #[v, .int .i64 (encE n)]) ∧ Own w' w.heap.size v (encL n) ∧ Below w.heap.size w w' := by
  have d0 := (BK.nil w).alloc (ndC n (.slice sp n.vs.length cap)) 39
  have KF := hid (fun w1 => formOf_any w1 n ok sp cap hn)
  have SN := hid (show (Try.prog.info? 39).map (·.size) = some (ndC n (.slice sp n.vs.length cap)).toArray.size by rw [Try.sizeNd, List.size_toArray, ndC_len ok])
  rw [show formV n (.slice sp n.vs.length cap) = .iface 96 (.agg (leafC n.k (.slice sp n.vs.length cap)).toArray) by unfold formV; rw [if_pos ⟨h1, h2, h3⟩]] at KF
  have KS := hid (fun w1 => leafStands_any w1 n.k ok.k sp n.vs.length cap hn)
  have mS := mStL (leafC n.k (.slice sp n.vs.length cap)).toArray
  have mL := mLdL (leafC n.k (.slice sp n.vs.length cap)).toArray
  rw [decide_eq_false h4] at KS
  have HR : ¬ RightP n := by rintro (h | h); exact h4 h.2.2.2.2.2.2.2; have := h.1; omega
  have HE := hid (show encE n = 90 by unfold encE; rw [if_neg HR])
  have HL := hid (show encL n = [] by unfold encL; rw [if_neg HR])
  clear h1 h2 h3 h4 HR
  generalize leafC n.k (.slice sp n.vs.length cap) = C at *
  generalize ndC n (.slice sp n.vs.length cap) = NC at *
  have r0 := d0.row (.head _)
  go_enter Try.func7, Try.ntmps7
  go_wp2_with (first
    | refine wpList_load_row_w (by rfl) 39 _ (by rfl) _ (by rfl) 39 _ _ _ r0 Try.underlying39 rfl SN.out ?_)
  refine (KF.out _).mono ?_
  rintro e w1 ⟨rfl, hb1⟩
  have d1 := d0.call hb1
  go_wp2_with fail
  refine (KS.out _).mono ?_
  rintro e w2 ⟨rfl, hb2⟩
  have d2 := d1.call hb2
  go_wp2
  refine bodyPost_ret (results_tmp2 Try.results7 _ _ _) rfl ?_
  refine ⟨.slice none 0 0, by rw [HE.out]; rfl, ?_, d2.1⟩
  rw [HL.out]; exact Own.nil _ _
set_option maxRecDepth 100000 in
set_option maxHeartbeats 2000000 in
theorem encode_branch (w : World) (n : Nd) (ok : NdOk n) (sp : Option Addr) (cap : Nat) (hS : Src w sp cap n.vs) (hnil : sp = none → cap = 0) (hn : n.vs.length ≤ 9223372036854775807) (h1 : n.kd = 2) (h2 : n.k = zD) (h3 : n.vs.length = 0) (h4 : BrS n) :
    Calls Try.prog 7 #[.agg (ndC n (.slice sp n.vs.length cap)).toArray] w fun e w' => ∃ v, e = .returned (.tuple #[v, .int .i64 (encE n)]) ∧ Own w' w.heap.size v (encL n) ∧ Below w.heap.size w w' := by
  have d0 := (BK.nil w).alloc (ndC n (.slice sp n.vs.length cap)) 39
  have KF := hid (fun w1 => formOf_any w1 n ok sp cap hn)
  have SN := hid (show (Try.prog.info? 39).map (·.size) = some (ndC n (.slice sp n.vs.length cap)).toArray.size by rw [Try.sizeNd, List.size_toArray, ndC_len ok])
  rw [show formV n (.slice sp n.vs.length cap) = .iface 98 (.agg (brC n).toArray) by unfold formV; rw [if_neg (by intro h; have := h.1; omega), if_pos ⟨h1, h2, h3⟩]] at KF
  have KS := hid (fun w1 => branchStands_any w1 n ok)
  have mS := mStB (brC n).toArray
  have mL := mLdB (brC n).toArray
  rw [decide_eq_true h4] at KS
  have q1 := h4.1.le
  have q2 := h4.2.1.le
  have KL := hid (fun w1 => branchLoad_any w1 n ok (by omega) (by omega) (by omega) (by omega))
  have HR : RightP n := Or.inr ⟨h1, h2, List.eq_nil_of_length_eq_zero h3, h4.1, h4.2.1, h4.2.2.1, h4.2.2.2.1, h4.2.2.2.2⟩
  have HE := hid (show encE n = 0 by unfold encE; rw [if_pos HR])
  have HL := hid (show encL n = (numsB n ++ n.ls) ++ n.rs by unfold encL loadP numsB; rw [if_pos HR, if_neg (by omega)]; simp)
  clear h1 h2 h3 h4 HR q1 q2
  generalize brC n = C at *
  generalize ndC n (.slice sp n.vs.length cap) = NC at *
  have r0 := d0.row (.head _)
  go_enter Try.func7, Try.ntmps7
  go_wp2_with (first
    | refine wpList_load_row_w (by rfl) 39 _ (by rfl) _ (by rfl) 39 _ _ _ r0 Try.underlying39 rfl SN.out ?_)
  refine (KF.out _).mono ?_
  rintro e w1 ⟨rfl, hb1⟩
  have d1 := d0.call hb1
  go_wp2_with fail
  refine (KS.out _).mono ?_
  rintro e w2 ⟨rfl, hb2⟩
  have d2 := d1.call hb2
  go_wp2_with fail
  refine (KL.out _).mono ?_
  rintro e w3 ⟨v3, rfl, hO3, hb3⟩
  have d3 := d2.call hb3
  go_wp2
  refine bodyPost_ret (results_tmp2 Try.results7 _ _ _) rfl ?_
  refine ⟨v3, by rw [HE.out]; rfl, ?_, d3.1⟩
  rw [HL.out]; exact own_lower hO3 d2.1.size
set_option maxRecDepth 100000 in
set_option maxHeartbeats 2000000 in
theorem encode_bad (w : World) (n : Nd) (ok : NdOk n) (sp : Option Addr) (cap : Nat) (hS : Src w sp cap n.vs) (hnil : sp = none → cap = 0) (hn : n.vs.length ≤ 9223372036854775807) (h1 : n.kd = 2) (h2 : n.k = zD) (h3 : n.vs.length = 0) (h4 : ¬ BrS n) :
    Calls Try.prog 7 #[.agg (ndC n (.slice sp n.vs.length cap)).toArray] w fun e w' => ∃ v, e = .returned (.tuple #[v, .int .i64 (encE n)]) ∧ Own w' w.heap.size v (encL n) ∧ Below w.heap.size w w' := by
  have d0 := (BK.nil w).alloc (ndC n (.slice sp n.vs.length cap)) 39
  have KF := hid (fun w1 => formOf_any w1 n ok sp cap hn)
  have SN := hid (show (Try.prog.info? 39).map (·.size) = some (ndC n (.slice sp n.vs.length cap)).toArray.size by rw [Try.sizeNd, List.size_toArray, ndC_len ok])
  rw [show formV n (.slice sp n.vs.length cap) = .iface 98 (.agg (brC n).toArray) by unfold formV; rw [if_neg (by intro h; have := h.1; omega), if_pos ⟨h1, h2, h3⟩]] at KF
  have KS := hid (fun w1 => branchStands_any w1 n ok)
  have mS := mStB (brC n).toArray
  have mL := mLdB (brC n).toArray
  rw [decide_eq_false h4] at KS
  have HR : ¬ RightP n := by
    rintro (h | h)
    · have := h.1; omega
    · exact h4 ⟨h.2.2.2.1, h.2.2.2.2.1, h.2.2.2.2.2.1, h.2.2.2.2.2.2.1, h.2.2.2.2.2.2.2⟩
  have HE := hid (show encE n = 90 by unfold encE; rw [if_neg HR])
  have HL := hid (show encL n = [] by unfold encL; rw [if_neg HR])
  clear h1 h2 h3 h4 HR
  generalize brC n = C at *
  generalize ndC n (.slice sp n.vs.length cap) = NC at *
  have r0 := d0.row (.head _)
  go_enter Try.func7, Try.ntmps7
  go_wp2_with (first
    | refine wpList_load_row_w (by rfl) 39 _ (by rfl) _ (by rfl) 39 _ _ _ r0 Try.underlying39 rfl SN.out ?_)
  refine (KF.out _).mono ?_
  rintro e w1 ⟨rfl, hb1⟩
  have d1 := d0.call hb1
  go_wp2_with fail
  refine (KS.out _).mono ?_
  rintro e w2 ⟨rfl, hb2⟩
  have d2 := d1.call hb2
  go_wp2
  refine bodyPost_ret (results_tmp2 Try.results7 _ _ _) rfl ?_
  refine ⟨.slice none 0 0, by rw [HE.out]; rfl, ?_, d2.1⟩
  rw [HL.out]; exact Own.nil _ _
set_option maxRecDepth 100000 in
set_option maxHeartbeats 2000000 in
theorem encode_nil (w : World) (n : Nd) (ok : NdOk n) (sp : Option Addr) (cap : Nat) (hS : Src w sp cap n.vs) (hnil : sp = none → cap = 0) (hn : n.vs.length ≤ 9223372036854775807) (h1 : formV n (.slice sp n.vs.length cap) = .nilIface) :
    Calls Try.prog 7 #[.agg (ndC n (.slice sp n.vs.length cap)).toArray] w fun e w' => ∃ v, e = .returned (.tuple #[v, .int .i64 (encE n)]) ∧ Own w' w.heap.size v (encL n) ∧ Below w.heap.size w w' := by
  have d0 := (BK.nil w).alloc (ndC n (.slice sp n.vs.length cap)) 39
  have KF := hid (fun w1 => formOf_any w1 n ok sp cap hn)
  have SN := hid (show (Try.prog.info? 39).map (·.size) = some (ndC n (.slice sp n.vs.length cap)).toArray.size by rw [Try.sizeNd, List.size_toArray, ndC_len ok])
  rw [h1] at KF
  have HR : ¬ RightP n := by
    rintro (h | h)
    · unfold formV at h1; rw [if_pos ⟨h.1, ⟨h.2.1, h.2.2.1, h.2.2.2.1⟩, ⟨h.2.2.2.2.1, h.2.2.2.2.2.1, h.2.2.2.2.2.2.1⟩⟩] at h1; cases h1
    · unfold formV at h1; rw [if_neg (by intro g; have := g.1; have := h.1; omega), if_pos ⟨h.1, h.2.1, by rw [h.2.2.1]; rfl⟩] at h1; cases h1
  have HE := hid (show encE n = 90 by unfold encE; rw [if_neg HR])
  have HL := hid (show encL n = [] by unfold encL; rw [if_neg HR])
  clear h1 HR
  generalize ndC n (.slice sp n.vs.length cap) = NC at *
  have r0 := d0.row (.head _)
  go_enter Try.func7, Try.ntmps7
  go_wp2_with (first
    | refine wpList_load_row_w (by rfl) 39 _ (by rfl) _ (by rfl) 39 _ _ _ r0 Try.underlying39 rfl SN.out ?_)
  refine (KF.out _).mono ?_
  rintro e w1 ⟨rfl, hb1⟩
  have d1 := d0.call hb1
  go_wp2
  refine bodyPost_ret (results_tmp2 Try.results7 _ _ _) rfl ?_
  refine ⟨.slice none 0 0, by rw [HE.out]; rfl, ?_, d1.1⟩
  rw [HL.out]; exact Own.nil _ _
theorem encode_any (w : World) (n : Nd) (ok : NdOk n) (sp : Option Addr) (cap : Nat) (hS : Src w sp cap n.vs) (hnil : sp = none → cap = 0) :
    Calls Try.prog 7 #[.agg (ndC n (.slice sp n.vs.length cap)).toArray] w fun e w' => ∃ v, e = .returned (.tuple #[v, .int .i64 (encE n)]) ∧ Own w' w.heap.size v (encL n) ∧ Below w.heap.size w w' := by
  have hn : n.vs.length ≤ 9223372036854775807 := by have h1 := hS.1; have h2 := hS.2.1; unfold maxLen at h2; omega
  by_cases h1 : n.kd = 1 ∧ (n.l = 0 ∧ n.lc = 0 ∧ n.ls = zD) ∧ (n.r = 0 ∧ n.rc = 0 ∧ n.rs = zD)
  · by_cases h4 : n.vs.length ≤ 128
    · exact encode_leaf w n ok sp cap hS hnil hn h1.1 h1.2.1 h1.2.2 h4
    · exact encode_long w n ok sp cap hS hnil hn h1.1 h1.2.1 h1.2.2 h4
  · by_cases h2 : n.kd = 2 ∧ n.k = zD ∧ n.vs.length = 0
    · by_cases h4 : BrS n
      · exact encode_branch w n ok sp cap hS hnil hn h2.1 h2.2.1 h2.2.2 h4
      · exact encode_bad w n ok sp cap hS hnil hn h2.1 h2.2.1 h2.2.2 h4
    · exact encode_nil w n ok sp cap hS hnil hn (by unfold formV; rw [if_neg h1, if_neg h2])
end Go.Proofs.Ytbcadiecpcngdaa
