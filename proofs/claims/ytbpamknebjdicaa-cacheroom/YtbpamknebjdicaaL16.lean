import Derived.Test.YtbpamknebjdicaaL15
namespace Go.Proofs.Ytbpamknebjdicaa
set_option linter.unusedVariables false
set_option linter.unusedSimpArgs false
open Go.RowKit
attribute [local go_sem ↓] Go.wp_at_zero Go.wp_at_succ

theorem OwnI.cells {w : World} {base g n cap : Nat} {l : List Int} (h : OwnI w base (.slice (some ⟨g, 0, none⟩) n cap) l) (j : Nat) (hj : j < l.length) : w.cell? ⟨g, j, none⟩ = some (.int .i64 (l.getD j 0)) := by
  obtain ⟨g', cap', e, hc, _⟩ := h.at j hj
  simp only [Value.slice.injEq, Option.some.injEq, Addr.mk.injEq] at e
  rw [e.1.1]; exact hc
/-! CacheRoom. -/
theorem find_some {l : List (Int × Int)} {k v : Int} (h1 : ∃ x ∈ l, x.1 = k) (h2 : ∀ x ∈ l, x.1 = k → x.2 = v) : findL l k = some v := by
  unfold findL
  cases hf : l.find? fun x => decide (x.1 = k) with
  | none =>
    obtain ⟨x, hx, e⟩ := h1
    exact absurd (decide_eq_true e) (List.find?_eq_none.1 hf x hx)
  | some y => exact congrArg some (h2 y (List.mem_of_find?_eq_some hf) (of_decide_eq_true (by have := List.find?_some hf; simpa using this)))
theorem rowL_get (f : Nat → Int) (n i : Nat) (h : i < n + 1) : (rowL f (n + 1))[i]? = some (((n - i : Nat) : Int), f (n - i)) := by
  unfold rowL
  rw [List.getElem?_map, List.getElem?_reverse (by simpa using h)]
  simp [show n - i < n + 1 by omega]
theorem rowP_key (r : Nat) (f : Nat → Int) (n i : Nat) (h : i < (rowP r f (n + 1)).clean.length) : ((rowP r f (n + 1)).clean.map (·.1)).getD i 0 = (n : Int) - (i : Int) := by
  simp only [rowP, List.length_take, rowL_len] at h
  rw [List.getD_eq_getElem?_getD, List.getElem?_map]
  show ((((rowL f (n + 1)).take r)[i]?).map (·.1)).getD 0 = _
  rw [List.getElem?_take, if_pos (by omega), rowL_get f n i (by omega)]
  simp; omega
theorem rowL_val {f : Nat → Int} (hf : f = fun (j : Nat) => 3 * (j : Int) + 1) (i : Nat) : ∀ x ∈ rowL f i, 0 ≤ x.1 ∧ x.2 = 3 * x.1 + 1 := fun x hx => by
  obtain ⟨j, hj, rfl⟩ := List.mem_map.1 hx
  subst hf
  exact ⟨Int.natCast_nonneg j, rfl⟩
theorem rowP_val (r n K old : Nat) {f : Nat → Int} (hf : f = fun (j : Nat) => 3 * (j : Int) + 1) (hK : 1 ≤ K ∧ K ≤ n + 1) (ho : old = n + 1 - K) (e1 : (rowP r f (n + 1)).clean.length = K) : (rowP r f (n + 1)).val old = some (3 * (old : Int) + 1) := by
  unfold AS.val
  have : findL (rowP r f (n + 1)).clean old = some (3 * (old : Int) + 1) := by
    refine find_some ⟨(((n - (K - 1) : Nat) : Int), f (n - (K - 1))), ?_, by simp only; omega⟩ fun x hx e => ?_
    · simp only [rowP, List.length_take, rowL_len] at e1 ⊢
      have := rowL_get f n (K - 1) (by omega)
      refine List.mem_of_getElem? (i := K - 1) ?_
      rw [List.getElem?_take, if_pos (by omega), this]
    · have := (rowL_val hf (n + 1) x (List.mem_of_mem_take hx)).2
      rw [this, e]
  rw [this]
  rfl
theorem rowP_val2 (r n K old : Nat) {f : Nat → Int} (hf : f = fun (j : Nat) => 3 * (j : Int) + 1) (hK : 1 ≤ K ∧ K ≤ n + 1 ∧ 1 ≤ r) (ho : old = n + 1 - K) (e1 : (rowP r f (n + 1)).clean.length = K) : (((rowP r f (n + 1)).get old).put (-1) 0).val old = if r = 1 then none else some (3 * (old : Int) + 1) := by
  have hv := rowP_val r n K old hf ⟨hK.1, hK.2.1⟩ ho e1
  have hfc : findL (rowP r f (n + 1)).clean old = some (3 * (old : Int) + 1) := hv
  have hg : (rowP r f (n + 1)).get old = { rowP r f (n + 1) with clean := ((old : Int), 3 * (old : Int) + 1) :: delL (rowP r f (n + 1)).clean old, hits := 1 } := by
    unfold AS.get
    rw [show findL (rowP r f (n + 1)).held (old : Int) = none from rfl, hfc]
    rfl
  rw [hg]
  unfold AS.put
  rw [show findL (AS.held { rowP r f (n + 1) with clean := ((old : Int), 3 * (old : Int) + 1) :: delL (rowP r f (n + 1)).clean old, hits := 1 }) (-1) = none from rfl]
  simp only
  rw [del_none (fun x hx => by
    rcases List.mem_cons.1 hx with e | e
    · subst e; simp only; omega
    · have := rowL_val hf (n + 1) x (List.mem_of_mem_take (List.mem_filter.1 e |>.1)); omega)]
  unfold AS.trim AS.val
  simp only [rowP]
  rw [show findL ([] : List (Int × Int)) (old : Int) = none from rfl]
  by_cases h1 : r = 1
  · subst h1
    rw [if_pos rfl]
    simp [findL, List.find?_cons]
  · obtain ⟨q, rfl⟩ : ∃ q, r = q + 2 := ⟨r - 2, by omega⟩
    rw [if_neg (by omega)]
    simp [findL, List.find?_cons]
set_option maxRecDepth 100000 in
set_option maxHeartbeats 2000000 in
theorem room_in (w : World) (r n : Nat) (h1 : 1 ≤ r) (h2 : r ≤ 64) (h3 : n ≤ 200) : Calls Try.prog 4 #[.int .i64 r, .int .i64 n] w fun e w' => e = .returned (.bool true) ∧ Below w.heap.size w w' := by
  have HN := hid (New_any w r)
  obtain ⟨f, hf⟩ : ∃ f : Nat → Int, f = fun (j : Nat) => 3 * (j : Int) + 1 := ⟨_, rfl⟩
  have h0 : newA r = rowP r f 0 := by simp [newA, rowP, rowL]; omega
  rw [h0] at HN
  have b1 : ¬ ((r : Int) < 1) := by omega
  have b2 : ¬ ((64 : Int) < r) := by omega
  have b3 : ¬ ((n : Int) < 0) := by omega
  have b4 : ¬ ((200 : Int) < n) := by omega
  have b5 : (n : Int) ≤ 200 := by omega
  have b6 : (r : Int) ≤ 64 := by omega
  clear h0
  generalize hW : w.heap.size = W at *
  go_enter Try.func4, Try.ntmps4
  go_wp2_with (go_at_call 8; refine HN.out.mono ?_; rintro e w1 ⟨rfl, hc, hb⟩; have HC := hid hc; have HB := hid hb; clear hc hb HN)
  go_loopw [6] (fun i wr => ∃ m : Nat, m ≤ n + 1 ∧ i = .int .i64 m ∧ (∃ F, CA wr W F (W + 1) m (rowP r f m)) ∧ Below W w wr) (fun i _ => n + 1 - (intOf i).toNat)
  case atStart => exact ⟨0, by omega, rfl, ⟨_, HC.out⟩, HB.out⟩
  case round =>
    obtain ⟨m, hm, rfl, ⟨F, hC⟩, hB⟩ := hrel
    by_cases hlt : m < n + 1
    · have i1 : (m : Int) < (n : Int) + 1 := by omega
      have HP := hid (Put_any wr W F (W + 1) m _ hC m (f m) (by unfold wfK; omega) (by omega))
      rw [rowP_put] at HP
      have HX := hid (fun w2 (q : Nx W F (W + 1) m wr (rowP r f (m + 1)) w2) => q.below hC hC.base)
      have HB2 := hid hB
      rw [hf] at HP
      simp only [argK, argV] at HP
      rw [← hf] at HP
      clear hC hB
      go_wp2_with (go_at_call 9; refine HP.out.mono ?_; rintro e w2 ⟨rfl, hx⟩; have HY := hid (HX.out w2 hx); clear hx HP HX)
      go_roundw
      case rel => exact ⟨m + 1, by omega, by go_num, HY.out.1, HB2.out.trans HY.out.2⟩
      case measure => simp [intOf]; omega
    · obtain rfl : m = n + 1 := by omega
      have i1 : ¬ (((n + 1 : Nat) : Int) < (n : Int) + 1) := by omega
      clear hlt hm
      by_cases hk : n + 1 < r
      · have i2 : (n : Int) + 1 < (r : Int) := by omega
        have i5 : ((r : Int) == 1) = false := by simp; omega
        by_cases h0 : n = 0
        · have i6 : ((n : Int) == 0) = true := by simpa using h0
          have i7 : ((n : Int) + 1 == 1) = true := by simp; omega
          have HH0 := hid h0
          clear h0
          have HKE := hid (Keys_any wr W F (W + 1) (n + 1) _ hC (by omega))
          have HTA := hid (fun w2 (q : Below wr.heap.size wr w2) => Tally_any w2 W F (W + 1) (n + 1) _ (hC.below q))
          have e1 : (rowP r f (n + 1)).clean.length = n + 1 := by simp only [rowP, List.length_take, rowL_len]; omega
          have e2 : (((rowP r f (n + 1)).gone : Nat) : Int) = 0 := by show ((n + 1 - r : Nat) : Int) = _; omega
          rw [show (((rowP r f (n + 1)).hits : Nat) : Int) = 0 from rfl, show (((rowP r f (n + 1)).held.length : Nat) : Int) = 0 from rfl, e1, e2, show (((n + 1 : Nat)) : Int) = (n : Int) + 1 by push_cast; rfl] at HTA
          have hkl : ((rowP r f (n + 1)).clean.map (·.1)).length = n + 1 := by rw [List.length_map]; exact e1
          have hkg : ∀ i, i < n + 1 → ((rowP r f (n + 1)).clean.map (·.1)).getD i 0 = (n : Int) - (i : Int) := fun i hi => rowP_key r f n i (by rw [e1]; exact hi)
          have HKG := hid hkg
          have HKL := hid hkl
          obtain ⟨old, hold⟩ : ∃ old : Nat, old = n + 1 - (n + 1) := ⟨_, rfl⟩
          have HOI := hid (show (n : Int) - (n : Int) = (old : Int) by omega)
          have hov := rowP_val r n (n + 1) old hf (by omega) hold e1
          have HG1 := hid (fun w2 (q : Below wr.heap.size wr w2) => Get_any w2 W F (W + 1) (n + 1) _ (hC.below q) old (by unfold wfK; omega) (by omega))
          rw [hov] at HG1
          have HP1 := hid (fun F2 w2 (q : CA w2 W F2 (W + 1) (n + 1 + 1) ((rowP r f (n + 1)).get old)) => Put_any w2 W F2 (W + 1) (n + 1 + 1) _ q (-1) 0 (by unfold wfK; omega) (by omega))
          have HG2 := hid (fun F3 w3 (q : CA w3 W F3 (W + 1) (n + 1 + 1 + 1) (((rowP r f (n + 1)).get old).put (-1) 0)) => Get_any w3 W F3 (W + 1) (n + 1 + 1 + 1) _ q old (by unfold wfK; omega) (by omega))
          have hov2 := rowP_val2 r n (n + 1) old hf (by omega) hold e1
          rw [if_neg (by have := HH0.out; omega)] at hov2
          rw [hov2] at HG2
          clear hov hov2
          have HNB := hid (fun w2 w3 (q : Below wr.heap.size wr w2) (a : AS Int Int) (x : Nx W F (W + 1) (n + 1) w2 a w3) => x.below (hC.below q) (Nat.le_trans hC.base q.size))
          have HNB2 := hid (fun F2 w2 w3 (b a : AS Int Int) (q : CA w2 W F2 (W + 1) (n + 1 + 1) b) (x : Nx W F2 (W + 1) (n + 1 + 1) w2 a w3) => x.below q q.base)
          have HNB3 := hid (fun F2 w2 w3 (b a : AS Int Int) (q : CA w2 W F2 (W + 1) (n + 1 + 1 + 1) b) (x : Nx W F2 (W + 1) (n + 1 + 1 + 1) w2 a w3) => x.below q q.base)
          have HB := hid hB
          have HWB := hid hC.base
          have o1 : (old : Int) ≤ 200 := by omega
          generalize (rowP r f (n + 1)).clean.map (·.1) = kl at *
          generalize hmi : (((rowP r f (n + 1)).misses : Nat) : Int) = mi at *
          generalize (rowP r f (n + 1)).get old = A1 at *
          generalize A1.put (-1) 0 = A2 at *
          generalize A2.get old = A3 at *
          clear hC hB e1 e2 hkl hkg hmi hold
          simp only [argK, argV, Option.getD_some, Option.isSome_some, Option.getD_none, Option.isSome_none] at HG1 HG2 HP1
          go_wp2_with (first
            | (go_at_call 11; refine HKE.out.mono ?_; rintro e w2 ⟨v2, rfl, hO2, hb2⟩; obtain ⟨g, cp2, ef, _⟩ := hO2.at 0 (by rw [HKL.out]; omega); rw [ef] at hO2 ⊢; rw [HKL.out] at hO2 ⊢; have HO2 := hid hO2; have HB2 := hid hb2; have HT2 := hid (HTA.out w2 hb2); clear hO2 hb2 HKE HTA ef)
            | (go_at_call 10; refine HT2.out.mono ?_; rintro e w3 ⟨rfl, hb3⟩; have HB3 := hid (HB2.out.trans (hb3.mono HB2.out.size)); have HO3 := hid (HO2.out.below hb3); clear hb3 HT2 HO2 HB2)
            | (refine wpList_store_row (by rfl) 26 (.tmp 9) (.tmp 54) (by rfl) w3.heap.size #[.int .i64 0, .int .i64 mi, .int .i64 0, .int .i64 ((n : Int) + 1), .int .i64 0] (by rfl) (by rfl) 26 _ (by exact hnew _ _) (tal2N 0 mi 0 ((n : Int) + 1) 0) (tal2Z 0 mi 0 ((n : Int) + 1) 0) (tal2O 0 mi 0 ((n : Int) + 1) 0) ?_; rw [setRow_alloc]; have HB4 := hid (HB3.out.alloc HB3.out.size (.cells #[.int .i64 0, .int .i64 mi, .int .i64 0, .int .i64 ((n : Int) + 1), .int .i64 0] 26)); have HO4 := hid (HO3.out.below ((Below.refl _ w3).alloc (Nat.le_refl _) (.cells #[.int .i64 0, .int .i64 mi, .int .i64 0, .int .i64 ((n : Int) + 1), .int .i64 0] 26)))))
          go_loopw [10] (fun i wq => ∃ j : Nat, j ≤ n + 1 ∧ i = .int .i64 j ∧ Below wr.heap.size wr wq ∧ OwnI wq wr.heap.size (.slice (some ⟨g, 0, none⟩) (n + 1) cp2) kl) (fun i _ => n + 1 - (intOf i).toNat)
          case atStart => exact ⟨0, by omega, rfl, HB4.out, HO4.out⟩
          case round =>
            rename_i wq
            obtain ⟨j, hj, rfl, hB5, hO5⟩ := hrel
            have HB5 := hid hB5
            have HO5 := hid hO5
            clear hB5 hO5 HB4 HO4
            by_cases hlt : j < n + 1
            · have i3 : (j : Int) < (n : Int) + 1 := by omega
              have cj := HO5.out.cells j (by rw [HKL.out]; exact hlt)
              rw [HKG.out j hlt] at cj
              have i4 : (j : Int) ≤ 200 := by omega
              go_wp2
              go_roundw
              case rel => exact ⟨j + 1, by omega, by go_num, HB5.out, HO5.out⟩
              case measure => simp [intOf]; omega
            · obtain rfl : j = n + 1 := by omega
              have i3 : ¬ (((n + 1 : Nat) : Int) < (n : Int) + 1) := by omega
              have cj := HO5.out.cells n (by rw [HKL.out]; omega)
              rw [HKG.out n (by omega), HOI.out] at cj
              have HGA := hid (HG1.out _ HB5.out)
              clear hlt hj HG1
              go_wp2_with (first
                | (go_at_call 12; refine HGA.out.mono ?_; rintro e w5 ⟨rfl, hx5⟩; have HX5 := hid (HNB.out _ w5 HB5.out _ hx5); clear hx5 HGA; obtain ⟨F5, hC5⟩ := HX5.out.1; have HC5 := hid hC5; have HPA := hid (HP1.out F5 w5 hC5); clear hC5 HP1)
                | (go_at_call 9; refine HPA.out.mono ?_; rintro e w6 ⟨rfl, hx6⟩; have HX6 := hid (HNB2.out F5 w5 w6 _ _ HC5.out hx6); clear hx6 HPA; obtain ⟨F6, hC6⟩ := HX6.out.1; have HC6 := hid hC6; have HGB := hid (HG2.out F6 w6 hC6); clear hC6 HG2)
                | (go_at_call 12; refine HGB.out.mono ?_; rintro e w7 ⟨rfl, hx7⟩; have HX7 := hid (HNB3.out F6 w6 w7 _ _ HC6.out hx7); clear hx7 HGB))
              go_ret
              refine ⟨rfl, ?_⟩
              have k1 := HB.out.trans (HB5.out.mono HWB.out)
              exact ((k1.trans HX5.out.2).trans HX6.out.2).trans HX7.out.2
        · have i6 : ((n : Int) == 0) = false := by simpa using h0
          have i7 : ((n : Int) + 1 == 1) = false := by simp; omega
          have HH0 := hid h0
          clear h0
          have HKE := hid (Keys_any wr W F (W + 1) (n + 1) _ hC (by omega))
          have HTA := hid (fun w2 (q : Below wr.heap.size wr w2) => Tally_any w2 W F (W + 1) (n + 1) _ (hC.below q))
          have e1 : (rowP r f (n + 1)).clean.length = n + 1 := by simp only [rowP, List.length_take, rowL_len]; omega
          have e2 : (((rowP r f (n + 1)).gone : Nat) : Int) = 0 := by show ((n + 1 - r : Nat) : Int) = _; omega
          rw [show (((rowP r f (n + 1)).hits : Nat) : Int) = 0 from rfl, show (((rowP r f (n + 1)).held.length : Nat) : Int) = 0 from rfl, e1, e2, show (((n + 1 : Nat)) : Int) = (n : Int) + 1 by push_cast; rfl] at HTA
          have hkl : ((rowP r f (n + 1)).clean.map (·.1)).length = n + 1 := by rw [List.length_map]; exact e1
          have hkg : ∀ i, i < n + 1 → ((rowP r f (n + 1)).clean.map (·.1)).getD i 0 = (n : Int) - (i : Int) := fun i hi => rowP_key r f n i (by rw [e1]; exact hi)
          have HKG := hid hkg
          have HKL := hid hkl
          obtain ⟨old, hold⟩ : ∃ old : Nat, old = n + 1 - (n + 1) := ⟨_, rfl⟩
          have HOI := hid (show (n : Int) - (n : Int) = (old : Int) by omega)
          have hov := rowP_val r n (n + 1) old hf (by omega) hold e1
          have HG1 := hid (fun w2 (q : Below wr.heap.size wr w2) => Get_any w2 W F (W + 1) (n + 1) _ (hC.below q) old (by unfold wfK; omega) (by omega))
          rw [hov] at HG1
          have HP1 := hid (fun F2 w2 (q : CA w2 W F2 (W + 1) (n + 1 + 1) ((rowP r f (n + 1)).get old)) => Put_any w2 W F2 (W + 1) (n + 1 + 1) _ q (-1) 0 (by unfold wfK; omega) (by omega))
          have HG2 := hid (fun F3 w3 (q : CA w3 W F3 (W + 1) (n + 1 + 1 + 1) (((rowP r f (n + 1)).get old).put (-1) 0)) => Get_any w3 W F3 (W + 1) (n + 1 + 1 + 1) _ q old (by unfold wfK; omega) (by omega))
          have hov2 := rowP_val2 r n (n + 1) old hf (by omega) hold e1
          rw [if_neg (by have := HH0.out; omega)] at hov2
          rw [hov2] at HG2
          clear hov hov2
          have HNB := hid (fun w2 w3 (q : Below wr.heap.size wr w2) (a : AS Int Int) (x : Nx W F (W + 1) (n + 1) w2 a w3) => x.below (hC.below q) (Nat.le_trans hC.base q.size))
          have HNB2 := hid (fun F2 w2 w3 (b a : AS Int Int) (q : CA w2 W F2 (W + 1) (n + 1 + 1) b) (x : Nx W F2 (W + 1) (n + 1 + 1) w2 a w3) => x.below q q.base)
          have HNB3 := hid (fun F2 w2 w3 (b a : AS Int Int) (q : CA w2 W F2 (W + 1) (n + 1 + 1 + 1) b) (x : Nx W F2 (W + 1) (n + 1 + 1 + 1) w2 a w3) => x.below q q.base)
          have HB := hid hB
          have HWB := hid hC.base
          have o1 : (old : Int) ≤ 200 := by omega
          generalize (rowP r f (n + 1)).clean.map (·.1) = kl at *
          generalize hmi : (((rowP r f (n + 1)).misses : Nat) : Int) = mi at *
          generalize (rowP r f (n + 1)).get old = A1 at *
          generalize A1.put (-1) 0 = A2 at *
          generalize A2.get old = A3 at *
          clear hC hB e1 e2 hkl hkg hmi hold
          simp only [argK, argV, Option.getD_some, Option.isSome_some, Option.getD_none, Option.isSome_none] at HG1 HG2 HP1
          go_wp2_with (first
            | (go_at_call 11; refine HKE.out.mono ?_; rintro e w2 ⟨v2, rfl, hO2, hb2⟩; obtain ⟨g, cp2, ef, _⟩ := hO2.at 0 (by rw [HKL.out]; omega); rw [ef] at hO2 ⊢; rw [HKL.out] at hO2 ⊢; have HO2 := hid hO2; have HB2 := hid hb2; have HT2 := hid (HTA.out w2 hb2); clear hO2 hb2 HKE HTA ef)
            | (go_at_call 10; refine HT2.out.mono ?_; rintro e w3 ⟨rfl, hb3⟩; have HB3 := hid (HB2.out.trans (hb3.mono HB2.out.size)); have HO3 := hid (HO2.out.below hb3); clear hb3 HT2 HO2 HB2)
            | (refine wpList_store_row (by rfl) 26 (.tmp 9) (.tmp 54) (by rfl) w3.heap.size #[.int .i64 0, .int .i64 mi, .int .i64 0, .int .i64 ((n : Int) + 1), .int .i64 0] (by rfl) (by rfl) 26 _ (by exact hnew _ _) (tal2N 0 mi 0 ((n : Int) + 1) 0) (tal2Z 0 mi 0 ((n : Int) + 1) 0) (tal2O 0 mi 0 ((n : Int) + 1) 0) ?_; rw [setRow_alloc]; have HB4 := hid (HB3.out.alloc HB3.out.size (.cells #[.int .i64 0, .int .i64 mi, .int .i64 0, .int .i64 ((n : Int) + 1), .int .i64 0] 26)); have HO4 := hid (HO3.out.below ((Below.refl _ w3).alloc (Nat.le_refl _) (.cells #[.int .i64 0, .int .i64 mi, .int .i64 0, .int .i64 ((n : Int) + 1), .int .i64 0] 26)))))
          go_loopw [10] (fun i wq => ∃ j : Nat, j ≤ n + 1 ∧ i = .int .i64 j ∧ Below wr.heap.size wr wq ∧ OwnI wq wr.heap.size (.slice (some ⟨g, 0, none⟩) (n + 1) cp2) kl) (fun i _ => n + 1 - (intOf i).toNat)
          case atStart => exact ⟨0, by omega, rfl, HB4.out, HO4.out⟩
          case round =>
            rename_i wq
            obtain ⟨j, hj, rfl, hB5, hO5⟩ := hrel
            have HB5 := hid hB5
            have HO5 := hid hO5
            clear hB5 hO5 HB4 HO4
            by_cases hlt : j < n + 1
            · have i3 : (j : Int) < (n : Int) + 1 := by omega
              have cj := HO5.out.cells j (by rw [HKL.out]; exact hlt)
              rw [HKG.out j hlt] at cj
              have i4 : (j : Int) ≤ 200 := by omega
              go_wp2
              go_roundw
              case rel => exact ⟨j + 1, by omega, by go_num, HB5.out, HO5.out⟩
              case measure => simp [intOf]; omega
            · obtain rfl : j = n + 1 := by omega
              have i3 : ¬ (((n + 1 : Nat) : Int) < (n : Int) + 1) := by omega
              have cj := HO5.out.cells n (by rw [HKL.out]; omega)
              rw [HKG.out n (by omega), HOI.out] at cj
              have HGA := hid (HG1.out _ HB5.out)
              clear hlt hj HG1
              go_wp2_with (first
                | (go_at_call 12; refine HGA.out.mono ?_; rintro e w5 ⟨rfl, hx5⟩; have HX5 := hid (HNB.out _ w5 HB5.out _ hx5); clear hx5 HGA; obtain ⟨F5, hC5⟩ := HX5.out.1; have HC5 := hid hC5; have HPA := hid (HP1.out F5 w5 hC5); clear hC5 HP1)
                | (go_at_call 9; refine HPA.out.mono ?_; rintro e w6 ⟨rfl, hx6⟩; have HX6 := hid (HNB2.out F5 w5 w6 _ _ HC5.out hx6); clear hx6 HPA; obtain ⟨F6, hC6⟩ := HX6.out.1; have HC6 := hid hC6; have HGB := hid (HG2.out F6 w6 hC6); clear hC6 HG2)
                | (go_at_call 12; refine HGB.out.mono ?_; rintro e w7 ⟨rfl, hx7⟩; have HX7 := hid (HNB3.out F6 w6 w7 _ _ HC6.out hx7); clear hx7 HGB))
              go_ret
              refine ⟨rfl, ?_⟩
              have k1 := HB.out.trans (HB5.out.mono HWB.out)
              exact ((k1.trans HX5.out.2).trans HX6.out.2).trans HX7.out.2
      · obtain ⟨q, rfl⟩ : ∃ q, r = q + 1 := ⟨r - 1, by omega⟩
        have i2 : ¬ ((n : Int) + 1 < ((q + 1 : Nat) : Int)) := by omega
        by_cases h0 : q = 0
        · have i6 : ((q : Int) == 0) = true := by simpa using h0
          have i7 : ((q : Int) + 1 == 1) = true := by simp; omega
          have HH0 := hid h0
          clear h0
          have HKE := hid (Keys_any wr W F (W + 1) (n + 1) _ hC (by omega))
          have HTA := hid (fun w2 (q : Below wr.heap.size wr w2) => Tally_any w2 W F (W + 1) (n + 1) _ (hC.below q))
          have e1 : (rowP (q + 1) f (n + 1)).clean.length = q + 1 := by simp only [rowP, List.length_take, rowL_len]; omega
          have e2 : (((rowP (q + 1) f (n + 1)).gone : Nat) : Int) = ((n : Int) + 1 - ((q : Int) + 1)) := by show ((n + 1 - (q + 1) : Nat) : Int) = _; omega
          rw [show (((rowP (q + 1) f (n + 1)).hits : Nat) : Int) = 0 from rfl, show (((rowP (q + 1) f (n + 1)).held.length : Nat) : Int) = 0 from rfl, e1, e2, show (((q + 1 : Nat)) : Int) = (q : Int) + 1 by push_cast; rfl] at HTA
          have hkl : ((rowP (q + 1) f (n + 1)).clean.map (·.1)).length = q + 1 := by rw [List.length_map]; exact e1
          have hkg : ∀ i, i < q + 1 → ((rowP (q + 1) f (n + 1)).clean.map (·.1)).getD i 0 = (n : Int) - (i : Int) := fun i hi => rowP_key (q + 1) f n i (by rw [e1]; exact hi)
          have HKG := hid hkg
          have HKL := hid hkl
          obtain ⟨old, hold⟩ : ∃ old : Nat, old = n + 1 - (q + 1) := ⟨_, rfl⟩
          have HOI := hid (show (n : Int) - (q : Int) = (old : Int) by omega)
          have hov := rowP_val (q + 1) n (q + 1) old hf (by omega) hold e1
          have HG1 := hid (fun w2 (q : Below wr.heap.size wr w2) => Get_any w2 W F (W + 1) (n + 1) _ (hC.below q) old (by unfold wfK; omega) (by omega))
          rw [hov] at HG1
          have HP1 := hid (fun F2 w2 (q : CA w2 W F2 (W + 1) (n + 1 + 1) ((rowP (q + 1) f (n + 1)).get old)) => Put_any w2 W F2 (W + 1) (n + 1 + 1) _ q (-1) 0 (by unfold wfK; omega) (by omega))
          have HG2 := hid (fun F3 w3 (q : CA w3 W F3 (W + 1) (n + 1 + 1 + 1) (((rowP (q + 1) f (n + 1)).get old).put (-1) 0)) => Get_any w3 W F3 (W + 1) (n + 1 + 1 + 1) _ q old (by unfold wfK; omega) (by omega))
          have hov2 := rowP_val2 (q + 1) n (q + 1) old hf (by omega) hold e1
          rw [if_pos (by have := HH0.out; omega)] at hov2
          rw [hov2] at HG2
          clear hov hov2
          have HNB := hid (fun w2 w3 (q : Below wr.heap.size wr w2) (a : AS Int Int) (x : Nx W F (W + 1) (n + 1) w2 a w3) => x.below (hC.below q) (Nat.le_trans hC.base q.size))
          have HNB2 := hid (fun F2 w2 w3 (b a : AS Int Int) (q : CA w2 W F2 (W + 1) (n + 1 + 1) b) (x : Nx W F2 (W + 1) (n + 1 + 1) w2 a w3) => x.below q q.base)
          have HNB3 := hid (fun F2 w2 w3 (b a : AS Int Int) (q : CA w2 W F2 (W + 1) (n + 1 + 1 + 1) b) (x : Nx W F2 (W + 1) (n + 1 + 1 + 1) w2 a w3) => x.below q q.base)
          have HB := hid hB
          have HWB := hid hC.base
          have o1 : (old : Int) ≤ 200 := by omega
          generalize (rowP (q + 1) f (n + 1)).clean.map (·.1) = kl at *
          generalize hmi : (((rowP (q + 1) f (n + 1)).misses : Nat) : Int) = mi at *
          generalize (rowP (q + 1) f (n + 1)).get old = A1 at *
          generalize A1.put (-1) 0 = A2 at *
          generalize A2.get old = A3 at *
          clear hC hB e1 e2 hkl hkg hmi hold
          simp only [argK, argV, Option.getD_some, Option.isSome_some, Option.getD_none, Option.isSome_none] at HG1 HG2 HP1
          go_wp2_with (first
            | (go_at_call 11; refine HKE.out.mono ?_; rintro e w2 ⟨v2, rfl, hO2, hb2⟩; obtain ⟨g, cp2, ef, _⟩ := hO2.at 0 (by rw [HKL.out]; omega); rw [ef] at hO2 ⊢; rw [HKL.out] at hO2 ⊢; have HO2 := hid hO2; have HB2 := hid hb2; have HT2 := hid (HTA.out w2 hb2); clear hO2 hb2 HKE HTA ef)
            | (go_at_call 10; refine HT2.out.mono ?_; rintro e w3 ⟨rfl, hb3⟩; have HB3 := hid (HB2.out.trans (hb3.mono HB2.out.size)); have HO3 := hid (HO2.out.below hb3); clear hb3 HT2 HO2 HB2)
            | (refine wpList_store_row (by rfl) 26 (.tmp 9) (.tmp 54) (by rfl) w3.heap.size #[.int .i64 0, .int .i64 mi, .int .i64 ((n : Int) + 1 - ((q : Int) + 1)), .int .i64 ((q : Int) + 1), .int .i64 0] (by rfl) (by rfl) 26 _ (by exact hnew _ _) (tal2N 0 mi ((n : Int) + 1 - ((q : Int) + 1)) ((q : Int) + 1) 0) (tal2Z 0 mi ((n : Int) + 1 - ((q : Int) + 1)) ((q : Int) + 1) 0) (tal2O 0 mi ((n : Int) + 1 - ((q : Int) + 1)) ((q : Int) + 1) 0) ?_; rw [setRow_alloc]; have HB4 := hid (HB3.out.alloc HB3.out.size (.cells #[.int .i64 0, .int .i64 mi, .int .i64 ((n : Int) + 1 - ((q : Int) + 1)), .int .i64 ((q : Int) + 1), .int .i64 0] 26)); have HO4 := hid (HO3.out.below ((Below.refl _ w3).alloc (Nat.le_refl _) (.cells #[.int .i64 0, .int .i64 mi, .int .i64 ((n : Int) + 1 - ((q : Int) + 1)), .int .i64 ((q : Int) + 1), .int .i64 0] 26)))))
          go_loopw [10] (fun i wq => ∃ j : Nat, j ≤ q + 1 ∧ i = .int .i64 j ∧ Below wr.heap.size wr wq ∧ OwnI wq wr.heap.size (.slice (some ⟨g, 0, none⟩) (q + 1) cp2) kl) (fun i _ => q + 1 - (intOf i).toNat)
          case atStart => exact ⟨0, by omega, rfl, HB4.out, HO4.out⟩
          case round =>
            rename_i wq
            obtain ⟨j, hj, rfl, hB5, hO5⟩ := hrel
            have HB5 := hid hB5
            have HO5 := hid hO5
            clear hB5 hO5 HB4 HO4
            by_cases hlt : j < q + 1
            · have i3 : (j : Int) < (q : Int) + 1 := by omega
              have cj := HO5.out.cells j (by rw [HKL.out]; exact hlt)
              rw [HKG.out j hlt] at cj
              have i4 : (j : Int) ≤ 200 := by omega
              go_wp2
              go_roundw
              case rel => exact ⟨j + 1, by omega, by go_num, HB5.out, HO5.out⟩
              case measure => simp [intOf]; omega
            · obtain rfl : j = q + 1 := by omega
              have i3 : ¬ (((q + 1 : Nat) : Int) < (q : Int) + 1) := by omega
              have cj := HO5.out.cells q (by rw [HKL.out]; omega)
              rw [HKG.out q (by omega), HOI.out] at cj
              have HGA := hid (HG1.out _ HB5.out)
              clear hlt hj HG1
              go_wp2_with (first
                | (go_at_call 12; refine HGA.out.mono ?_; rintro e w5 ⟨rfl, hx5⟩; have HX5 := hid (HNB.out _ w5 HB5.out _ hx5); clear hx5 HGA; obtain ⟨F5, hC5⟩ := HX5.out.1; have HC5 := hid hC5; have HPA := hid (HP1.out F5 w5 hC5); clear hC5 HP1)
                | (go_at_call 9; refine HPA.out.mono ?_; rintro e w6 ⟨rfl, hx6⟩; have HX6 := hid (HNB2.out F5 w5 w6 _ _ HC5.out hx6); clear hx6 HPA; obtain ⟨F6, hC6⟩ := HX6.out.1; have HC6 := hid hC6; have HGB := hid (HG2.out F6 w6 hC6); clear hC6 HG2)
                | (go_at_call 12; refine HGB.out.mono ?_; rintro e w7 ⟨rfl, hx7⟩; have HX7 := hid (HNB3.out F6 w6 w7 _ _ HC6.out hx7); clear hx7 HGB))
              go_ret
              refine ⟨rfl, ?_⟩
              have k1 := HB.out.trans (HB5.out.mono HWB.out)
              exact ((k1.trans HX5.out.2).trans HX6.out.2).trans HX7.out.2
        · have i6 : ((q : Int) == 0) = false := by simpa using h0
          have i7 : ((q : Int) + 1 == 1) = false := by simp; omega
          have HH0 := hid h0
          clear h0
          have HKE := hid (Keys_any wr W F (W + 1) (n + 1) _ hC (by omega))
          have HTA := hid (fun w2 (q : Below wr.heap.size wr w2) => Tally_any w2 W F (W + 1) (n + 1) _ (hC.below q))
          have e1 : (rowP (q + 1) f (n + 1)).clean.length = q + 1 := by simp only [rowP, List.length_take, rowL_len]; omega
          have e2 : (((rowP (q + 1) f (n + 1)).gone : Nat) : Int) = ((n : Int) + 1 - ((q : Int) + 1)) := by show ((n + 1 - (q + 1) : Nat) : Int) = _; omega
          rw [show (((rowP (q + 1) f (n + 1)).hits : Nat) : Int) = 0 from rfl, show (((rowP (q + 1) f (n + 1)).held.length : Nat) : Int) = 0 from rfl, e1, e2, show (((q + 1 : Nat)) : Int) = (q : Int) + 1 by push_cast; rfl] at HTA
          have hkl : ((rowP (q + 1) f (n + 1)).clean.map (·.1)).length = q + 1 := by rw [List.length_map]; exact e1
          have hkg : ∀ i, i < q + 1 → ((rowP (q + 1) f (n + 1)).clean.map (·.1)).getD i 0 = (n : Int) - (i : Int) := fun i hi => rowP_key (q + 1) f n i (by rw [e1]; exact hi)
          have HKG := hid hkg
          have HKL := hid hkl
          obtain ⟨old, hold⟩ : ∃ old : Nat, old = n + 1 - (q + 1) := ⟨_, rfl⟩
          have HOI := hid (show (n : Int) - (q : Int) = (old : Int) by omega)
          have hov := rowP_val (q + 1) n (q + 1) old hf (by omega) hold e1
          have HG1 := hid (fun w2 (q : Below wr.heap.size wr w2) => Get_any w2 W F (W + 1) (n + 1) _ (hC.below q) old (by unfold wfK; omega) (by omega))
          rw [hov] at HG1
          have HP1 := hid (fun F2 w2 (q : CA w2 W F2 (W + 1) (n + 1 + 1) ((rowP (q + 1) f (n + 1)).get old)) => Put_any w2 W F2 (W + 1) (n + 1 + 1) _ q (-1) 0 (by unfold wfK; omega) (by omega))
          have HG2 := hid (fun F3 w3 (q : CA w3 W F3 (W + 1) (n + 1 + 1 + 1) (((rowP (q + 1) f (n + 1)).get old).put (-1) 0)) => Get_any w3 W F3 (W + 1) (n + 1 + 1 + 1) _ q old (by unfold wfK; omega) (by omega))
          have hov2 := rowP_val2 (q + 1) n (q + 1) old hf (by omega) hold e1
          rw [if_neg (by have := HH0.out; omega)] at hov2
          rw [hov2] at HG2
          clear hov hov2
          have HNB := hid (fun w2 w3 (q : Below wr.heap.size wr w2) (a : AS Int Int) (x : Nx W F (W + 1) (n + 1) w2 a w3) => x.below (hC.below q) (Nat.le_trans hC.base q.size))
          have HNB2 := hid (fun F2 w2 w3 (b a : AS Int Int) (q : CA w2 W F2 (W + 1) (n + 1 + 1) b) (x : Nx W F2 (W + 1) (n + 1 + 1) w2 a w3) => x.below q q.base)
          have HNB3 := hid (fun F2 w2 w3 (b a : AS Int Int) (q : CA w2 W F2 (W + 1) (n + 1 + 1 + 1) b) (x : Nx W F2 (W + 1) (n + 1 + 1 + 1) w2 a w3) => x.below q q.base)
          have HB := hid hB
          have HWB := hid hC.base
          have o1 : (old : Int) ≤ 200 := by omega
          generalize (rowP (q + 1) f (n + 1)).clean.map (·.1) = kl at *
          generalize hmi : (((rowP (q + 1) f (n + 1)).misses : Nat) : Int) = mi at *
          generalize (rowP (q + 1) f (n + 1)).get old = A1 at *
          generalize A1.put (-1) 0 = A2 at *
          generalize A2.get old = A3 at *
          clear hC hB e1 e2 hkl hkg hmi hold
          simp only [argK, argV, Option.getD_some, Option.isSome_some, Option.getD_none, Option.isSome_none] at HG1 HG2 HP1
          go_wp2_with (first
            | (go_at_call 11; refine HKE.out.mono ?_; rintro e w2 ⟨v2, rfl, hO2, hb2⟩; obtain ⟨g, cp2, ef, _⟩ := hO2.at 0 (by rw [HKL.out]; omega); rw [ef] at hO2 ⊢; rw [HKL.out] at hO2 ⊢; have HO2 := hid hO2; have HB2 := hid hb2; have HT2 := hid (HTA.out w2 hb2); clear hO2 hb2 HKE HTA ef)
            | (go_at_call 10; refine HT2.out.mono ?_; rintro e w3 ⟨rfl, hb3⟩; have HB3 := hid (HB2.out.trans (hb3.mono HB2.out.size)); have HO3 := hid (HO2.out.below hb3); clear hb3 HT2 HO2 HB2)
            | (refine wpList_store_row (by rfl) 26 (.tmp 9) (.tmp 54) (by rfl) w3.heap.size #[.int .i64 0, .int .i64 mi, .int .i64 ((n : Int) + 1 - ((q : Int) + 1)), .int .i64 ((q : Int) + 1), .int .i64 0] (by rfl) (by rfl) 26 _ (by exact hnew _ _) (tal2N 0 mi ((n : Int) + 1 - ((q : Int) + 1)) ((q : Int) + 1) 0) (tal2Z 0 mi ((n : Int) + 1 - ((q : Int) + 1)) ((q : Int) + 1) 0) (tal2O 0 mi ((n : Int) + 1 - ((q : Int) + 1)) ((q : Int) + 1) 0) ?_; rw [setRow_alloc]; have HB4 := hid (HB3.out.alloc HB3.out.size (.cells #[.int .i64 0, .int .i64 mi, .int .i64 ((n : Int) + 1 - ((q : Int) + 1)), .int .i64 ((q : Int) + 1), .int .i64 0] 26)); have HO4 := hid (HO3.out.below ((Below.refl _ w3).alloc (Nat.le_refl _) (.cells #[.int .i64 0, .int .i64 mi, .int .i64 ((n : Int) + 1 - ((q : Int) + 1)), .int .i64 ((q : Int) + 1), .int .i64 0] 26)))))
          go_loopw [10] (fun i wq => ∃ j : Nat, j ≤ q + 1 ∧ i = .int .i64 j ∧ Below wr.heap.size wr wq ∧ OwnI wq wr.heap.size (.slice (some ⟨g, 0, none⟩) (q + 1) cp2) kl) (fun i _ => q + 1 - (intOf i).toNat)
          case atStart => exact ⟨0, by omega, rfl, HB4.out, HO4.out⟩
          case round =>
            rename_i wq
            obtain ⟨j, hj, rfl, hB5, hO5⟩ := hrel
            have HB5 := hid hB5
            have HO5 := hid hO5
            clear hB5 hO5 HB4 HO4
            by_cases hlt : j < q + 1
            · have i3 : (j : Int) < (q : Int) + 1 := by omega
              have cj := HO5.out.cells j (by rw [HKL.out]; exact hlt)
              rw [HKG.out j hlt] at cj
              have i4 : (j : Int) ≤ 200 := by omega
              go_wp2
              go_roundw
              case rel => exact ⟨j + 1, by omega, by go_num, HB5.out, HO5.out⟩
              case measure => simp [intOf]; omega
            · obtain rfl : j = q + 1 := by omega
              have i3 : ¬ (((q + 1 : Nat) : Int) < (q : Int) + 1) := by omega
              have cj := HO5.out.cells q (by rw [HKL.out]; omega)
              rw [HKG.out q (by omega), HOI.out] at cj
              have HGA := hid (HG1.out _ HB5.out)
              clear hlt hj HG1
              go_wp2_with (first
                | (go_at_call 12; refine HGA.out.mono ?_; rintro e w5 ⟨rfl, hx5⟩; have HX5 := hid (HNB.out _ w5 HB5.out _ hx5); clear hx5 HGA; obtain ⟨F5, hC5⟩ := HX5.out.1; have HC5 := hid hC5; have HPA := hid (HP1.out F5 w5 hC5); clear hC5 HP1)
                | (go_at_call 9; refine HPA.out.mono ?_; rintro e w6 ⟨rfl, hx6⟩; have HX6 := hid (HNB2.out F5 w5 w6 _ _ HC5.out hx6); clear hx6 HPA; obtain ⟨F6, hC6⟩ := HX6.out.1; have HC6 := hid hC6; have HGB := hid (HG2.out F6 w6 hC6); clear hC6 HG2)
                | (go_at_call 12; refine HGB.out.mono ?_; rintro e w7 ⟨rfl, hx7⟩; have HX7 := hid (HNB3.out F6 w6 w7 _ _ HC6.out hx7); clear hx7 HGB))
              go_ret
              refine ⟨rfl, ?_⟩
              have k1 := HB.out.trans (HB5.out.mono HWB.out)
              exact ((k1.trans HX5.out.2).trans HX6.out.2).trans HX7.out.2
end Go.Proofs.Ytbpamknebjdicaa
