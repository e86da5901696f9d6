import Derived.Test.YtcifbnldohmbnaaCr
namespace Go.Proofs.Ytcifbnldohmbnaa
set_option linter.unusedVariables false
set_option linter.unusedSimpArgs false
open Go.RowKit
attribute [local go_sem ↓] Go.wp_at_zero Go.wp_at_succ

theorem lay1_len {c : Chg} (hk : c.key.length = 32) (hv : c.del = false → c.val.length ≤ 128) : (lay1 c).length ≤ 163 := by
  unfold lay1
  cases h : c.del with
  | true => simp [hk]
  | false => have := hv h; simp [num2, hk]; omega
theorem flat_le : ∀ (cs : List Chg), (∀ c ∈ cs, (lay1 c).length ≤ 163) → ((cs.map lay1).flatten).length ≤ cs.length * 163
  | [], _ => by simp
  | c :: cs, h => by
    have h1 := flat_le cs (fun c hc => h c (by simp [hc]))
    have h2 := h c (by simp)
    simp only [List.map_cons, List.flatten_cons, List.length_append, List.length_cons]; omega
theorem not_long {cs : List Chg} (h : longC cs = false) : ∀ c ∈ cs, c.del = false → c.val.length ≤ 128 := fun c hc hd => by
  unfold longC at h
  rw [List.any_eq_false] at h
  have := h c hc
  simp [hd] at this
  exact this
/-- What Build tells. -/
def buildV (cs : List Chg) : List Int := if wrongC cs 64 = 0 then layC cs else []
theorem wrong_bound {cs : List Chg} {n : Nat} (h : boundC cs n ≠ 0) : wrongC cs n = boundC cs n := by
  unfold boundC at h ⊢
  unfold wrongC
  by_cases h1 : n < cs.length
  · rw [if_pos h1, if_pos (show (n : Int) < (cs.length : Int) by omega)]
  · have h1' : ¬ (n : Int) < (cs.length : Int) := by omega
    rw [if_neg h1'] at h
    rw [if_neg h1, if_neg h1']
    cases h2 : longC cs with
    | true => rfl
    | false => rw [h2] at h; exact absurd rfl h
theorem wrong_dup {cs : List Chg} {n : Nat} (h : boundC cs n = 0) : wrongC cs n = if twiceK (keysC cs) < cs.length then 33 else 0 := by
  have hl : (keysC cs).length = cs.length := by simp [keysC]
  have h3 := twiceK_iff (keysC cs)
  have h4 := twiceK_le (keysC cs)
  unfold boundC at h
  unfold wrongC
  by_cases h1 : n < cs.length
  · rw [if_pos (by omega)] at h; cases h
  · rw [if_neg h1]
    rw [if_neg (by omega)] at h
    by_cases h2 : longC cs = true
    · rw [if_pos h2] at h; cases h
    · rw [if_neg h2]
      by_cases hn : (keysC cs).Nodup
      · rw [if_pos hn, if_neg (by have := h3.2 hn; omega)]
      · rw [if_neg hn, if_pos]
        rcases Nat.lt_or_ge (twiceK (keysC cs)) cs.length with h5 | h5
        · exact h5
        · exact absurd (h3.1 (by omega)) hn
theorem bound_zero {cs : List Chg} {n : Nat} (h : boundC cs n = 0) : cs.length ≤ n ∧ longC cs = false := by
  unfold boundC at h
  by_cases h1 : (n : Int) < cs.length
  · rw [if_pos h1] at h; cases h
  · rw [if_neg h1] at h
    refine ⟨by omega, ?_⟩
    cases h2 : longC cs with
    | false => rfl
    | true => rw [h2] at h; cases h
set_option maxRecDepth 100000 in
set_option maxHeartbeats 1000000 in
theorem Build_any (w : World) (cs : List Chg) (sp : Option Addr) (cap b o : Nat) (ms : List MC) (hC : Chs w sp cap cs b o ms) :
    Calls Try.prog 14 #[.slice sp cs.length cap] w fun e w' => ∃ v, e = .returned (.tuple #[v, .int .i64 (wrongC cs 64)]) ∧ Own w' w.heap.size v (buildV cs) ∧ Below w.heap.size w w' := by
  have hm := hC.mx
  have hle := hC.le
  unfold maxLen at hm
  have i0 : (cs.length : Int) ≤ 9223372036854775807 := by omega
  have KB := hid (bounds_any w cs sp cap b o ms hC 64)
  go_enter Try.func14, Try.ntmps14
  by_cases hb0 : boundC cs 64 = 0
  · obtain ⟨hn64, hlg⟩ := bound_zero (n := 64) hb0
    have HW := hid (wrong_dup (n := 64) hb0)
    have HLG := hid (not_long hlg)
    rw [hb0] at KB
    clear hb0 hlg
    go_wp2_with fail
    refine KB.out.mono ?_
    rintro e w1 ⟨rfl, hB1⟩
    have hC1 := hC.below hB1
    have KR := hid (repeated_any w1 cs sp cap b o ms hC1)
    have htl := twiceK_le (keysC cs)
    have hkl : (keysC cs).length = cs.length := by simp [keysC]
    clear KB
    by_cases hdup : twiceK (keysC cs) < cs.length
    · have HW2 := hid (show wrongC cs 64 = 33 by rw [HW.out, if_pos hdup])
      have j1 : (twiceK (keysC cs) : Int) < (cs.length : Int) := by omega
      clear HW htl hkl hdup
      generalize twiceK (keysC cs) = tw at *
      go_wp2_with fail
      refine KR.out.mono ?_
      rintro e w2 ⟨rfl, hB2⟩
      go_wp2
      refine bodyPost_ret (results_tmp2 Try.results14 _ _ _) rfl ⟨.slice none 0 0, ?_, ?_, hB1.trans (hB2.mono hB1.size)⟩
      · rw [HW2.out]; rfl
      · rw [buildV, if_neg (by rw [HW2.out]; decide)]; exact Own.nil _ _
    · have HW2 := hid (show wrongC cs 64 = 0 by rw [HW.out, if_neg hdup])
      have j1 : ¬ (twiceK (keysC cs) : Int) < (cs.length : Int) := by omega
      clear HW htl hkl hdup
      generalize twiceK (keysC cs) = tw at *
      go_wp2_with fail
      refine KR.out.mono ?_
      rintro e w2 ⟨rfl, hB2⟩
      have hBB := hB1.trans (hB2.mono hB1.size)
      clear KR hB1 hB2 hC1
      have KN := hid (appendNumber_any w2 w.heap.size _ [] (Own.nil w2 w.heap.size) cs.length (by omega) (by simp) hBB.size)
      go_wp2_with fail
      refine KN.out.mono ?_
      rintro e w3 ⟨v3, rfl, hO3, hg3, _⟩
      rw [List.nil_append] at hO3
      have hB3 : Below w.heap.size w w3 := hBB.trans (grown_keeps hg3 (fun k e => by simp [Value.ownBlock] at e) hBB.size)
      clear KN hg3 hBB
      go_wp2
      go_loopw [5, 23] (fun v i wr => ∃ k : Nat, k ≤ cs.length ∧ i = .int .i64 k ∧ Own wr w.heap.size v (num2 cs.length ++ ((cs.take k).map lay1).flatten) ∧ Below w.heap.size w wr) (fun _ i _ => cs.length - (intOf i).toNat)
      case atStart => exact ⟨0, by omega, rfl, by simpa using hO3, hB3⟩
      case round =>
        clear hO3 hB3
        obtain ⟨k, hk, rfl, hO, hB⟩ := hrel
        by_cases hlt : k < cs.length
        · have i1 : (k : Int) < (cs.length : Int) := by omega
          obtain ⟨hb, rfl⟩ := hC.pos (by omega)
          have rg := rng_below (hC.rd k hlt) hB hb
          have hs := hC.says.2 k hlt
          have hmem : cs.getD k dC ∈ cs := by rw [List.getD_eq_getElem?_getD, List.getElem?_eq_getElem hlt]; exact List.getElem_mem hlt
          have oo := hs.one
          have SO := hid (show (encM (ms.getD k dM)).toArray.size = 34 by simpa using hs.len)
          have hio : (Try.prog.info? 40).map (·.size) = some (encM (ms.getD k dM)).length := by rw [chgSize, hs.len]
          have g1 := hnew wr (.cells (encM (ms.getD k dM)).toArray 40)
          have g2 : Below w.heap.size w (wr.alloc (.cells (encM (ms.getD k dM)).toArray 40)) := hB.alloc hB.size _
          have hO2 := own_pushes hO (.cells (encM (ms.getD k dM)).toArray 40)
          have HT := hid (show num2 cs.length ++ ((cs.take (k + 1)).map lay1).flatten = num2 cs.length ++ ((cs.take k).map lay1).flatten ++ lay1 (cs.getD k dC) by rw [take_snoc cs k hlt]; simp)
          have hfl : (num2 cs.length ++ ((cs.take k).map lay1).flatten).length ≤ 140737480000000 := by
            have := flat_le (cs.take k) (fun c hc => by
              have hc' := List.mem_of_mem_take hc
              obtain ⟨j, hj, rfl⟩ := List.mem_iff_getElem.1 hc'
              have hkj := (hC.says.2 j hj).2.1
              rw [List.getD_eq_getElem?_getD, List.getElem?_eq_getElem hj] at hkj
              exact lay1_len hkj (HLG.out _ hc'))
            rw [List.length_take] at this
            have h64 : min k cs.length ≤ 64 := by omega
            have : (num2 cs.length).length = 2 := rfl
            rw [List.length_append]; omega
          have hvl : (cs.getD k dC).del = false → (cs.getD k dC).val.length ≤ 128 := HLG.out _ hmem
          generalize num2 cs.length ++ ((cs.take k).map lay1).flatten = zs at *
          generalize ms.getD k dM = m at *
          generalize hcd : cs.getD k dC = c at *
          have KA := hid (appendChange_any (wr.alloc (.cells (encM m).toArray 40)) w.heap.size u5 zs hO2 w m c hs g2 (Nat.le_refl _) hvl hfl g2.size)
          clear hmem hcd
          go_wp2_with (first
            | refine wpList_load_mid rfl 40 _ rfl b (o + k * 34) rfl (encM m) _ rg Try.underlying40 rfl hio ?_
            | (refine wpList_store_row rfl 40 _ _ rfl _ _ rfl rfl 40 _ (by exact hnew _ _) (by rw [chgSize, SO.out]) (by rw [SO.out]; rfl) (all_oneCell_toArray oo) ?_; rw [setRow_alloc])
            | refine wpList_load_row rfl 40 _ rfl _ rfl 40 _ _ _ (by exact g1) Try.underlying40 rfl (by rw [chgSize, SO.out]) ?_)
          refine KA.out.mono ?_
          rintro e w4 ⟨v4, rfl, hO4, hg4, _⟩
          have hB4 : Below w.heap.size w w4 := g2.trans (grown_keeps hg4 (fun kk e => (hO2.block kk e).1) g2.size)
          go_wp2
          go_roundw
          case rel => exact ⟨k + 1, by omega, by go_num, (by rw [HT.out]; exact hO4), hB4⟩
          case measure => simp [intOf]; omega
        · obtain rfl : k = cs.length := by omega
          rw [List.take_length] at hO
          clear hlt
          go_wp2
          refine bodyPost_ret (results_tmp2 Try.results14 _ _ _) rfl ⟨u5, ?_, ?_, hB⟩
          · rw [HW2.out]; rfl
          · rw [buildV, if_pos HW2.out]; exact hO
  · have HW2 := hid (wrong_bound (n := 64) hb0)
    have HN := hid hb0
    generalize boundC cs 64 = r at *
    clear hb0
    have hr0 : ¬ r = 0 := HN.out
    go_wp2_with fail
    refine KB.out.mono ?_
    rintro e w1 ⟨rfl, hB1⟩
    go_wp2
    refine bodyPost_ret (results_tmp2 Try.results14 _ _ _) rfl ⟨.slice none 0 0, ?_, ?_, hB1⟩
    · rw [HW2.out]; rfl
    · rw [buildV, if_neg (by rw [HW2.out]; exact HN.out)]; exact Own.nil _ _
end Go.Proofs.Ytcifbnldohmbnaa
