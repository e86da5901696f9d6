import Derived.Test.YtcifbnldohmbnaaSv
namespace Go.Proofs.Ytcifbnldohmbnaa
set_option linter.unusedVariables false
set_option linter.unusedSimpArgs false
open Go.RowKit
attribute [local go_sem ↓] Go.wp_at_zero Go.wp_at_succ

theorem Chs.home {w : World} {g cap b : Nat} {cs : List Chg} {ms : List MC} (h : Chs w (some ⟨g, 0, none⟩) cap cs b 0 ms) : Chs w (some ⟨g, 0, none⟩) cap cs g 0 ms := by
  by_cases hp : 0 < cs.length
  · have := (h.pos hp).2
    simp only [Option.some.injEq, Addr.mk.injEq] at this
    obtain ⟨rfl, _⟩ := this
    exact h
  · exact ⟨h.le, h.mx, h.nil, fun h => absurd h hp, fun i hi => by omega, h.says⟩
theorem normC_len (cs : List Chg) : (normC cs).length = cs.length := by rw [(normC_perm cs).length_eq, List.length_map]
theorem normC_ok {cs : List Chg} (h : ∀ c ∈ cs, OkC c) : ∀ c ∈ normC cs, OkC c := fun c hc => by
  obtain ⟨d, hd, rfl⟩ := List.mem_map.1 ((normC_perm cs).mem_iff.1 hc)
  obtain ⟨h1, h2, h3, h4⟩ := h d hd
  refine ⟨h1, h2, ?_, ?_⟩
  · unfold plainC; cases d.del with
    | true => exact fun x hx => by simp at hx
    | false => exact h3
  · unfold plainC; cases d.del with
    | true => simp
    | false => exact h4
/-- What Fold tells. -/
def FolE (a b : List Chg) : Int := if NorE a ≠ 0 then NorE a else if NorE b ≠ 0 then NorE b else if 64 < (mergeL (normC a) (normC b)).length then 31 else 0
def FolL (a b : List Chg) : List Chg := if FolE a b = 0 then mergeL (normC a) (normC b) else []
theorem norE_len {a : List Chg} (h : NorE a = 0) : a.length ≤ 4096 := by
  unfold NorE wrongC at h
  split at h
  · cases h
  · omega
set_option maxRecDepth 100000 in
set_option maxHeartbeats 1000000 in
theorem Fold_any (w : World) (xs ys : List Chg) (sp1 sp2 : Option Addr) (cap1 cap2 b1 o1 b2 o2 : Nat) (ms1 ms2 : List MC) (hA : Chs w sp1 cap1 xs b1 o1 ms1) (hD : Chs w sp2 cap2 ys b2 o2 ms2) (oka : ∀ c ∈ xs, OkC c) (okb : ∀ c ∈ ys, OkC c) :
    Calls Try.prog 23 #[.slice sp1 xs.length cap1, .slice sp2 ys.length cap2] w fun e w' => ∃ v, e = .returned (.tuple #[v, .int .i64 (FolE xs ys)]) ∧ Mine w' w.heap.size v (FolL xs ys) ∧ Below w.heap.size w w' := by
  have KA := hid (Normal_any w xs sp1 cap1 b1 o1 ms1 hA oka)
  go_enter Try.func23, Try.ntmps23
  go_wp2_with fail
  refine KA.out.mono ?_
  rintro e w1 ⟨v1, rfl, hM1, hg1, hB1⟩
  clear KA
  by_cases hea : NorE xs = 0
  · obtain ⟨g1, rfl⟩ := hg1 hea
    have KB := hid (Normal_any w1 ys sp2 cap2 b2 o2 ms2 (hD.below hB1) okb)
    have HEA := hid hea
    rw [hea]
    clear hea hg1
    go_wp2_with fail
    refine KB.out.mono ?_
    rintro e w2 ⟨v2, rfl, hM2, hg2, hB2⟩
    clear KB
    by_cases heb : NorE ys = 0
    · obtain ⟨g2, rfl⟩ := hg2 heb
      have hla := norE_len HEA.out
      have hlb := norE_len heb
      have HEB := hid heb
      have e1 : NorL xs = normC xs := if_pos HEA.out
      have e2 : NorL ys = normC ys := if_pos heb
      rw [e1] at hM1
      rw [e2] at hM2
      obtain ⟨q1, p1, p2⟩ := hM1.below hB2
      obtain ⟨q2, p3, p4⟩ := hM2.base hB1.size
      obtain ⟨s1, d1, x1, hv1, hC1, _⟩ := p1.chs p2.says
      obtain ⟨s2, d2, x2, hv2, hC2, _⟩ := p3.chs p4.says
      simp only [Value.slice.injEq] at hv1 hv2
      obtain ⟨rfl, hl1, rfl⟩ := hv1
      obtain ⟨rfl, hl2, rfl⟩ := hv2
      have hs2 : w.heap.size ≤ w2.heap.size := Nat.le_trans hB1.size hB2.size
      have KM := merge_any w2 w.heap.size hs2 (normC xs) (normC ys) g1 0 _ g2 0 _ q1 q2 hC1.home p2 hC2.home p4 (fun c hc => (normC_ok oka c hc).2.1) (fun c hc => (normC_ok okb c hc).2.1) (by rw [normC_len, normC_len]; omega)
      rw [normC_len, normC_len] at KM
      have KM := hid KM
      rw [heb]
      have hBw : Below w.heap.size w w2 := hB1.trans (hB2.mono hB1.size)
      clear hM1 hM2 p1 p2 p3 p4 hC1 hC2 hl1 hl2 e1 e2 heb hg2 hla hlb
      go_wp2_with fail
      refine KM.out.mono ?_
      rintro e w3 ⟨v3, rfl, hM3, hB3⟩
      clear KM
      have hB9 : Below w.heap.size w w3 := hBw.trans (hB3.mono hs2)
      obtain ⟨s3, d3, x3, m3, rfl, hC3, _⟩ := hM3.chs
      have i3 : ((mergeL (normC xs) (normC ys)).length : Int) ≤ 9223372036854775807 := by have a1 := hC3.le; have a2 := hC3.mx; unfold maxLen at a2; omega
      have HF := hid (show FolE xs ys = if 64 < (mergeL (normC xs) (normC ys)).length then 31 else 0 by unfold FolE; rw [if_neg (by rw [HEA.out]; simp), if_neg (by rw [HEB.out]; simp)])
      have HFL := hid (show FolE xs ys = 0 → FolL xs ys = mergeL (normC xs) (normC ys) from fun h => by unfold FolL; rw [if_pos h])
      have HFM := hid (show FolE xs ys ≠ 0 → FolL xs ys = [] from fun h => by unfold FolL; rw [if_neg h])
      clear hC3
      generalize mergeL (normC xs) (normC ys) = R at *
      by_cases h64 : 64 < R.length
      · have j1 : (64 : Int) < (R.length : Int) := by omega
        rw [if_pos h64] at HF
        clear h64
        go_wp2
        refine bodyPost_ret (results_tmp2 Try.results23 _ _ _) rfl ⟨.slice none 0 0, ?_, ?_, hB9⟩
        · rw [HF.out]; rfl
        · rw [HFM.out (by rw [HF.out]; decide)]; exact Mine.nil _ _
      · have j1 : ¬ (64 : Int) < (R.length : Int) := by omega
        rw [if_neg h64] at HF
        clear h64
        go_wp2
        refine bodyPost_ret (results_tmp2 Try.results23 _ _ _) rfl ⟨.slice s3 R.length d3, ?_, ?_, hB9⟩
        · rw [HF.out]; rfl
        · rw [HFL.out HF.out]; exact hM3
    · have HF := hid (show FolE xs ys = NorE ys by unfold FolE; rw [if_neg (by rw [HEA.out]; simp), if_pos heb])
      generalize hbb : NorE ys = bb at *
      clear hbb
      go_wp2
      refine bodyPost_ret (results_tmp2 Try.results23 _ _ _) rfl ⟨.slice none 0 0, ?_, ?_, hB1.trans (hB2.mono hB1.size)⟩
      · rw [HF.out]; rfl
      · unfold FolL; rw [HF.out, if_neg heb]; exact Mine.nil _ _
  · have HF := hid (show FolE xs ys = NorE xs by unfold FolE; rw [if_pos hea])
    generalize hbb : NorE xs = aa at *
    clear hbb
    go_wp2
    refine bodyPost_ret (results_tmp2 Try.results23 _ _ _) rfl ⟨.slice none 0 0, ?_, ?_, hB1⟩
    · rw [HF.out]; rfl
    · unfold FolL; rw [HF.out, if_neg hea]; exact Mine.nil _ _
end Go.Proofs.Ytcifbnldohmbnaa
