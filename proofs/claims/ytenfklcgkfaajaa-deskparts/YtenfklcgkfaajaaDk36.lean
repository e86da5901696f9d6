import Derived.Test.YtenfklcgkfaajaaDa
import Derived.Test.YtenfklcgkfaajaaDb
import Derived.Test.YtenfklcgkfaajaaDk35
namespace Go.Proofs.Ytenfklcgkfaajaa
set_option linter.unusedVariables false
set_option linter.unusedSimpArgs false
open Go.RowKit
attribute [local go_sem ↓] Go.wp_at_zero Go.wp_at_succ

theorem reply_any (w0 w : World) (g b : Nat) (op : Int) (R : Rd) (hy : Bys R.rest) (h : RK w0 w g b R) (hl : R.rest.length ≤ 140737488351234) :
    Calls Try.prog 26 #[.pointer (some ⟨g, 0, none⟩), .int .i64 op] w fun e w' => ∃ vv rv lv cv, e = .returned (.agg (rpC (rpP op R).1 vv rv lv cv).toArray) ∧ (∃ ml mc, RpO w' w.heap.size (rpP op R).1 vv rv lv cv ml mc ∧ Sd vv rv ml mc ∧ DjM ml ∧ DjM mc) ∧ RK w0 w' g b (rpP op R).2 ∧ Keeps g w w' := by
  by_cases he : nmV R 2 = 0
  · by_cases h1 : op = 1
    · exact reply_1 w0 w g b op R hy h hl he h1
    by_cases h2 : op = 2
    · cases hf : flV (tkS R 2)
      · exact reply_2n w0 w g b op R hy h hl he h2 hf
      · exact reply_2y w0 w g b op R hy h hl he h2 hf
    by_cases h3 : op = 3
    · exact reply_3 w0 w g b op R hy h hl he h3
    by_cases h4 : op = 4
    · exact reply_4 w0 w g b op R hy h hl he h4
    by_cases h5 : op = 5
    · exact reply_5 w0 w g b op R hy h hl he h5
    by_cases h6 : op = 6
    · exact reply_6 w0 w g b op R hy h hl he h6
    by_cases h7 : op = 7
    · exact reply_7 w0 w g b op R hy h hl he h7
    by_cases h8 : op = 8
    · exact reply_8 w0 w g b op R hy h hl he h8
    · exact reply_0 w0 w g b op R hy h hl he (by omega)
  · exact reply_e w0 w g b op R hy h hl he
theorem built_rep0 : Try.prog.built 32 [] = some (rpC rp0 (.slice none 0 0) (.slice none 0 0) (.slice none 0 0) (.slice none 0 0)).toArray := by kernel_rfl
set_option maxRecDepth 100000 in
set_option maxHeartbeats 4000000 in
theorem decodeRD_any (w : World) (raw : List Int) (hy : Bys raw) (b o cap : Nat) (hS : Src w (some ⟨b, o, none⟩) cap raw) (hl : raw.length ≤ 140737488351234) (op : Int) (h0 : -9223372036854775808 ≤ op) (h1 : op ≤ 9223372036854775807) :
    Calls Try.prog 7 #[.int .i64 op, .slice (some ⟨b, o, none⟩) raw.length cap] w fun e w' => ∃ vv rv lv cv, e = .returned (.tuple #[.agg (rpC ((dcP op raw).getD rp0) vv rv lv cv).toArray, .int .i64 (ecode (dcP op raw))]) ∧ (∃ ml mc, RpO w' w.heap.size ((dcP op raw).getD rp0) vv rv lv cv ml mc ∧ Sd vv rv ml mc ∧ DjM ml ∧ DjM mc) ∧ Below w.heap.size w w' := by
  have hlow : Below w.heap.size w ((w.alloc (.cells (rpC rp0 (.slice none 0 0) (.slice none 0 0) (.slice none 0 0) (.slice none 0 0)).toArray 32)).alloc (.cells #[.slice (some ⟨b, o, none⟩) raw.length cap, .bool false] 78)) := ((Below.refl _ _).alloc (Nat.le_refl _) _).alloc (by simp) _
  have hr1 := hold (o := .cells #[.slice (some ⟨b, o, none⟩) raw.length cap, .bool false] 78) (hnew w (.cells (rpC rp0 (.slice none 0 0) (.slice none 0 0) (.slice none 0 0) (.slice none 0 0)).toArray 32))
  have hg1 := hnew (w.alloc (.cells (rpC rp0 (.slice none 0 0) (.slice none 0 0) (.slice none 0 0) (.slice none 0 0)).toArray 32)) (.cells #[.slice (some ⟨b, o, none⟩) raw.length cap, .bool false] 78)
  have hz : (w.alloc (.cells (rpC rp0 (.slice none 0 0) (.slice none 0 0) (.slice none 0 0) (.slice none 0 0)).toArray 32)).heap.size = w.heap.size + 1 := by simp
  rw [hz] at hg1
  have hK : RK w _ (w.heap.size + 1) b ⟨raw, false⟩ := ⟨hlow, by omega, o, cap, hg1, hS⟩
  have KR := hid (reply_any w _ _ b op ⟨raw, false⟩ hy hK hl)
  have hz2 : ((w.alloc (.cells (rpC rp0 (.slice none 0 0) (.slice none 0 0) (.slice none 0 0) (.slice none 0 0)).toArray 32)).alloc (.cells #[.slice (some ⟨b, o, none⟩) raw.length cap, .bool false] 78)).heap.size = w.heap.size + 2 := by simp
  have HD := hid (show dcP op raw = if (knO op && (!(rpP op ⟨raw, false⟩).2.wrong && (rpP op ⟨raw, false⟩).2.rest.isEmpty)) = true then some (rpP op ⟨raw, false⟩).1 else none from rfl)
  generalize dcP op raw = D at *
  generalize rpP op ⟨raw, false⟩ = rR at *
  obtain ⟨r, R⟩ := rR
  simp only at KR HD
  clear hz hg1 hK
  obtain ⟨u1, u2, u3⟩ := repSizes (vv := .slice none 0 0) (rv := .slice none 0 0) (lv := .slice none 0 0) (cv := .slice none 0 0) rp0_L
  have U1 := hid u1
  have U2 := hid u2
  clear u1 u2 u3
  go_enter Try.func7, Try.ntmps7
  go_wp2_with (first | (refine wpList_allocV allocRep rfl rfl ?_))
  refine KR.out.mono ?_
  clear KR
  generalize ((w.alloc (.cells (rpC rp0 (.slice none 0 0) (.slice none 0 0) (.slice none 0 0) (.slice none 0 0)).toArray 32)).alloc (.cells #[.slice (some ⟨b, o, none⟩) raw.length cap, .bool false] 78)) = w1 at *
  rintro e w2 ⟨vv, rv, lv, cv, rfl, ⟨ml, mc, O2, SD2, DL2, DC2⟩, hK2, hk2⟩
  replace SD2 := hid SD2
  replace DL2 := hid DL2
  replace DC2 := hid DC2
  have hr2 := hk2.heap hr1 (by omega)
  obtain ⟨y1, y2, y3⟩ := repSizes (vv := vv) (rv := rv) (lv := lv) (cv := cv) O2.l
  have Y1 := hid y1
  have Y2 := hid y2
  have Y3 := hid y3
  have Y4 := hid O2.one
  clear y1 y2 y3
  go_wp2_with (first | (refine wpList_allocV allocRep rfl rfl ?_) | (refine wpList_storeRowW rfl 32 _ _ rfl w2.heap.size (rpC r vv rv lv cv) rfl rfl 32 _ (hnew w2 (.cells (rpC rp0 (.slice none 0 0) (.slice none 0 0) (.slice none 0 0) (.slice none 0 0)).toArray 32)) Y2.out Y3.out Y4.out ?_; intro w3 hv3 hk3; refine Hid.out ?_))
  refine hid ?_
  have hb3 : Below w2.heap.size w2 w3 := ((Below.refl w2.heap.size w2).alloc (Nat.le_refl _) _).trans (hk3.below_g (Nat.le_refl _) (by simp))
  have hr3 := hbel hb3 hr2 (hlt hr2)
  have hK3 := hK2.keep (hb3.mono hK2.lt)
  have hB3 : Below w.heap.size w w3 := hlow.trans (((hk2.trans_b hb3).below_g (by omega) (by omega)))
  have O3 := (O2.below hb3 (Nat.le_refl _)).lower (show w.heap.size ≤ w1.heap.size by omega)
  clear hk2 hr2 hK2 hlow hr1 O2 hk3 hb3
  go_wp2_with fail
  refine (shapeOf_any w3 op h0 h1).mono ?_
  rintro e w4 ⟨rfl, hb4⟩
  have hr4 := hbel hb4 hr3 (hlt hr3)
  have hv4 := hbel hb4 hv3 (hlt hv3)
  have hK4 := hK3.keep (hb4.mono hK3.lt)
  have hB4 := hB3.trans (hb4.mono hB3.size)
  have O4 := O3.below hb4 (Nat.le_refl _)
  clear hr3 hv3 hK3 hB3 O3 hb4
  go_wp2_with (first | (refine wpList_storeRowW rfl 81 _ _ rfl w4.heap.size (shC (shO op)) rfl rfl 81 _ (hnew w4 (.cells (shC sh0).toArray 81)) Try.sizeSh rfl (shC_one _) ?_; intro w5 hs5 hk5; refine Hid.out ?_))
  refine hid ?_
  have hb5 : Below w4.heap.size w4 w5 := ((Below.refl w4.heap.size w4).alloc (Nat.le_refl _) _).trans (hk5.below_g (Nat.le_refl _) (by simp))
  have hr5 := hid (hbel hb5 hr4 (hlt hr4))
  have hv5 := hid (hbel hb5 hv4 (hlt hv4))
  have hK5 := hK4.keep (hb5.mono hK4.lt)
  have hB5 := hB4.trans (hb5.mono hB4.size)
  have O5 := O4.below hb5 (Nat.le_refl _)
  have KD := hid (done_any w _ _ b R hK5)
  have BR := hid built_rep0
  clear hr4 hv4 hK4 hB4 O4 hb5 hk5 hs5 hK5
  cases hkn : knO op
  · have HN := hid (show D = none by rw [HD.out, hkn]; rfl)
    clear hkn
    go_wp2_with (first | (refine wpList_built (by rfl) 32 _ rfl [] rfl _ BR.out ?_) | (refine wpList_storeRowW rfl 32 _ _ rfl w.heap.size (rpC rp0 (.slice none 0 0) (.slice none 0 0) (.slice none 0 0) (.slice none 0 0)) rfl rfl 32 _ hr5.out U2.out rfl rp0_one ?_; intro wz hrz hkz))
    refine bodyPost_ret (results_c2 Try.results7 _ _ w.heap.size 32 _ (0, 0) _ rfl hrz Try.underlying32 rfl U1.out) rfl ?_
    obtain rfl : D = none := HN.out
    exact ⟨_, _, _, _, rfl, ⟨_, _, RpO.zero _ _, (by first | exact Or.inl ⟨rfl, rfl, rfl⟩ | exact Or.inr (Or.inl ⟨rfl, rfl, rfl⟩) | exact Or.inr (Or.inr (Or.inl ⟨rfl, rfl, rfl⟩)) | exact Or.inr (Or.inr (Or.inr ⟨rfl, rfl, rfl⟩))), DjM.nil, DjM.nil⟩, hB5.trans (hkz.below_g (Nat.le_refl _) hB5.size)⟩
  · cases hdn : (!R.wrong && R.rest.isEmpty)
    · have HN := hid (show D = none by rw [HD.out, hkn, hdn]; rfl)
      rw [hdn] at KD
      clear hkn hdn
      go_wp2_with (first | (go_at_call 28; refine KD.out.mono ?_; rintro e w' ⟨rfl, rfl⟩) | (refine wpList_built (by rfl) 32 _ rfl [] rfl _ BR.out ?_) | (refine wpList_storeRowW rfl 32 _ _ rfl w.heap.size (rpC rp0 (.slice none 0 0) (.slice none 0 0) (.slice none 0 0) (.slice none 0 0)) rfl rfl 32 _ hr5.out U2.out rfl rp0_one ?_; intro wz hrz hkz))
      refine bodyPost_ret (results_c2 Try.results7 _ _ w.heap.size 32 _ (0, 0) _ rfl hrz Try.underlying32 rfl U1.out) rfl ?_
      obtain rfl : D = none := HN.out
      exact ⟨_, _, _, _, rfl, ⟨_, _, RpO.zero _ _, (by first | exact Or.inl ⟨rfl, rfl, rfl⟩ | exact Or.inr (Or.inl ⟨rfl, rfl, rfl⟩) | exact Or.inr (Or.inr (Or.inl ⟨rfl, rfl, rfl⟩)) | exact Or.inr (Or.inr (Or.inr ⟨rfl, rfl, rfl⟩))), DjM.nil, DjM.nil⟩, hB5.trans (hkz.below_g (Nat.le_refl _) hB5.size)⟩
    · have HN := hid (show D = some r by rw [HD.out, hkn, hdn]; rfl)
      rw [hdn] at KD
      clear hkn hdn
      go_wp2_with (first | (go_at_call 28; refine KD.out.mono ?_; rintro e w' ⟨rfl, rfl⟩) | (refine wpList_load_row rfl 32 _ rfl w2.heap.size rfl 32 _ (0, 0) _ hv5.out Try.underlying32 rfl Y1.out ?_) | (refine wpList_storeRowW rfl 32 _ _ rfl w.heap.size (rpC r vv rv lv cv) rfl rfl 32 _ hr5.out Y2.out Y3.out Y4.out ?_; intro wz hrz hkz))
      refine bodyPost_ret (results_c2 Try.results7 _ _ w.heap.size 32 _ (0, 0) _ rfl hrz Try.underlying32 rfl Y1.out) rfl ?_
      obtain rfl : D = some r := HN.out
      exact ⟨_, _, _, _, rfl, ⟨_, _, O5.far hr5.out hkz, SD2.out, DL2.out, DC2.out⟩, hB5.trans (hkz.below_g (Nat.le_refl _) hB5.size)⟩
theorem decodeR_any (w : World) (raw : List Int) (hy : Bys raw) (b o cap : Nat) (hS : Src w (some ⟨b, o, none⟩) cap raw) (hl : raw.length ≤ 140737488351234) (op : Int) (h0 : -9223372036854775808 ≤ op) (h1 : op ≤ 9223372036854775807) :
    Calls Try.prog 7 #[.int .i64 op, .slice (some ⟨b, o, none⟩) raw.length cap] w fun e w' => ∃ vv rv lv cv, e = .returned (.tuple #[.agg (rpC ((dcP op raw).getD rp0) vv rv lv cv).toArray, .int .i64 (ecode (dcP op raw))]) ∧ (∃ ml mc, RpO w' w.heap.size ((dcP op raw).getD rp0) vv rv lv cv ml mc) ∧ Below w.heap.size w w' :=
  (decodeRD_any w raw hy b o cap hS hl op h0 h1).mono fun e w' ⟨vv, rv, lv, cv, a1, ⟨ml, mc, a2, _⟩, a3⟩ => ⟨vv, rv, lv, cv, a1, ⟨ml, mc, a2⟩, a3⟩
end Go.Proofs.Ytenfklcgkfaajaa
