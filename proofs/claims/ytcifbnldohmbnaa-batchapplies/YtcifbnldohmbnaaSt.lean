import Derived.Test.YtcifbnldohmbnaaSq
namespace Go.Proofs.Ytcifbnldohmbnaa
set_option linter.unusedVariables false
set_option linter.unusedSimpArgs false
open Go.RowKit
attribute [local go_sem ↓] Go.wp_at_zero Go.wp_at_succ

theorem take_set_snoc (os : List MC) (k : Nat) (m : MC) (hk : k < os.length) : (os.set k m).take (k + 1) = os.take k ++ [m] := by
  rw [List.take_succ_eq_append_getElem (by simpa using hk), List.getElem_set_self, List.take_set_of_le (Nat.le_refl _)]
theorem set_set_eq (os : List MC) (k : Nat) (m m2 : MC) : (os.set k m).set k m2 = os.set k m2 := by simp
theorem getD_set_eq (os : List MC) (k : Nat) (m : MC) (hk : k < os.length) : (os.set k m).getD k dM = m := by
  rw [List.getD_eq_getElem?_getD, List.getElem?_set_self hk]; rfl
set_option maxRecDepth 100000 in
set_option maxHeartbeats 1000000 in
theorem copies_any (w : World) (cs : List Chg) (sp : Option Addr) (cap b o : Nat) (ms : List MC) (hC : Chs w sp cap cs b o ms) (hok : ∀ c ∈ cs, OkC c) (hlen : cs.length ≤ 2199023255488) :
    Calls Try.prog 44 #[.slice sp cs.length cap] w fun e w' => e = .returned (.slice (some ⟨w.heap.size, 0, none⟩) cs.length cs.length) ∧ ∃ os, OwnM w' w.heap.size (.slice (some ⟨w.heap.size, 0, none⟩) cs.length cs.length) os ∧ OwnV w' w.heap.size os (cs.map plainC) ∧ Below w.heap.size w w' := by
  have hm := hC.mx
  have hle := hC.le
  unfold maxLen at hm
  have i0 : (cs.length : Int) ≤ 9223372036854775807 := by omega
  obtain ⟨ic, z, hi5, hz5, hzc, hs5, hy5⟩ := Try.infoZ
  have HI := hid hi5
  have K1 := hid (show ic.bytes * cs.length ≤ 281474976710656 by rw [hy5]; omega)
  have K2 := hid (show cs.length ≤ maxLen by unfold maxLen; omega)
  have HC := hid hzc
  obtain ⟨Z, hZ⟩ : ∃ Z, Z = encM dM := ⟨_, rfl⟩
  have SZ := hid (show Z.toArray.size = 34 by rw [hZ]; simpa using encD_len)
  have HZ := hid hZ
  clear hi5 hy5 hzc hZ
  go_enter Try.func44, Try.ntmps44
  go_wp2_with (first
    | (refine wpList_make_full _ rfl _ _ 29 rfl w.heap.size 40 ic z 34 Try.underlying29 HI.out hz5 hs5 .i64 .i64 _ _ cs.length rfl rfl rfl rfl K1.out K2.out (Nat.le_refl _) ?_; intro w1 hO1 hg1; have hB1 := grown_keeps hg1 (fun k hk => by cases hk) (Nat.le_refl w.heap.size); rw [HC.out] at hO1; have hr1 := made_rowM hO1; clear hg1 hO1))
  clear K1 HI HC hz5 hs5
  generalize hM : w.heap.size = M at *
  have HM := hid hM
  clear hM
  go_loopw [11] (fun iv wr => ∃ (k : Nat) (os : List MC), k ≤ cs.length ∧ iv = .int .i64 k ∧ os.length = cs.length ∧ Len34 os ∧ RowM wr M os ∧ OwnV wr M (os.take k) ((cs.take k).map plainC) ∧ Below M w wr) (fun iv _ => cs.length - (intOf iv).toNat)
  case atStart => exact ⟨0, List.replicate cs.length dM, by omega, rfl, by simp, len34_rep _, hr1, ⟨rfl, fun i hi => by simp at hi⟩, hB1⟩
  case round =>
    clear hr1 hB1
    obtain ⟨k, os, hk, rfl, hol, hl34, hr, hV, hB⟩ := hrel
    have HOL := hid hol
    clear hol
    by_cases hlt : k < cs.length
    · have i1 : (k : Int) < (cs.length : Int) := by omega
      obtain ⟨hb, rfl⟩ := hC.pos (by omega)
      have hbM : b < M := by rw [← HM.out]; exact hb
      have rg := rng_below (hC.rd k hlt) hB hbM
      have hs := hC.says.2 k hlt
      have hoc : OkC (cs.getD k dC) := hok _ (by rw [List.getD_eq_getElem?_getD, List.getElem?_eq_getElem hlt]; exact List.getElem_mem hlt)
      have HTK := hid (show (cs.take (k + 1)).map plainC = (cs.take k).map plainC ++ [plainC (cs.getD k dC)] by rw [take_snoc cs k hlt]; simp)
      have HTO := hid (fun m => take_set_snoc os k m (by rw [HOL.out]; exact hlt))
      have hMk : M < wr.heap.size := hlt_ hr
      have oo := hs.one
      have lm := hs.len
      have SO := hid (show (encM (ms.getD k dM)).toArray.size = 34 by simpa using hs.len)
      have hio : (Try.prog.info? 40).map (·.size) = some (encM (ms.getD k dM)).length := by rw [chgSize, hs.len]
      have hB2 : Below M w (wr.alloc (.cells (encM (ms.getD k dM)).toArray 40)) := hB.alloc (by omega) _
      have hr2 : RowM (wr.alloc (.cells (encM (ms.getD k dM)).toArray 40)) M os := hold hr
      have hV2 := hV.below ((Below.refl wr.heap.size wr).alloc (Nat.le_refl _) (.cells (encM (ms.getD k dM)).toArray 40))
      have g1 := hnew wr (.cells (encM (ms.getD k dM)).toArray 40)
      have hk1 : (ms.getD k dM).key.length = 32 := by rw [hs.1, hs.2.1]
      have rk := enc_row g1 hk1
      have hik : (Try.prog.info? 24).map (·.size) = some (ints .u8 (ms.getD k dM).key).length := by rw [keySize, ints_len, hk1]
      have c1 := enc_del hs g1
      have lm2 : (encM ⟨(ms.getD k dM).key, (cs.getD k dC).del, .slice none 0 0⟩).length = 34 := by rw [encM, List.length_append, ints_len, hk1]; rfl
      have om2 : ∀ v ∈ encM ⟨(ms.getD k dM).key, (cs.getD k dC).del, .slice none 0 0⟩, v.oneCell' = true := by
        intro v hv
        rcases List.mem_append.1 hv with h1 | h1
        · exact ints_one _ _ v h1
        · simp at h1; rcases h1 with rfl | rfl <;> rfl
      have SO2 := hid (show (encM ⟨(ms.getD k dM).key, (cs.getD k dC).del, .slice none 0 0⟩).toArray.size = 34 by simpa using lm2)
      obtain ⟨r3, b3, o3⟩ := hr2.put hl34 k (by rw [HOL.out]; exact hlt) _ lm2 om2
      have ht := hr2.there hl34 k (by rw [HOL.out]; exact hlt)
      have a3 := (o3 wr.heap.size (by omega)).trans g1
      have hB3 : Below M w ((wr.alloc (.cells (encM (ms.getD k dM)).toArray 40)).setCells M (k * 34) (encM ⟨(ms.getD k dM).key, (cs.getD k dC).del, .slice none 0 0⟩)) := hB2.trans (b3 M (Nat.le_refl _))
      have hV3 : OwnV ((wr.alloc (.cells (encM (ms.getD k dM)).toArray 40)).setCells M (k * 34) (encM ⟨(ms.getD k dM).key, (cs.getD k dC).del, .slice none 0 0⟩)) M (os.take k) ((cs.take k).map plainC) := hV2.of_heap fun q x hx => o3 q (fun e => by subst e; exact ne_of_type hx hr2 (by decide) rfl)
      have l3 := hl34.set k _ lm2
      have d1 := enc_del hs a3
      have d2 := enc_val hs a3
      obtain ⟨e1, e2, e3, sp', cap', e4, e5, hsv⟩ := hs
      rw [e4] at d2
      have hS3 := (hsv.below hB3 (by rw [HM.out]; exact Nat.le_refl _))
      have hvl := hoc.2.2.2
      have E1 := hid e1
      have E2 := hid e2
      clear hV hV2 hr hB hsv e4 b3 o3 hoc e1 e2 e3
      generalize hw3 : (wr.alloc (.cells (encM (ms.getD k dM)).toArray 40)).setCells M (k * 34) (encM ⟨(ms.getD k dM).key, (cs.getD k dC).del, .slice none 0 0⟩) = w3 at *
      have HW3 := hid hw3
      clear hw3
      generalize ms.getD k dM = m at *
      generalize cs.getD k dC = c at *
      obtain ⟨mk, md, msv⟩ := m
      obtain ⟨ck, cd, cv⟩ := c
      simp only at *
      cases cd with
      | true =>
        go_wp2_with (first
          | refine wpList_allocZ rfl rfl Z HZ.out ?_
          | refine wpList_load_mid rfl 40 _ rfl b (o + k * 34) rfl _ _ rg Try.underlying40 rfl hio ?_
          | (refine wpList_store_row rfl 40 _ _ rfl _ _ rfl rfl 40 _ (by exact hnew _ _) (by rw [chgSize, SO.out]) (by rw [SO.out, SZ.out]) (all_oneCell_toArray oo) ?_; rw [setRow_alloc])
          | refine wpList_load_mid rfl 24 _ rfl wr.heap.size 0 rfl (ints .u8 mk) _ rk Try.underlying24 rfl hik ?_
          | refine wpList_build_del rfl (.tmp 19) (.tmp 21) rfl mk hk1 _ rfl rfl ?_
          | (refine wpList_store_mid rfl 40 _ _ rfl M (k * 34) _ rfl rfl (by rw [SO2.out]; exact ht) (by rw [chgSize, SO2.out]) (all_oneCell_toArray om2) ?_; rw [List.toList_toArray, HW3.out]))
        go_roundw
        case rel => exact ⟨k + 1, _, by omega, by go_num, by rw [List.length_set]; exact HOL.out, l3, r3, (by rw [HTK.out, HTO.out]; exact hV3.snoc E1.out E2.out rfl (Own.nil _ _)), hB3⟩
        case measure => simp [intOf]; omega
      | false =>
        have KC := hid (Clone_any w3 cv sp' cap' hS3 e5 hvl)
        go_wp2_with (first
          | refine wpList_allocZ rfl rfl Z HZ.out ?_
          | refine wpList_load_mid rfl 40 _ rfl b (o + k * 34) rfl _ _ rg Try.underlying40 rfl hio ?_
          | (refine wpList_store_row rfl 40 _ _ rfl _ _ rfl rfl 40 _ (by exact hnew _ _) (by rw [chgSize, SO.out]) (by rw [SO.out, SZ.out]) (all_oneCell_toArray oo) ?_; rw [setRow_alloc])
          | refine wpList_load_mid rfl 24 _ rfl wr.heap.size 0 rfl (ints .u8 mk) _ rk Try.underlying24 rfl hik ?_
          | refine wpList_build_del rfl (.tmp 19) (.tmp 21) rfl mk hk1 _ rfl rfl ?_
          | (refine wpList_store_mid rfl 40 _ _ rfl M (k * 34) _ rfl rfl (by rw [SO2.out]; exact ht) (by rw [chgSize, SO2.out]) (all_oneCell_toArray om2) ?_; rw [List.toList_toArray, HW3.out]))
        refine KC.out.mono ?_
        rintro e w4 ⟨v9, rfl, hO9, hb9⟩
        obtain ⟨sp9, cap9, rfl, _, _⟩ := id hO9.form
        have hM3 : M < w3.heap.size := hlt_ r3
        have r4 : RowM w4 M _ := hbel hb9 r3 hM3
        have hB4 : Below M w w4 := hB3.trans (hb9.mono (by omega))
        have hV4 := hV3.below hb9
        have hkl : k < (os.set k ⟨mk, false, .slice none 0 0⟩).length := by rw [List.length_set, HOL.out]; exact hlt
        have hgk := getD_set_eq os k ⟨mk, false, .slice none 0 0⟩ (by rw [HOL.out]; exact hlt)
        have cv9 := r4.cellv l3 k hkl (by rw [hgk]; exact hk1)
        have r5 := r4.putv l3 k hkl (.slice sp9 cv.length cap9) (by rw [hgk]; exact hk1)
        rw [hgk] at cv9 r5
        rw [set_set_eq] at r5
        simp only at cv9 r5
        have fz := frozen_of_row _ _ (k * 34 + 33) _ _ r4
        have l5 := hl34.set k ⟨mk, false, .slice sp9 cv.length cap9⟩ (by simp [encM, ints, hk1])
        have hB5 : Below M w (w4.setCell ⟨M, k * 34 + 33, none⟩ (.slice sp9 cv.length cap9)) := hB4.setCell (Nat.le_refl _) _
        have hV5 : OwnV (w4.setCell ⟨M, k * 34 + 33, none⟩ (.slice sp9 cv.length cap9)) M (os.take k) ((cs.take k).map plainC) := hV4.of_heap fun q x hx => heap_setCell_other _ _ _ _ (fun e => by simp only at e; subst e; exact ne_of_type hx r4 (by decide) rfl)
        have hO5 : Own (w4.setCell ⟨M, k * 34 + 33, none⟩ (.slice sp9 cv.length cap9)) M (.slice sp9 cv.length cap9) cv := (hO9.base (by omega)).of_heap fun q hq => heap_setCell_other _ _ _ _ (by show q ≠ M; have := (hO9.block q hq).1; omega)
        clear KC hb9 hO9 hV4 hB4 hgk hkl r4
        go_wp2
        go_roundw
        case rel => exact ⟨k + 1, _, by omega, by go_num, by rw [List.length_set]; exact HOL.out, l5, r5, (by rw [HTK.out, HTO.out]; exact hV5.snoc E1.out E2.out rfl hO5), hB5⟩
        case measure => simp [intOf]; omega
    · obtain rfl : k = cs.length := by omega
      rw [List.take_of_length_le (by rw [HOL.out]; exact Nat.le_refl _), List.take_length] at hV
      have hO := hr.own (base := M) hl34 (Nat.le_refl _) (by rw [HOL.out]; unfold maxLen; omega)
      rw [HOL.out] at hO
      clear hlt
      go_wp2
      go_ret
      rw [HM.out]
      exact ⟨rfl, os, hO, hV, hB⟩
end Go.Proofs.Ytcifbnldohmbnaa
