import Derived.Test.YtaefjlbonflmdaaDoorNf
import Derived.Lib.LazyBuf
namespace Go.Proofs.YtaefjlbonflmdaaDoor
set_option linter.unusedVariables false
set_option linter.unusedSimpArgs false
open Go.RowKit
attribute [local go_sem ↓] Go.wp_at_zero Go.wp_at_succ

theorem own_emptyN {w : World} {base g : Nat} (h : w.heap[g]? = some (.cells #[] 5 (0, 0))) (hg : base ≤ g) : Own w base (.slice (some ⟨g, 0, none⟩) 0 0) [] :=
  ⟨rfl, Or.inr ⟨g, 0, #[], rfl, hg, h, Nat.le_refl _, by simp [maxLen], rfl, rfl⟩⟩
set_option maxRecDepth 100000 in
set_option maxHeartbeats 400000 in
theorem clone_any (w : World) (l : List Int) (a : Addr) (cap : Nat) (hS : Src w (some a) cap l) (hl : l.length ≤ 1000) :
    Calls Tryd.prog 85 #[.slice (some a) l.length cap] w fun e w' => ∃ v, e = .returned v ∧ Own w' w.heap.size v l ∧ Below w.heap.size w w' := by
  have hr1 := hnew w (.cells #[] 5)
  have hO1 : Own (w.alloc (.cells #[] 5)) w.heap.size (.slice (some ⟨w.heap.size, 0, none⟩) 0 0) [] := own_emptyN hr1 (Nat.le_refl _)
  have hB1 := below_new w (.cells #[] 5)
  have hS1 := hS.below hB1 (Nat.le_refl _)
  have KL := hid (show ([] : List Int).length + l.length ≤ 140737488351232 by simp; omega)
  have hN : (binOp .eql 29 (.slice (some a) l.length cap) (.slice none 0 0)).run Tryd.prog w = .ok (.bool false) w := run_eql_slice_nil w 29 5 (some a) l.length cap Tryd.underlying29
  clear hr1
  go_enter Tryd.func85, Tryd.ntmps85
  go_wp2_with (first
    | (refine wpList_append_wide rfl (.tmp 5) (.tmp 6) rfl w.heap.size _ [] l rfl hO1 (some a) cap rfl (fun h => by cases h) hS1 KL.out hB1.size ?_; intro v2 w2 hO2 hg2 hb2))
  have hB2 := grown_keeps hg2 (fun k hk => (hO1.block k hk).1) hB1.size
  rw [List.nil_append] at hO2
  clear hg2 hb2
  go_wp2
  go_ret
  exact ⟨_, rfl, hO2, hB1.trans hB2⟩
theorem Src.mid {w : World} {b o cap : Nat} {r : List Int} (hS : Src w (some ⟨b, o, none⟩) cap r) (k n : Nat) (h : k + n ≤ r.length) (hb : b < w.heap.size) (c : Nat) (hc1 : n ≤ c) (hc2 : c ≤ maxLen) : Src w (some ⟨b, o + k, none⟩) c ((r.drop k).take n) := by
  obtain ⟨h1, h2, b', o', h3, h4, h5⟩ := hS
  have hl : ((r.drop k).take n).length = n := by simp; omega
  refine ⟨by omega, hc2, b, o + k, fun _ => hb, fun _ => rfl, fun j hj => ?_⟩
  have he := h4 (by omega)
  cases he
  have := h5 (k + j) (by omega)
  rw [Nat.add_assoc, this, List.getD_eq_getElem?_getD, List.getD_eq_getElem?_getD, List.getElem?_take, if_pos (by omega), List.getElem?_drop]
theorem Own.base {w : World} {B B' : Nat} {v : Value} {zs : List Int} (h : Own w B v zs) (hB : B' ≤ B) : Own w B' v zs := by
  refine ⟨h.1, ?_⟩
  rcases h.2 with h2 | ⟨g, cap, cur, rfl, hg, r⟩
  · exact Or.inl h2
  · exact Or.inr ⟨g, cap, cur, rfl, by omega, r⟩
set_option maxRecDepth 100000 in
set_option maxHeartbeats 1000000 in
theorem unpack_ok (w : World) (p : Int) (r : List Int) (h8 : Byts r) (hp : placeOk p = true) (hl : r.length = 256) (hC : feed ones r = CR) (sp : Option Addr) (cap : Nat) (hS : Src w sp cap r) :
    Calls Tryd.prog 65 #[.int .i64 p, .slice sp 256 cap] w fun e w' => ∃ v, e = .returned (.tuple #[.int .i64 (unpackF p r).1, v, .int .i64 (unpackF p r).2.2]) ∧ Own w' w.heap.size v (unpackF p r).2.1 ∧ Below w.heap.size w w' := by
  have hS' := hS
  obtain ⟨hc, hm, b, o, hb, hsp, hsrc⟩ := hS
  obtain rfl := hsp (by omega)
  replace hb := hb (by omega)
  have i1 : 256 ≤ cap := by omega
  have i2 : (256 : Int) ≤ (cap : Int) := by omega
  have hw := whole_L w r h8 (by omega) (some ⟨b, o, none⟩) cap hS'
  rw [hl] at hw
  have HP := hid hp
  have HL := hid hl
  have HC := hid hC
  have g0 := h8 (r.getD 0 0) (by rw [List.getD_eq_getElem?_getD, List.getElem?_eq_getElem (by omega)]; exact List.getElem_mem _)
  have g1 := h8 (r.getD 1 0) (by rw [List.getD_eq_getElem?_getD, List.getElem?_eq_getElem (by omega)]; exact List.getElem_mem _)
  have HU := hid (show unpackF p r = (if kindOk (r.getD 0 0) = false then (0, [], 50) else if 246 < r.getD 1 0 then (0, [], 51)
  else if (le ((r.drop 2).take 4) : Int) ≠ p then (0, [], 54)
  else if (r.drop (6 + (r.getD 1 0).toNat)).take (246 - (r.getD 1 0).toNat) ≠ List.replicate (246 - (r.getD 1 0).toNat) 0 then (0, [], 53)
  else (r.getD 0 0, (r.drop 6).take (r.getD 1 0).toNat, 0)) by
    rw [unpackF, if_neg (by simp [hp]), if_neg (by simp [hl]), if_neg (by simp [hC])])
  have c0' := hsrc 0 (by omega)
  have c1' := hsrc 1 (by omega)
  rw [Nat.add_zero] at c0'
  have h24 : ((r.drop 2).take 4).length = 4 := by simp [hl]
  obtain ⟨k, hk⟩ : ∃ k, k = r.getD 0 0 := ⟨_, rfl⟩
  obtain ⟨n, hn⟩ : ∃ n : Nat, (n : Int) = r.getD 1 0 := ⟨(r.getD 1 0).toNat, by omega⟩
  rw [← hk] at g0 HU c0'
  rw [← hn] at g1 HU c1'
  rw [Int.toNat_natCast] at HU
  clear hk hn hp hC
  go_enter Tryd.func65, Tryd.ntmps65
  go_wp2_with fail
  refine (isPlace_any w p).mono ?_
  rintro e w1 ⟨rfl, rfl⟩
  rw [HP.out]
  clear hl
  go_wp2_with fail
  refine hw.mono ?_
  rintro e w2 ⟨rfl, b2⟩
  rw [HC.out, show (decide (CR = CR)) = true from by simp]
  have c0 := (b2.cell (p := ⟨b, o, none⟩) hb).trans c0'
  have c1 := (b2.cell (p := ⟨b, o + 1, none⟩) hb).trans c1'
  have hb2 : b < w2.heap.size := Nat.lt_of_lt_of_le hb b2.size
  have hS2 := hS'.below b2 (Nat.le_refl _)
  clear c0' c1' hw hsrc
  go_wp2_with fail
  go_quiet (fail)
  have b3 : Below w1.heap.size w1 (w2.drewN nq) := below_drewN b2 nq
  have hS3 : Src (w2.drewN nq) (some ⟨b, o, none⟩) cap r := hS2
  have hb3 : b < (w2.drewN nq).heap.size := hb2
  generalize w2.drewN nq = w3 at *
  clear b2 hS2 hb2 c0 c1
  go_wp2_with fail
  refine (isKind_any w3 k).mono ?_
  rintro e w4 ⟨rfl, rfl⟩
  cases hk : kindOk k
  · have HF := hid (show unpackF p r = (0, [], 50) by rw [HU.out, if_pos hk])
    clear HU
    go_wp2
    go_ret3
    exact ⟨_, by rw [HF.out]; rfl, by rw [HF.out]; exact Own.nil _ _, b3⟩
  have HK := hid hk
  clear hk
  by_cases hn : 246 < n
  · have HF := hid (show unpackF p r = (0, [], 51) by rw [HU.out, if_neg (by simp [HK.out]), if_pos (by omega)])
    clear HU
    have i3 : (246 : Int) < (n : Int) := by omega
    go_wp2
    go_ret3
    exact ⟨_, by rw [HF.out]; rfl, by rw [HF.out]; exact Own.nil _ _, b3⟩
  have i3 : (n : Int) ≤ 246 := by omega
  have hrd := read_any w4 ((r.drop 2).take 4) ((h8.drop 2).take 4) (by omega) (some ⟨b, o + 2, none⟩) (cap - 2) (hS3.mid 2 4 (by have := HL.out; omega) hb3 _ (by omega) (by omega))
  have hlt4 := le_lt ((r.drop 2).take 4) ((h8.drop 2).take 4)
  rw [h24] at hrd hlt4
  have hW := wrap_i64_id (le ((r.drop 2).take 4) : Int) (by omega) (by omega)
  rw [hW] at hrd
  clear hW
  go_wp2_with fail
  refine hrd.mono ?_
  rintro e w5 ⟨rfl, b5⟩
  have b5' := b3.trans (b5.mono b3.size)
  have hS5 := hS3.below b5 (Nat.le_refl _)
  have hb5 : b < w5.heap.size := Nat.lt_of_lt_of_le hb3 b5.size
  clear hrd b5 b3 hS3 hb3
  obtain ⟨q, hq⟩ : ∃ q : Int, q = (le ((r.drop 2).take 4) : Int) := ⟨_, rfl⟩
  rw [← hq] at HU ⊢
  clear hq hlt4
  by_cases hqp : q = p
  · subst hqp
    have i4 : (n : Int) + 6 ≤ 252 := by omega
    have hlz : ((r.drop (6 + n)).take (246 - n)).length = 252 - (6 + n) := by have := HL.out; simp; omega
    have hz := allZero_any w5 ((r.drop (6 + n)).take (246 - n)) (some ⟨b, o + (6 + n), none⟩) (cap - (6 + n)) (hS5.mid (6 + n) (246 - n) (by have := HL.out; omega) hb5 _ (by omega) (by omega))
    rw [hlz] at hz
    go_wp2_with fail
    refine hz.mono ?_
    rintro e w6 ⟨rfl, b6⟩
    have b6' := b5'.trans (b6.mono b5'.size)
    have hS6 := hS5.below b6 (Nat.le_refl _)
    have hb6 : b < w6.heap.size := Nat.lt_of_lt_of_le hb5 b6.size
    clear hz b6 b5' hS5 hb5 hlz
    by_cases hzz : (r.drop (6 + n)).take (246 - n) = List.replicate (246 - n) 0
    · have HF := hid (show unpackF q r = (k, (r.drop 6).take n, 0) by rw [HU.out, if_neg (by simp [HK.out]), if_neg (by omega), if_neg (by simp), if_neg (by simp [hzz])])
      rw [show (decide ((r.drop (6 + n)).take (246 - n) = List.replicate (252 - (6 + n)) 0)) = true by rw [hzz]; simp; omega]
      clear HU hzz
      have hl6 : ((r.drop 6).take n).length = n := by have := HL.out; simp; omega
      have hcl := clone_any w6 ((r.drop 6).take n) ⟨b, o + 6, none⟩ (cap - 6) (hS6.mid 6 n (by have := HL.out; omega) hb6 _ (by omega) (by omega)) (by omega)
      rw [hl6] at hcl
      clear hl6
      go_wp2_with fail
      refine hcl.mono ?_
      rintro e w7 ⟨v, rfl, hO, b7⟩
      have b7' := b6'.trans (b7.mono b6'.size)
      have hO' : Own w7 w1.heap.size v ((r.drop 6).take n) := hO.base b6'.size
      clear hcl hO b7 b6' hS6
      go_wp2
      go_ret3
      exact ⟨_, by rw [HF.out]; rfl, by rw [HF.out]; exact hO', b7'⟩
    · have HF := hid (show unpackF q r = (0, [], 53) by rw [HU.out, if_neg (by simp [HK.out]), if_neg (by omega), if_neg (by simp), if_pos hzz])
      rw [show (decide ((r.drop (6 + n)).take (246 - n) = List.replicate (252 - (6 + n)) 0)) = false by rw [show 252 - (6 + n) = 246 - n by omega]; simpa using hzz]
      clear HU hzz
      go_wp2
      go_ret3
      exact ⟨_, by rw [HF.out]; rfl, by rw [HF.out]; exact Own.nil _ _, b6'⟩
  · have HF := hid (show unpackF p r = (0, [], 54) by rw [HU.out, if_neg (by simp [HK.out]), if_neg (by omega), if_pos hqp])
    clear HU
    have hqp2 : (q != p) = true := by simpa using hqp
    clear hqp
    go_wp2
    go_ret3
    exact ⟨_, by rw [HF.out]; rfl, by rw [HF.out]; exact Own.nil _ _, b5'⟩
set_option maxRecDepth 100000 in
set_option maxHeartbeats 400000 in
/-- Unpack, at every input. -/
theorem unpack_any (w : World) (p : Int) (r : List Int) (h8 : Byts r) (sp : Option Addr) (cap : Nat) (hS : Src w sp cap r) :
    Calls Tryd.prog 65 #[.int .i64 p, .slice sp r.length cap] w fun e w' => ∃ v, e = .returned (.tuple #[.int .i64 (unpackF p r).1, v, .int .i64 (unpackF p r).2.2]) ∧ Own w' w.heap.size v (unpackF p r).2.1 ∧ Below w.heap.size w w' := by
  have hlm : (r.length : Int) ≤ 9223372036854775807 := by have := hS.1; have := hS.2.1; unfold maxLen at this; omega
  cases hp : placeOk p
  · have HF := hid (show unpackF p r = (0, [], 54) by rw [unpackF, if_pos hp])
    clear hS
    go_enter Tryd.func65, Tryd.ntmps65
    go_wp2_with fail
    refine (isPlace_any w p).mono ?_
    rintro e w1 ⟨rfl, rfl⟩
    rw [hp]
    go_wp2
    go_ret3
    exact ⟨_, by rw [HF.out]; rfl, by rw [HF.out]; exact Own.nil _ _, Below.refl _ _⟩
  by_cases hl : r.length = 256
  · by_cases hC : feed ones r = CR
    · rw [hl]; exact unpack_ok w p r h8 hp hl hC sp cap hS
    · have HF := hid (unpack_sum p r hp hl hC)
      have hw := whole_L w r h8 (by omega) sp cap hS
      rw [show decide (feed ones r = CR) = false by simpa using hC] at hw
      rw [hl] at hw ⊢
      clear hS hl hlm hC
      go_enter Tryd.func65, Tryd.ntmps65
      go_wp2_with fail
      refine (isPlace_any w p).mono ?_
      rintro e w1 ⟨rfl, rfl⟩
      rw [hp]
      go_wp2_with fail
      refine hw.mono ?_
      rintro e w2 ⟨rfl, b2⟩
      go_wp2
      go_ret3
      exact ⟨_, by rw [HF.out]; rfl, by rw [HF.out]; exact Own.nil _ _, b2⟩
  · have HF := hid (show unpackF p r = (0, [], 53) by rw [unpackF, if_neg (by simp [hp]), if_pos hl])
    have hl2 : ((r.length : Int) != 256) = true := by simp; omega
    clear hS hl
    go_enter Tryd.func65, Tryd.ntmps65
    go_wp2_with fail
    refine (isPlace_any w p).mono ?_
    rintro e w1 ⟨rfl, rfl⟩
    rw [hp]
    go_wp2
    go_ret3
    exact ⟨_, by rw [HF.out]; rfl, by rw [HF.out]; exact Own.nil _ _, Below.refl _ _⟩
end Go.Proofs.YtaefjlbonflmdaaDoor
