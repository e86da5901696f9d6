import Derived.Test.YtbddndcdcicnaacDoorDc5
namespace Go.Proofs.YtbddndcdcicnaacDoor
set_option linter.unusedVariables false
set_option linter.unusedSimpArgs false
open Go.RowKit
attribute [local go_sem ↓] Go.wp_at_zero Go.wp_at_succ

def t600 : List Int := List.replicate 600 200
theorem own_in {w : World} {base g cap : Nat} {rest : List Value} {os : List Int} (h : In w g rest os) (hg : base ≤ g) (hc : os.length ≤ cap) (hm : cap ≤ maxLen) (hr : rest.length = cap - os.length) : Own w base (.slice (some ⟨g, 0, none⟩) os.length cap) os := by
  refine ⟨by rw [ints_len]; omega, Or.inr ⟨g, cap, _, rfl, hg, h, hc, hm, by simp [ints_len]; omega, ?_⟩⟩
  rw [Nat.mul_one]
  exact List.take_left' (ints_len _ _)
/-- Own's parts, with the spare room's size. -/
theorem Own.parts {w : World} {base : Nat} {v : Value} {zs : List Int} (h : Own w base v zs) : (v = .slice none 0 0 ∧ zs = []) ∨ ∃ g cap rest, v = .slice (some ⟨g, 0, none⟩) zs.length cap ∧ base ≤ g ∧ In w g rest zs ∧ zs.length ≤ cap ∧ cap ≤ maxLen ∧ rest.length = cap - zs.length := by
  obtain ⟨h1, ⟨rfl, hn⟩ | ⟨g, cap, cur, rfl, hg, hh, hc, hm, hs, ht⟩⟩ := h
  · exact Or.inl ⟨rfl, List.eq_nil_of_length_eq_zero hn⟩
  · refine Or.inr ⟨g, cap, cur.toList.drop zs.length, rfl, hg, ?_, hc, hm, by simp [hs]⟩
    unfold In
    rw [hh, ← ht, Nat.mul_one, List.take_append_drop]
set_option maxRecDepth 100000 in
set_option maxHeartbeats 400000 in
theorem roomy_any (w : World) (zs : List Int) (sp : Option Addr) (cap : Nat) (hS : Src w sp cap zs) (hlen : zs.length ≤ 140737488352000) :
    Calls Tryd.prog 6 #[.slice sp zs.length cap] w fun e w' => ∃ g uc rest, e = .returned (.tuple #[.slice (some ⟨g, 0, none⟩) zs.length uc, .slice (some ⟨g, 0, none⟩) (zs.length + 600) uc]) ∧ w.heap.size ≤ g ∧ In w' g rest (zs ++ t600) ∧ zs.length + 600 ≤ uc ∧ uc ≤ maxLen ∧ Below w.heap.size w w' := by
  have i0 : (zs.length : Int) ≤ 140737488352000 := by omega
  go_enter Tryd.func6, Tryd.ntmps6
  go_wp2_with fail
  refine (copied_any w zs sp cap hS (by omega)).mono ?_
  rintro e w1 ⟨v, rfl, hO1, b1⟩
  go_wp2
  go_loopw [4, 5] (fun v i wr => ∃ m : Nat, m ≤ 600 ∧ i = .int .i64 m ∧ Own wr w.heap.size v (zs ++ List.replicate m 200) ∧ Below w.heap.size w wr) (fun _ i _ => 600 - (intOf i).toNat)
  case atStart => exact ⟨0, by omega, rfl, by rw [List.replicate_zero, List.append_nil]; exact hO1, b1⟩
  case round =>
    clear hO1 b1
    obtain ⟨m, hm, rfl, hO, hB⟩ := hrel
    by_cases hlt : m < 600
    · have i1 : (m : Int) < 600 := by omega
      have HT := hid (show zs ++ List.replicate (m + 1) 200 = zs ++ List.replicate m 200 ++ [200] by rw [List.replicate_succ', List.append_assoc])
      have KL := hid (show (zs ++ List.replicate m 200).length + 1 ≤ 140737488355328 by simp; omega)
      generalize zs ++ List.replicate m 200 = tb at *
      go_wp2_with (first | (at_builtin; refine wpList_push_any rfl (.tmp 12) (.tmp 13) rfl w.heap.size _ _ 200 rfl hO rfl KL.out hB.size _ _ ?_; intro v2 w2 hO2 hB2))
      go_roundw
      case rel => exact ⟨m + 1, by omega, by go_num, (by rw [HT.out]; exact hO2), hB.trans hB2⟩
      case measure => simp [intOf]; omega
    · obtain rfl : m = 600 := by omega
      clear hlt
      have hO' : Own wr w.heap.size _ (zs ++ t600) := hO
      have HL : (zs ++ t600).length = zs.length + 600 := by simp [t600]
      rcases hO'.parts with ⟨_, h0⟩ | ⟨g, c1, rest, rfl, hg, hI, hc, hmm, hr⟩
      · rw [h0] at HL; simp at HL
      · rw [HL] at hc ⊢
        have i2 : (zs.length : Int) + 600 - 600 = (zs.length : Int) := by omega
        have i3 : (zs.length : Int) + 600 ≤ (c1 : Int) := by omega
        have i4 : (zs.length : Int) ≤ (c1 : Int) := by omega
        have i5 : zs.length ≤ c1 := by omega
        clear hO hO' hr
        go_wp2
        refine bodyPost_ret (results_tmp2 rfl _ _ _) rfl ?_
        exact ⟨g, c1, rest, rfl, hg, hI, hc, hmm, hB⟩
theorem In.head {w : World} {g : Nat} {rest : List Value} {xs ys : List Int} (h : In w g rest (xs ++ ys)) (cap : Nat) (hc : xs.length ≤ cap) (hm : cap ≤ maxLen) : Src w (some ⟨g, 0, none⟩) cap xs :=
  ⟨hc, hm, g, 0, fun _ => hlt h, fun _ => rfl, fun j hj => by
    rw [Nat.zero_add, h.cell j (by rw [List.length_append]; omega), List.getD_eq_getElem?_getD, List.getElem?_append_left hj, ← List.getD_eq_getElem?_getD]⟩
set_option maxRecDepth 100000 in
set_option maxHeartbeats 400000 in
theorem left_any (w : World) (xs : List Int) (g uc : Nat) (rest : List Value) (hI : In w g rest (xs ++ t600)) (huc : xs.length + 600 ≤ uc) (hum : uc ≤ maxLen) (sp : Option Addr) (cap : Nat) (hS : Src w sp cap xs) (hlen : xs.length ≤ 140737488352000) :
    Calls Tryd.prog 19 #[.slice sp xs.length cap, .slice (some ⟨g, 0, none⟩) (xs.length + 600) uc] w fun e w' => e = .returned (.bool true) ∧ Below w.heap.size w w' := by
  have i0 : (xs.length : Int) ≤ 140737488352000 := by omega
  have i1 : (xs.length : Int) + 600 - 600 = (xs.length : Int) := by omega
  have hl : (xs ++ t600).length = xs.length + 600 := by simp [t600]
  have hcl := hid (fun j (h1 : xs.length ≤ j) (h2 : j < xs.length + 600) => show (xs ++ t600).getD j 0 = 200 by
    rw [List.getD_eq_getElem?_getD, List.getElem?_append_right h1, t600, List.getElem?_replicate, if_pos (by omega)]; rfl)
  have hLq := hI.src uc (by rw [hl]; exact huc) hum
  have hH := hI.head uc (by omega) hum
  replace hl := hid hl
  go_enter Tryd.func19, Tryd.ntmps19
  go_wp2
  go_loopw [5] (fun i wr => ∃ m : Nat, m ≤ 600 ∧ i = .int .i64 (xs.length + m : Nat) ∧ Below w.heap.size w wr) (fun i _ => xs.length + 600 - (intOf i).toNat)
  case atStart => exact ⟨0, by omega, rfl, Below.refl _ _⟩
  case round =>
    obtain ⟨m, hm, rfl, hB⟩ := hrel
    by_cases hlt : m < 600
    · obtain ⟨q, hq⟩ : ∃ q, q = xs.length + m := ⟨_, rfl⟩
      rw [← hq]
      have j1 : (q : Int) < (xs.length : Int) + 600 := by omega
      have c0 : wr.cell? ⟨g, q, none⟩ = some (.int .u8 200) := by
        have := (hB.cell (p := ⟨g, q, none⟩) (_root_.Go.Proofs.YtbddndcdcicnaacDoor.hlt hI)).trans (hI.cell q (by rw [hl.out]; omega))
        rw [hcl.out q (by omega) (by omega)] at this
        exact this
      have Hq := hid hq
      clear hq
      go_wp2
      go_roundw
      case rel => exact ⟨m + 1, by omega, by have := Hq.out; rw [← Nat.add_assoc, ← this]; go_num, hB⟩
      case measure => have := Hq.out; simp [intOf]; omega
    · obtain rfl : m = 600 := by omega
      clear hlt
      have j1 : ¬ (((xs.length + 600 : Nat) : Int) < (xs.length : Int) + 600) := by omega
      have j2 : (xs.length : Int) ≤ (uc : Int) := by omega
      have j3 : xs.length ≤ uc := by omega
      have sm := same_any wr xs xs sp (some ⟨g, 0, none⟩) cap uc (hS.below hB (Nat.le_refl _)) (hH.below hB (Nat.le_refl _))
      rw [decide_eq_true rfl] at sm
      go_wp2_with fail
      refine sm.mono ?_
      rintro e w2 ⟨rfl, b2⟩
      have B2 := hB.trans (b2.mono hB.size)
      go_wp2
      go_ret
      exact ⟨rfl, B2⟩
theorem cell_of_block {w w' : World} {b o : Nat} (h : w'.heap[b]? = w.heap[b]?) : w'.cell? ⟨b, o, none⟩ = w.cell? ⟨b, o, none⟩ := by
  simp [World.cell?, h]
set_option maxRecDepth 100000 in
set_option maxHeartbeats 400000 in
theorem place_any (w : World) (zs ys : List Int) (g uc : Nat) (rest : List Value) (hI : In w g rest (zs ++ t600)) (hl : ys.length = zs.length) (b o : Nat) (sp : Option Addr) (cap : Nat) (hne : b ≠ g) (hsp : 0 < ys.length → sp = some ⟨b, o, none⟩) (hsrc : ∀ j, j < ys.length → w.cell? ⟨b, o + j, none⟩ = some (.int .u8 (ys.getD j 0))) (hlen : zs.length ≤ 140737488352000) :
    Calls Tryd.prog 9 #[.slice (some ⟨g, 0, none⟩) zs.length uc, .slice sp zs.length cap] w fun e w' => e = .returned (.tuple #[]) ∧ In w' g rest (ys ++ t600) ∧ Keeps g w w' := by
  have i0 : (zs.length : Int) ≤ 140737488352000 := by omega
  have Hl := hid hl
  clear hl
  go_enter Tryd.func9, Tryd.ntmps9
  go_wp2
  go_loopw [4] (fun i wr => ∃ n : Nat, n ≤ zs.length ∧ i = .int .i64 n ∧ In wr g rest (overTo ys zs n ++ t600) ∧ Keeps g w wr) (fun i _ => zs.length - (intOf i).toNat)
  case atStart => exact ⟨0, by omega, rfl, hI, Keeps.refl g w⟩
  case round =>
    clear hI
    obtain ⟨n, hn, rfl, hI, hK⟩ := hrel
    by_cases hlt : n < zs.length
    · have i1 : (n : Int) < (zs.length : Int) := by omega
      have hny : n < ys.length := by rw [Hl.out]; exact hlt
      obtain rfl := hsp (by omega)
      have c1 : wr.cell? ⟨b, o + n, none⟩ = some (.int .u8 (ys[n]?.getD 0)) := by
        have hc := hsrc n hny
        rw [List.getD_eq_getElem?_getD] at hc
        rw [← hc]
        have hb := block_lt_of_cell hc
        exact cell_of_block (hK.block b hb hne)
      have hl1 := overTo_len ys zs n Hl.out hn
      have hlT : n < (overTo ys zs n ++ t600).length := by rw [List.length_append, hl1]; omega
      have c0 := hI.cell n hlT
      have f0 : wr.frozen? ⟨g, n, none⟩ = false := frozen_of_row _ _ _ _ _ hI
      have hset := fun x => hI.set n x hlT
      have HS := hid (show (overTo ys zs n ++ t600).set n (ys[n]?.getD 0) = overTo ys zs (n + 1) ++ t600 by
        rw [List.set_append_left _ _ (by rw [hl1]; exact hlt), overTo_set _ _ _ Hl.out hlt])
      replace hl1 := hid hl1
      replace hlT := hid hlT
      replace hny := hid hny
      generalize ys[n]?.getD 0 = x at *
      generalize (overTo ys zs n ++ t600).getD n 0 = z at *
      go_wp2
      go_roundw
      case rel => exact ⟨n + 1, by omega, by go_num, (by rw [← HS.out]; exact hset x), hK.setCell _ _⟩
      case measure => simp [intOf]; omega
    · obtain rfl : n = zs.length := by omega
      clear hlt
      rw [overTo_all _ _ Hl.out] at hI
      go_wp2
      go_end0
      exact ⟨rfl, hI, hK⟩
/-- A text with one bit turned, in the byte k or the last one. -/
def othF (zs : List Int) (k : Nat) : List Int := if 0 < zs.length then zs.set (min k (zs.length - 1)) (((zs.getD (min k (zs.length - 1)) 0).toNat ^^^ 1 : Nat) : Int) else zs
theorem othF_len (zs : List Int) (k : Nat) : (othF zs k).length = zs.length := by unfold othF; split <;> simp
theorem othF_byts {zs : List Int} (h : Byts zs) (k : Nat) : Byts (othF zs k) := by
  unfold othF
  split
  · intro x hx
    rcases List.mem_or_eq_of_mem_set hx with h1 | h1
    · exact h x h1
    · have hb := getD_byte h (min k (zs.length - 1))
      have : (zs.getD (min k (zs.length - 1)) 0).toNat ^^^ 1 < 256 := Nat.xor_lt_two_pow (n := 8) (by omega) (by decide)
      rw [h1]; omega
  · exact h
set_option maxRecDepth 100000 in
set_option maxHeartbeats 400000 in
theorem other_any (w : World) (zs : List Int) (h8 : Byts zs) (sp : Option Addr) (cap : Nat) (hS : Src w sp cap zs) (hlen : zs.length ≤ 140737488352000) (k : Nat) (hk : k ≤ 140737488352000) :
    Calls Tryd.prog 8 #[.slice sp zs.length cap, .int .i64 k] w fun e w' => ∃ v, e = .returned v ∧ Own w' w.heap.size v (othF zs k) ∧ Below w.heap.size w w' := by
  have i0 : (zs.length : Int) ≤ 140737488352000 := by omega
  by_cases hp : 0 < zs.length
  · have HM := hid (show othF zs k = zs.set (min k (zs.length - 1)) (((zs.getD (min k (zs.length - 1)) 0).toNat ^^^ 1 : Nat) : Int) by unfold othF; rw [if_pos hp])
    have hb := getD_byte h8 (min k (zs.length - 1))
    have hi : min k (zs.length - 1) < zs.length := by omega
    have i1 : (0 : Int) < (zs.length : Int) := by omega
    have hq : ((zs.length : Int) - 1 < (k : Int) ∧ (zs.length : Int) - 1 = ((min k (zs.length - 1) : Nat) : Int)) ∨ (¬ ((zs.length : Int) - 1 < (k : Int)) ∧ (k : Int) = ((min k (zs.length - 1) : Nat) : Int)) := by omega
    replace hq := hid hq
    go_enter Tryd.func8, Tryd.ntmps8
    go_wp2_with fail
    refine (copied_any w zs sp cap hS (by omega)).mono ?_
    rintro e w1 ⟨v, rfl, hO1, b1⟩
    rcases hO1.parts with ⟨_, h0⟩ | ⟨g, c1, rest, rfl, hg, hI, hc, hm, hr⟩
    · rw [h0] at hp; simp at hp
    · have c0 := hI.cell (min k (zs.length - 1)) hi
      have f0 : w1.frozen? ⟨g, min k (zs.length - 1), none⟩ = false := frozen_of_row _ _ _ _ _ hI
      have hset := fun x => hI.set (min k (zs.length - 1)) x hi
      have HSL := hid (fun x : Int => show (zs.set (min k (zs.length - 1)) x).length = zs.length from List.length_set)
      clear hO1
      generalize min k (zs.length - 1) = q at *
      have i3 : (q : Int) < (zs.length : Int) := by omega
      obtain ⟨x, hx⟩ := Int.eq_ofNat_of_zero_le hb.1
      rw [hx] at HM c0
      have e5 : bits .xor .u8 (x : Int) 1 = ((x ^^^ 1 : Nat) : Int) := xor_u8 x 1 (by omega) (by decide)
      rw [Int.toNat_natCast] at HM
      clear hb hx
      generalize x ^^^ 1 = y at *
      rcases hq.out with ⟨hq1, hq2⟩ | ⟨hq1, hq2⟩
      all_goals
        clear hq
        go_wp2
        go_ret
        refine ⟨_, rfl, ?_, b1.setCell hg _⟩
        rw [HM.out]
        have := own_in (base := w.heap.size) (hset (y : Int)) hg (by rw [HSL.out]; exact hc) hm (by rw [HSL.out]; exact hr)
        rw [HSL.out] at this
        exact this
  · have h0 : zs = [] := List.eq_nil_of_length_eq_zero (by omega)
    subst h0
    have HE := hid (show othF [] k = [] from rfl)
    go_enter Tryd.func8, Tryd.ntmps8
    go_wp2_with fail
    refine (copied_any w [] sp cap hS (by simp)).mono ?_
    rintro e w1 ⟨v, rfl, hO1, b1⟩
    obtain ⟨tp, tc, rfl, _, _⟩ := hO1.form
    go_wp2
    go_ret
    exact ⟨_, rfl, (by rw [HE.out]; exact hO1), b1⟩
end Go.Proofs.YtbddndcdcicnaacDoor
