import Derived.Test.YtbjahdbmkcamoaaGreatDoorClA
namespace Go.Proofs.YtbjahdbmkcamoaaGreatDoor
set_option linter.unusedVariables false
set_option linter.unusedSimpArgs false
open Go.RowKit

/-! Maps and their digests, without memory: the digest of the entries of a subtree, and the path of a key beside what lies next to it. -/
structure EnM where
  k : List Int
  v : List Int
def entOk (e : EnM) : Prop := e.k.length = 32 ∧ Bys e.k
/-- The digest of height h of these entries. -/
def tD (w : Int) : Nat → List EnM → List Int
  | 0, [] => emptyD w 0
  | 0, e :: _ => leafD w e.k e.v
  | h + 1, m => branchD w (tD w h (m.filter fun e => decide (bitK e.k (255 - h) = 0))) (tD w h (m.filter fun e => !decide (bitK e.k (255 - h) = 0)))
theorem tD_nil (w : Int) : ∀ h, tD w h [] = emptyD w h
  | 0 => rfl
  | h + 1 => by
    show branchD w (tD w h []) (tD w h []) = branchD w (emptyD w h) (emptyD w h)
    rw [tD_nil w h]
theorem tD_len (w : Int) : ∀ h m, (tD w h m).length = 32
  | 0, [] => emptyD_len _ _
  | 0, e :: _ => leafD_len _ _ _
  | h + 1, m => branchD_len _ _ _
theorem tD_cut (w : Int) : ∀ h m, cutZ (tD w h m) (kept w) = tD w h m
  | 0, [] => cut_emptyD _ _
  | 0, e :: _ => cut_leafD _ _ _
  | h + 1, m => cut_branchD _ _ _
/-- One entry alone: its leaf, beside nothing. -/
theorem tD_one (w : Int) (e : EnM) : ∀ h, tD w h [e] = pth w e.k (emptyD w) (leafD w e.k e.v) h
  | 0 => rfl
  | h + 1 => by
    show branchD w (tD w h ([e].filter fun e => decide (bitK e.k (255 - h) = 0))) (tD w h ([e].filter fun e => !decide (bitK e.k (255 - h) = 0))) = if bitK e.k (255 - h) = 0 then branchD w (pth w e.k (emptyD w) (leafD w e.k e.v) h) (emptyD w h) else branchD w (emptyD w h) (pth w e.k (emptyD w) (leafD w e.k e.v) h)
    by_cases c : bitK e.k (255 - h) = 0
    · rw [if_pos c, show ([e].filter fun e => decide (bitK e.k (255 - h) = 0)) = [e] by simp [c], show ([e].filter fun e => !decide (bitK e.k (255 - h) = 0)) = [] by simp [c], tD_one w e h, tD_nil]
    · rw [if_neg c, show ([e].filter fun e => decide (bitK e.k (255 - h) = 0)) = [] by simp [c], show ([e].filter fun e => !decide (bitK e.k (255 - h) = 0)) = [e] by simp [c], tD_one w e h, tD_nil]
/-- Do two keys agree in their first n bits? -/
def agr (a b : List Int) (n : Nat) : Bool := (List.range n).all fun i => decide (bitK a i = bitK b i)
theorem agr_succ (a b : List Int) (n : Nat) : agr a b (n + 1) = (agr a b n && decide (bitK a n = bitK b n)) := by
  unfold agr; rw [List.range_succ, List.all_append]; simp
theorem agr_zero (a b : List Int) : agr a b 0 = true := rfl
theorem agr_at {a b : List Int} {n : Nat} (h : agr a b n = true) {i : Nat} (hi : i < n) : bitK a i = bitK b i := by
  have := List.all_eq_true.1 h i (List.mem_range.2 hi)
  simpa using this
/-- The entries of the subtree of height h on the way of a key; those of the one beside it. -/
def und (m : List EnM) (ks : List Int) (h : Nat) : List EnM := m.filter fun e => agr e.k ks (256 - h)
def nbs (m : List EnM) (ks : List Int) (h : Nat) : List EnM := m.filter fun e => agr e.k ks (255 - h) && !decide (bitK e.k (255 - h) = bitK ks (255 - h))
theorem und_all (m : List EnM) (ks : List Int) : und m ks 256 = m := by
  unfold und
  exact List.filter_eq_self.2 fun e _ => agr_zero _ _
theorem und_step (m : List EnM) (ks : List Int) (h : Nat) (hh : h < 256) :
    (und m ks (h + 1)).filter (fun e => decide (bitK e.k (255 - h) = 0)) = (if bitK ks (255 - h) = 0 then und m ks h else nbs m ks h) ∧
    (und m ks (h + 1)).filter (fun e => !decide (bitK e.k (255 - h) = 0)) = (if bitK ks (255 - h) = 0 then nbs m ks h else und m ks h) := by
  unfold und nbs
  rw [List.filter_filter, List.filter_filter, show 256 - (h + 1) = 255 - h by omega, show 256 - h = 255 - h + 1 by omega]
  have b01 := bitK_01 ks (255 - h)
  refine ⟨?_, ?_⟩ <;> split <;> refine List.filter_congr fun e _ => ?_ <;> (try rw [agr_succ]) <;> have e01 := bitK_01 e.k (255 - h) <;> cases agr e.k ks (255 - h) <;> rcases e01 with p | p <;> rcases b01 with q | q <;> simp_all
/-- The way of a key, beside what lies next to it, ends at the digest of the map. -/
theorem pth_und (w : Int) (m : List EnM) (ks : List Int) : ∀ h, h ≤ 256 → pth w ks (fun j => tD w j (nbs m ks j)) (tD w 0 (und m ks 0)) h = tD w h (und m ks h)
  | 0, _ => rfl
  | h + 1, hh => by
    have ih := pth_und w m ks h (by omega)
    obtain ⟨e1, e2⟩ := und_step m ks h (by omega)
    show (if bitK ks (255 - h) = 0 then branchD w _ _ else branchD w _ _) = branchD w (tD w h ((und m ks (h + 1)).filter fun e => decide (bitK e.k (255 - h) = 0))) (tD w h ((und m ks (h + 1)).filter fun e => !decide (bitK e.k (255 - h) = 0)))
    rw [ih, e1, e2]
    by_cases c : bitK ks (255 - h) = 0
    · rw [if_pos c, if_pos c, if_pos c]
    · rw [if_neg c, if_neg c, if_neg c]
/-- Keys of 32 bytes that agree in all bits are one. -/
theorem agr_eq {a b : List Int} (ha : a.length = 32) (hb : b.length = 32) (ya : Bys a) (yb : Bys b) (h : agr a b 256 = true) : a = b := by
  refine List.ext_getElem (by omega) fun i h1 h2 => ?_
  have e : ∀ j, j < 8 → a[i] / 2 ^ (7 - j) % 2 = b[i] / 2 ^ (7 - j) % 2 := fun j hj => by
    have := agr_at h (i := 8 * i + j) (by omega)
    unfold bitK at this
    rw [show (8 * i + j) / 8 = i by omega, show (8 * i + j) % 8 = j by omega, List.getD_eq_getElem?_getD, List.getD_eq_getElem?_getD, List.getElem?_eq_getElem h1, List.getElem?_eq_getElem h2] at this
    exact this
  have ra := ya a[i] (List.getElem_mem _)
  have rb := yb b[i] (List.getElem_mem _)
  have e0 := e 0 (by omega); have e1 := e 1 (by omega); have e2 := e 2 (by omega); have e3 := e 3 (by omega)
  have e4 := e 4 (by omega); have e5 := e 5 (by omega); have e6 := e 6 (by omega); have e7 := e 7 (by omega)
  simp only [Nat.sub_zero, Nat.reduceSub, Int.pow_zero, Int.ediv_one, Int.pow_succ, Int.one_mul, Int.reduceMul] at e0 e1 e2 e3 e4 e5 e6 e7
  omega
theorem agr_refl (a : List Int) (n : Nat) : agr a a n = true := List.all_eq_true.2 fun i _ => by simp
/-- What a map holds under a key. -/
def lookM (m : List EnM) (ks : List Int) : Option (List Int) := (m.find? fun e => decide (e.k = ks)).map (·.v)
structure MapOk (m : List EnM) : Prop where
  ok : ∀ e ∈ m, entOk e
theorem und_zero {m : List EnM} (hm : MapOk m) {ks : List Int} (hk : ks.length = 32) (yk : Bys ks) : und m ks 0 = m.filter fun e => decide (e.k = ks) := by
  unfold und
  refine List.filter_congr fun e he => ?_
  obtain ⟨h1, h2⟩ := hm.ok e he
  by_cases c : e.k = ks
  · rw [c, agr_refl]; simp
  · rw [decide_eq_false c]
    cases q : agr e.k ks (256 - 0) with
    | false => rfl
    | true => exact absurd (agr_eq h1 hk h2 yk q) c
theorem foot_und {m : List EnM} (hm : MapOk m) (w : Int) {ks : List Int} (hk : ks.length = 32) (yk : Bys ks) : tD w 0 (und m ks 0) = footD w ks (lookM m ks).isSome ((lookM m ks).getD []) := by
  rw [und_zero hm hk yk]
  unfold lookM
  induction m with
  | nil => rfl
  | cons e m ih =>
    by_cases c : e.k = ks
    · rw [List.filter_cons_of_pos (by simpa using c), List.find?_cons_of_pos (by simpa using c)]
      show leafD w e.k e.v = footD w ks true e.v
      rw [c]; rfl
    · rw [List.filter_cons_of_neg (by simpa using c), List.find?_cons_of_neg (by simpa using c)]
      exact ih ⟨fun x hx => hm.ok x (.tail _ hx)⟩
/-! A proof that says these neighbours. -/
section
variable (w : Int) (nb : Nat → List Int)
def setH (h : Nat) : Bool := !decide (nb h = emptyD w h)
def byteH (i : Nat) : Int := ((List.range 8).map fun j => if setH w nb (8 * i + j) = true then (2 : Int) ^ j else 0).sum
def bitsH : List Int := (List.range 32).map (byteH w nb)
def sumsH (n : Nat) : List (List Int) := ((List.range n).filter (setH w nb)).map nb
end
theorem byteH_eq (w : Int) (nb : Nat → List Int) (i : Nat) : byteH w nb i = (if setH w nb (8 * i) = true then 1 else 0) + (if setH w nb (8 * i + 1) = true then 2 else 0) + (if setH w nb (8 * i + 2) = true then 4 else 0) + (if setH w nb (8 * i + 3) = true then 8 else 0) + (if setH w nb (8 * i + 4) = true then 16 else 0) + (if setH w nb (8 * i + 5) = true then 32 else 0) + (if setH w nb (8 * i + 6) = true then 64 else 0) + (if setH w nb (8 * i + 7) = true then 128 else 0) := by
  unfold byteH
  simp only [show List.range 8 = [0, 1, 2, 3, 4, 5, 6, 7] from rfl, List.map_cons, List.map_nil, List.sum_cons, List.sum_nil, Nat.add_zero, Int.pow_zero, Int.pow_succ, Int.one_mul, Int.reduceMul, Int.add_zero]
  simp only [Int.add_assoc]
theorem half_of (s y : Int) (h : s = 0 ∨ s = 1) : (s + 2 * y) % 2 = s ∧ (s + 2 * y) / 2 = y := by omega
theorem div_4 (x : Int) : x / 4 = x / 2 / 2 := by omega
theorem div_8 (x : Int) : x / 8 = x / 4 / 2 := by omega
theorem div_16 (x : Int) : x / 16 = x / 8 / 2 := by omega
theorem div_32 (x : Int) : x / 32 = x / 16 / 2 := by omega
theorem div_64 (x : Int) : x / 64 = x / 32 / 2 := by omega
theorem div_128 (x : Int) : x / 128 = x / 64 / 2 := by omega
theorem bit_sum (s0 s1 s2 s3 s4 s5 s6 s7 : Int) (h0 : s0 = 0 ∨ s0 = 1) (h1 : s1 = 0 ∨ s1 = 1) (h2 : s2 = 0 ∨ s2 = 1) (h3 : s3 = 0 ∨ s3 = 1) (h4 : s4 = 0 ∨ s4 = 1) (h5 : s5 = 0 ∨ s5 = 1) (h6 : s6 = 0 ∨ s6 = 1) (h7 : s7 = 0 ∨ s7 = 1) :
    let x := s0 + 2 * s1 + 4 * s2 + 8 * s3 + 16 * s4 + 32 * s5 + 64 * s6 + 128 * s7
    (0 ≤ x ∧ x < 256) ∧ x % 2 = s0 ∧ x / 2 % 2 = s1 ∧ x / 4 % 2 = s2 ∧ x / 8 % 2 = s3 ∧ x / 16 % 2 = s4 ∧ x / 32 % 2 = s5 ∧ x / 64 % 2 = s6 ∧ x / 128 % 2 = s7 := by
  intro x
  have hx : x = s0 + 2 * (s1 + 2 * (s2 + 2 * (s3 + 2 * (s4 + 2 * (s5 + 2 * (s6 + 2 * s7)))))) := by show s0 + 2 * s1 + 4 * s2 + 8 * s3 + 16 * s4 + 32 * s5 + 64 * s6 + 128 * s7 = _; omega
  have b0 : 0 ≤ x ∧ x < 256 := by rw [hx]; omega
  have q1 : x % 2 = s0 ∧ x / 2 = s1 + 2 * (s2 + 2 * (s3 + 2 * (s4 + 2 * (s5 + 2 * (s6 + 2 * s7))))) := by rw [hx]; exact half_of _ _ h0
  have q2 : x / 2 % 2 = s1 ∧ x / 4 = s2 + 2 * (s3 + 2 * (s4 + 2 * (s5 + 2 * (s6 + 2 * s7)))) := by rw [div_4 x, q1.2]; exact half_of _ _ h1
  have q3 : x / 4 % 2 = s2 ∧ x / 8 = s3 + 2 * (s4 + 2 * (s5 + 2 * (s6 + 2 * s7))) := by rw [div_8 x, q2.2]; exact half_of _ _ h2
  have q4 : x / 8 % 2 = s3 ∧ x / 16 = s4 + 2 * (s5 + 2 * (s6 + 2 * s7)) := by rw [div_16 x, q3.2]; exact half_of _ _ h3
  have q5 : x / 16 % 2 = s4 ∧ x / 32 = s5 + 2 * (s6 + 2 * s7) := by rw [div_32 x, q4.2]; exact half_of _ _ h4
  have q6 : x / 32 % 2 = s5 ∧ x / 64 = s6 + 2 * s7 := by rw [div_64 x, q5.2]; exact half_of _ _ h5
  have q7 : x / 64 % 2 = s6 ∧ x / 128 = s7 := by rw [div_128 x, q6.2]; exact half_of _ _ h6
  exact ⟨b0, q1.1, q2.1, q3.1, q4.1, q5.1, q6.1, q7.1, by rw [q7.2]; omega⟩
end Go.Proofs.YtbjahdbmkcamoaaGreatDoor
namespace Go.Proofs.YtbjahdbmkcamoaaGreatDoor
set_option linter.unusedVariables false
set_option linter.unusedSimpArgs false
open Go.RowKit

/-! The proof that a map gives for a key holds under the map's digest. -/
def sH (w : Int) (nb : Nat → List Int) (h : Nat) : Int := if setH w nb h = true then 1 else 0
theorem sH_01 (w : Int) (nb : Nat → List Int) (h : Nat) : sH w nb h = 0 ∨ sH w nb h = 1 := by unfold sH; split <;> simp
theorem byteH_s (w : Int) (nb : Nat → List Int) (i : Nat) : byteH w nb i = sH w nb (8 * i) + 2 * sH w nb (8 * i + 1) + 4 * sH w nb (8 * i + 2) + 8 * sH w nb (8 * i + 3) + 16 * sH w nb (8 * i + 4) + 32 * sH w nb (8 * i + 5) + 64 * sH w nb (8 * i + 6) + 128 * sH w nb (8 * i + 7) := by
  rw [byteH_eq]
  unfold sH
  have k : ∀ (b : Bool) (c : Int), (if b = true then c else 0) = c * (if b = true then 1 else 0) := fun b c => by cases b <;> simp
  rw [k _ 2, k _ 4, k _ 8, k _ 16, k _ 32, k _ 64, k _ 128]
theorem bitsH_len (w : Int) (nb : Nat → List Int) : (bitsH w nb).length = 32 := by simp [bitsH]
theorem bitsH_get (w : Int) (nb : Nat → List Int) (i : Nat) (hi : i < 32) : (bitsH w nb).getD i 0 = byteH w nb i := by
  rw [List.getD_eq_getElem?_getD, bitsH, List.getElem?_map, List.getElem?_range hi]; rfl
theorem bitsH_bys (w : Int) (nb : Nat → List Int) : Bys (bitsH w nb) := fun x hx => by
  obtain ⟨i, _, rfl⟩ := List.mem_map.1 hx
  rw [byteH_s]
  exact (bit_sum _ _ _ _ _ _ _ _ (sH_01 _ _ _) (sH_01 _ _ _) (sH_01 _ _ _) (sH_01 _ _ _) (sH_01 _ _ _) (sH_01 _ _ _) (sH_01 _ _ _) (sH_01 _ _ _)).1
theorem bitsH_bit (w : Int) (nb : Nat → List Int) (h : Nat) (hh : h < 256) : bitB (bitsH w nb) h = sH w nb h := by
  obtain ⟨i, j, hj, rfl⟩ : ∃ i j, j < 8 ∧ h = 8 * i + j := ⟨h / 8, h % 8, by omega, by omega⟩
  unfold bitB
  rw [show (8 * i + j) / 8 = i by omega, show (8 * i + j) % 8 = j by omega, bitsH_get w nb i (by omega), byteH_s]
  obtain ⟨_, b0, b1, b2, b3, b4, b5, b6, b7⟩ := bit_sum _ _ _ _ _ _ _ _ (sH_01 w nb (8 * i)) (sH_01 w nb (8 * i + 1)) (sH_01 w nb (8 * i + 2)) (sH_01 w nb (8 * i + 3)) (sH_01 w nb (8 * i + 4)) (sH_01 w nb (8 * i + 5)) (sH_01 w nb (8 * i + 6)) (sH_01 w nb (8 * i + 7))
  match j, hj with
  | 0, _ => rw [Int.pow_zero, Int.ediv_one]; exact b0
  | 1, _ => rw [show (2 : Int) ^ 1 = 2 by decide]; exact b1
  | 2, _ => rw [show (2 : Int) ^ 2 = 4 by decide]; exact b2
  | 3, _ => rw [show (2 : Int) ^ 3 = 8 by decide]; exact b3
  | 4, _ => rw [show (2 : Int) ^ 4 = 16 by decide]; exact b4
  | 5, _ => rw [show (2 : Int) ^ 5 = 32 by decide]; exact b5
  | 6, _ => rw [show (2 : Int) ^ 6 = 64 by decide]; exact b6
  | 7, _ => rw [show (2 : Int) ^ 7 = 128 by decide]; exact b7
theorem sumsH_succ (w : Int) (nb : Nat → List Int) (n : Nat) : sumsH w nb (n + 1) = sumsH w nb n ++ (if setH w nb n = true then [nb n] else []) := by
  unfold sumsH
  rw [List.range_succ, List.filter_append, List.map_append]
  cases h : setH w nb n <;> simp [h]
theorem sumsH_pre (w : Int) (nb : Nat → List Int) (h : Nat) : ∀ n, h ≤ n → ∃ r, sumsH w nb n = sumsH w nb h ++ r
  | 0, hn => ⟨[], by obtain rfl : h = 0 := by omega
                     simp⟩
  | n + 1, hn => by
    by_cases e : h = n + 1
    · subst e; exact ⟨[], by simp⟩
    · obtain ⟨r, hr⟩ := sumsH_pre w nb h n (by omega)
      exact ⟨r ++ (if setH w nb n = true then [nb n] else []), by rw [sumsH_succ, hr, List.append_assoc]⟩
theorem lft_bits (w : Int) (nb : Nat → List Int) : ∀ h, h ≤ 256 → lft (bitsH w nb) h = (sumsH w nb h).length
  | 0, _ => rfl
  | h + 1, hh => by
    show lft (bitsH w nb) h + (bitB (bitsH w nb) h).toNat = _
    rw [lft_bits w nb h (by omega), bitsH_bit w nb h (by omega), sumsH_succ, List.length_append]
    unfold sH
    cases setH w nb h <;> rfl
def pfH (w : Int) (f : Bool) (vs : List Int) (nb : Nat → List Int) : Pf := ⟨f, vs, bitsH w nb, sumsH w nb 256⟩
theorem sumsH_at (w : Int) (nb : Nat → List Int) (h : Nat) (hh : h < 256) (hs : setH w nb h = true) : (sumsH w nb 256).getD (lft (bitsH w nb) h) [] = nb h := by
  obtain ⟨r, hr⟩ := sumsH_pre w nb (h + 1) 256 (by omega)
  rw [hr, sumsH_succ, if_pos hs, lft_bits w nb h (by omega), List.append_assoc, List.getD_eq_getElem?_getD, List.getElem?_append_right (Nat.le_refl _), Nat.sub_self]
  rfl
theorem nbr_pfH (w : Int) (f : Bool) (vs : List Int) (nb : Nat → List Int) (h : Nat) (hh : h < 256) : nbr w (pfH w f vs nb) h = nb h := by
  unfold nbr
  show (if bitB (bitsH w nb) h = 1 then (sumsH w nb 256).getD (lft (bitsH w nb) h) [] else emptyD w h) = nb h
  rw [bitsH_bit w nb h hh]
  unfold sH
  cases hs : setH w nb h with
  | true => rw [if_pos rfl, if_pos rfl, sumsH_at w nb h hh hs]
  | false =>
    show emptyD w h = nb h
    unfold setH at hs
    simp only [Bool.not_eq_false', decide_eq_true_eq] at hs
    exact hs.symm
theorem fit_of_cut {n : Nat} {d : List Int} (hl : d.length = 32) (hn : n ≤ 32) (h : cutZ d n = d) : fitB n d = true := by
  refine List.all_eq_true.2 fun x hx => ?_
  rw [List.mem_drop_iff_getElem] at hx
  obtain ⟨i, hi, rfl⟩ := hx
  have e := congrArg (fun l => l[n + i]?) h
  simp only [cutZ_get d hl n hn] at e
  rw [if_neg (by omega), if_pos (by omega), List.getElem?_eq_getElem (by omega)] at e
  have := Option.some.inj e
  simp [← this]
theorem digE_pfH (w : Int) (f : Bool) (vs : List Int) (nb : Nat → List Int) (hl : ∀ h, h < 256 → (nb h).length = 32) (hc : ∀ h, h < 256 → cutZ (nb h) (kept w) = nb h) : ∀ n, n ≤ 256 → digE w (pfH w f vs nb) n = 0
  | 0, _ => rfl
  | n + 1, hn => by
    have ih := digE_pfH w f vs nb hl hc n (by omega)
    simp only [digE]
    rw [if_pos ih]
    show (if bitB (bitsH w nb) n = 1 then (if fitB (kept w) ((sumsH w nb 256).getD (lft (bitsH w nb) n) []) = true then (if (sumsH w nb 256).getD (lft (bitsH w nb) n) [] = emptyD w n then (130 : Int) else 0) else 120) else 0) = 0
    rw [bitsH_bit w nb n (by omega)]
    unfold sH
    cases hs : setH w nb n with
    | false => rfl
    | true =>
      rw [if_pos rfl, if_pos rfl, sumsH_at w nb n (by omega) hs, if_pos (fit_of_cut (hl n (by omega)) (kept_le w) (hc n (by omega)))]
      unfold setH at hs
      simp only [Bool.not_eq_true', decide_eq_false_iff_not] at hs
      rw [if_neg hs]
theorem sumsH_mem (w : Int) (nb : Nat → List Int) {d : List Int} (h : d ∈ sumsH w nb 256) : ∃ j, j < 256 ∧ d = nb j := by
  unfold sumsH at h
  obtain ⟨j, hj, rfl⟩ := List.mem_map.1 h
  exact ⟨j, List.mem_range.1 (List.mem_filter.1 hj).1, rfl⟩
theorem pfH_ok (w : Int) (f : Bool) (vs : List Int) (nb : Nat → List Int) (hl : ∀ h, h < 256 → (nb h).length = 32) : PfOk (pfH w f vs nb) :=
  ⟨bitsH_len w nb, fun d hd => by obtain ⟨j, hj, rfl⟩ := sumsH_mem w nb hd; exact hl j hj⟩
theorem pfH_well (w : Int) (f : Bool) (vs : List Int) (nb : Nat → List Int) (hv : vs.length ≤ 128) (hf : f = false → vs = []) : WellP (pfH w f vs nb) :=
  ⟨hf, hv, by
    show (sumsH w nb 256).length = onesN (bitsH w nb)
    rw [← lft_bits w nb 256 (Nat.le_refl _), lft_all (bitsH_bys w nb) (bitsH_len w nb)]⟩
theorem pth_congrN (k : Int) (ks : List Int) (nb nb' : Nat → List Int) (d : List Int) : ∀ h, (∀ j, j < h → nb j = nb' j) → pth k ks nb d h = pth k ks nb' d h
  | 0, _ => rfl
  | h + 1, e => by
    have ih := pth_congrN k ks nb nb' d h (fun j hj => e j (by omega))
    show (if bitK ks (255 - h) = 0 then _ else _) = if bitK ks (255 - h) = 0 then _ else _
    rw [ih, e h (by omega)]
/-- Entries that a map may hold. -/
structure MapVs (m : List EnM) : Prop where
  ok : ∀ e ∈ m, entOk e ∧ e.v.length ≤ 128
/-- The proof that a map gives for a key. -/
def proofM (w : Int) (m : List EnM) (ks : List Int) : Pf := pfH w (lookM m ks).isSome ((lookM m ks).getD []) fun h => tD w h (nbs m ks h)
theorem look_len {m : List EnM} (hm : MapVs m) (ks : List Int) : ((lookM m ks).getD []).length ≤ 128 := by
  unfold lookM
  cases h : m.find? fun e => decide (e.k = ks) with
  | none => simp
  | some e => exact (hm.ok e (List.mem_of_find?_eq_some h)).2
theorem proofM_well {w : Int} {m : List EnM} (hm : MapVs m) (ks : List Int) : PfOk (proofM w m ks) ∧ WellP (proofM w m ks) :=
  ⟨pfH_ok _ _ _ _ fun h _ => tD_len _ _ _, pfH_well _ _ _ _ (look_len hm ks) fun h => by
    cases q : lookM m ks with
    | none => rfl
    | some x => rw [q] at h; cases h⟩
/-- It holds. -/
theorem proofM_held {w : Int} {m : List EnM} (hm : MapVs m) {ks : List Int} (hk : ks.length = 32) (yk : Bys ks) :
    heldE w (tD w 256 m) ks (encP (proofM w m ks)) = 0 ∧ decV (encP (proofM w m ks)) = proofM w m ks := by
  obtain ⟨ok, wl⟩ := proofM_well (w := w) hm ks
  have hd := dec_enc ok wl
  have h1 : decE (encP (proofM w m ks)) = 0 := by unfold decE; rw [hd]; rfl
  have h2 : decV (encP (proofM w m ks)) = proofM w m ks := by unfold decV; rw [hd]; rfl
  refine ⟨?_, h2⟩
  unfold heldE
  rw [if_pos h1, h2, if_pos (show digE w (proofM w m ks) 256 = 0 from digE_pfH w _ _ _ (fun h _ => tD_len _ _ _) (fun h _ => tD_cut _ _ _) 256 (Nat.le_refl _)), if_pos]
  show pth w ks (nbr w (proofM w m ks)) (footD w ks (lookM m ks).isSome ((lookM m ks).getD [])) 256 = tD w 256 m
  rw [pth_congrN w ks _ (fun h => tD w h (nbs m ks h)) _ 256 (fun j hj => nbr_pfH _ _ _ _ j hj), ← foot_und ⟨fun e he => (hm.ok e he).1⟩ w hk yk, pth_und w m ks 256 (Nat.le_refl _), und_all]
end Go.Proofs.YtbjahdbmkcamoaaGreatDoor
