import Derived.Test.YtcifbnldohmbnaaCb
namespace Go.Proofs.Ytcifbnldohmbnaa
set_option linter.unusedVariables false
set_option linter.unusedSimpArgs false

/-! There and back. -/
theorem wrong_zero {cs : List Chg} {n : Nat} : wrongC cs n = 0 ↔ cs.length ≤ n ∧ longC cs = false ∧ (keysC cs).Nodup := by
  unfold wrongC
  by_cases h1 : n < cs.length
  · rw [if_pos h1]; constructor
    · intro h; cases h
    · intro h; omega
  · rw [if_neg h1]
    cases h2 : longC cs with
    | true => simp
    | false =>
      by_cases h3 : (keysC cs).Nodup
      · simp [h3]; omega
      · simp [h3]
theorem getD_app_left (l m : List Int) (i : Nat) (h : i < l.length) : (l ++ m).getD i 0 = l.getD i 0 := by
  rw [List.getD_eq_getElem?_getD, List.getElem?_append_left h, ← List.getD_eq_getElem?_getD]
theorem one_lay {c : Chg} (hk : c.key.length = 32) (hv : c.del = false → c.val.length ≤ 128) (r : List Int) : one (lay1 c ++ r) = ⟨0, plainC c, (lay1 c).length⟩ := by
  unfold lay1
  cases hd : c.del with
  | true =>
    simp only [if_true]
    have hl : ((2 :: c.key) ++ r).length = 33 + r.length := by simp [hk]; omega
    have h0 : ((2 :: c.key) ++ r).getD 0 0 = 2 := rfl
    unfold one
    rw [if_neg (by rw [hl, h0]; omega), if_pos h0]
    have e1 : (((2 :: c.key) ++ r).drop 1).take 32 = c.key := by
      show ((c.key ++ r)).take 32 = c.key
      rw [List.take_append_of_le_length (by omega), List.take_of_length_le (by omega)]
    rw [e1]
    simp [plainC, hd, hk]
  | false =>
    have hv' := hv hd
    simp only [Bool.false_eq_true, if_false]
    have e : (1 :: (c.key ++ (num2 c.val.length ++ c.val))) ++ r = 1 :: (c.key ++ (num2 c.val.length ++ (c.val ++ r))) := by simp
    have hl : ((1 :: (c.key ++ (num2 c.val.length ++ c.val))) ++ r).length = 35 + c.val.length + r.length := by simp [num2, hk]; omega
    have hl1 : (1 :: (c.key ++ (num2 c.val.length ++ c.val))).length = 35 + c.val.length := by simp [num2, hk]; omega
    have h0 : ((1 :: (c.key ++ (num2 c.val.length ++ c.val))) ++ r).getD 0 0 = 1 := rfl
    have h33 : ((1 :: (c.key ++ (num2 c.val.length ++ c.val))) ++ r).getD 33 0 = ((c.val.length % 256 : Nat) : Int) := by
      rw [e, List.getD_eq_getElem?_getD, List.getElem?_cons_succ, List.getElem?_append_right (by omega), hk]; rfl
    have h34 : ((1 :: (c.key ++ (num2 c.val.length ++ c.val))) ++ r).getD 34 0 = ((c.val.length / 256 : Nat) : Int) := by
      rw [e, List.getD_eq_getElem?_getD, List.getElem?_cons_succ, List.getElem?_append_right (by omega), hk]; rfl
    have hn : (((c.val.length % 256 : Nat) : Int) + 256 * ((c.val.length / 256 : Nat) : Int)) = (c.val.length : Int) := by omega
    unfold one
    rw [hl, h0, h33, h34, hn, if_neg (by omega), if_neg (by omega), if_neg (by omega), if_neg (by omega), Int.toNat_natCast, if_neg (by omega), hl1]
    have e1 : (((1 :: (c.key ++ (num2 c.val.length ++ c.val))) ++ r).drop 1).take 32 = c.key := by
      rw [e]; show (c.key ++ _).take 32 = c.key
      rw [List.take_append_of_le_length (by omega), List.take_of_length_le (by omega)]
    have e2 : (((1 :: (c.key ++ (num2 c.val.length ++ c.val))) ++ r).drop 35).take c.val.length = c.val := by
      rw [e, show (35 : Nat) = 34 + 1 from rfl, List.drop_succ_cons, List.drop_append, List.drop_eq_nil_of_le (by omega), hk, List.nil_append]
      show (c.val ++ r).take c.val.length = c.val
      exact List.take_left ..
    rw [e1, e2]
    simp [plainC, hd]
theorem parseL_lay : ∀ (cs : List Chg), (∀ c ∈ cs, c.key.length = 32 ∧ (c.del = false → c.val.length ≤ 128)) → ∀ r, parseL cs.length ((cs.map lay1).flatten ++ r) = ⟨cs.map plainC, cs.length, 0, r⟩
  | [], _, r => rfl
  | c :: cs, h, r => by
    obtain ⟨hk, hv⟩ := h c (by simp)
    have ih := parseL_lay cs (fun x hx => h x (by simp [hx])) r
    have e : ((c :: cs).map lay1).flatten ++ r = lay1 c ++ ((cs.map lay1).flatten ++ r) := by simp
    rw [e]
    show parseL (cs.length + 1) _ = _
    rw [parseL, one_lay hk hv]
    simp only [if_true, List.drop_left, ih, PL.pre]
    simp [Nat.add_comm]
theorem lay_parse {cs : List Chg} (hk : ∀ c ∈ cs, c.key.length = 32) (hw : wrongC cs 64 = 0) : parseC (layC cs) = ⟨cs.map plainC, 0, 0⟩ := by
  obtain ⟨h1, h2, h3⟩ := wrong_zero.1 hw
  have hv : ∀ c ∈ cs, c.key.length = 32 ∧ (c.del = false → c.val.length ≤ 128) := fun c hc => ⟨hk c hc, fun hd => by
    unfold longC at h2
    rw [List.any_eq_false] at h2
    have := h2 c hc
    simp [hd] at this
    exact this⟩
  have hl : parseL cs.length ((cs.map lay1).flatten) = ⟨cs.map plainC, cs.length, 0, []⟩ := by
    have := parseL_lay cs hv []
    rwa [List.append_nil] at this
  have d0 : (layC cs).getD 0 0 = ((cs.length % 256 : Nat) : Int) := rfl
  have d1 : (layC cs).getD 1 0 = ((cs.length / 256 : Nat) : Int) := rfl
  have dd : (layC cs).drop 2 = (cs.map lay1).flatten := rfl
  have hn : (((cs.length % 256 : Nat) : Int) + 256 * ((cs.length / 256 : Nat) : Int)) = (cs.length : Int) := by omega
  have hkl : (keysC cs).length = cs.length := by simp [keysC]
  unfold parseC
  rw [if_neg (by unfold layC num2; simp), d0, d1, hn, if_neg (by omega), dd, Int.toNat_natCast]
  simp only [hl]
  rw [if_neg (by simp), if_neg (by simp), if_neg (by rw [keys_plain, (twiceK_iff (keysC cs)).2 h3]; omega)]
def Byt (z : List Int) : Prop := ∀ x ∈ z, 0 ≤ x ∧ x < 256
theorem Byt.get {zs : List Int} (h : Byt zs) (j : Nat) : 0 ≤ zs.getD j 0 ∧ zs.getD j 0 < 256 := by
  by_cases hj : j < zs.length
  · rw [List.getD_eq_getElem?_getD, List.getElem?_eq_getElem hj]; exact h _ (List.getElem_mem hj)
  · rw [List.getD_eq_getElem?_getD, List.getElem?_eq_none (by omega)]; simp
theorem drop_cons (z : List Int) (i : Nat) (h : i < z.length) : z.drop i = z.getD i 0 :: z.drop (i + 1) := by
  rw [List.drop_eq_getElem_cons h, List.getD_eq_getElem?_getD, List.getElem?_eq_getElem h]; rfl
theorem one_back {z : List Int} (hy : Byt z) (h : (one z).e = 0) : z = lay1 (one z).c ++ z.drop (one z).n ∧ (one z).c.key.length = 32 ∧ ((one z).c.del = false → (one z).c.val.length ≤ 128) ∧ ((one z).c.del = true → (one z).c.val = []) := by
  have y33 := hy.get 33
  have y34 := hy.get 34
  unfold one at h ⊢
  split at h
  · cases h
  · rename_i h1
    rw [if_neg h1]
    have hl : 33 ≤ z.length := by omega
    have hkl : ((z.drop 1).take 32).length = 32 := by rw [List.length_take, List.length_drop]; omega
    have c0 := drop_cons z 0 (by omega)
    have cut : z.drop 1 = (z.drop 1).take 32 ++ z.drop 33 := by
      have := (List.take_append_drop 32 (z.drop 1)).symm
      rwa [List.drop_drop] at this
    split at h
    · rename_i h2
      rw [if_pos h2]
      refine ⟨?_, hkl, (fun h => by cases h), (fun _ => rfl)⟩
      show z = (2 :: (z.drop 1).take 32) ++ z.drop 33
      conv => lhs; rw [← List.drop_zero (l := z), c0, h2, Nat.zero_add, cut]
      rfl
    · rename_i h2
      rw [if_neg h2]
      have h0 : z.getD 0 0 = 1 := by omega
      split at h
      · cases h
      · rename_i h3
        rw [if_neg h3]
        split at h
        · cases h
        · rename_i h4
          rw [if_neg h4]
          split at h
          · cases h
          · rename_i h5
            rw [if_neg h5]
            obtain ⟨N, hN⟩ := Int.eq_ofNat_of_zero_le (show 0 ≤ z.getD 33 0 + 256 * z.getD 34 0 by omega)
            rw [hN] at h4 h5 ⊢
            rw [Int.toNat_natCast] at h5 ⊢
            have hvl : ((z.drop 35).take N).length = N := by rw [List.length_take, List.length_drop]; omega
            refine ⟨?_, hkl, fun _ => by show ((z.drop 35).take N).length ≤ 128; omega, fun h => by cases h⟩
            show z = lay1 ⟨(z.drop 1).take 32, false, (z.drop 35).take N⟩ ++ z.drop (35 + N)
            have c33 := drop_cons z 33 (by omega)
            have c34 := drop_cons z 34 (by omega)
            have cutv : z.drop 35 = (z.drop 35).take N ++ z.drop (35 + N) := by
              have := (List.take_append_drop N (z.drop 35)).symm
              rwa [List.drop_drop] at this
            have hnum : num2 ((z.drop 35).take N).length = [z.getD 33 0, z.getD 34 0] := by
              rw [hvl]; unfold num2
              have a1 : ((N % 256 : Nat) : Int) = z.getD 33 0 := by omega
              have a2 : ((N / 256 : Nat) : Int) = z.getD 34 0 := by omega
              rw [a1, a2]
            unfold lay1
            simp only [Bool.false_eq_true, if_false]
            rw [hnum]
            conv => lhs; rw [← List.drop_zero (l := z), c0, h0, Nat.zero_add, cut, c33, c34, cutv]
            simp
theorem Byt.drop {z : List Int} (h : Byt z) (i : Nat) : Byt (z.drop i) := fun x hx => h x (List.mem_of_mem_drop hx)
def GoodC (c : Chg) : Prop := c.key.length = 32 ∧ (c.del = false → c.val.length ≤ 128) ∧ (c.del = true → c.val = [])
theorem parseL_back : ∀ (n : Nat) (z : List Int), Byt z → (parseL n z).e = 0 → z = ((parseL n z).cs.map lay1).flatten ++ (parseL n z).rest ∧ (parseL n z).cs.length = n ∧ ∀ c ∈ (parseL n z).cs, GoodC c
  | 0, z, _, _ => ⟨rfl, rfl, fun c hc => by simp [parseL] at hc⟩
  | n + 1, z, hy, h => by
    rw [parseL] at h ⊢
    split at h
    · rename_i h1
      rw [if_pos h1]
      obtain ⟨b1, b2, b3, b4⟩ := one_back hy h1
      obtain ⟨i1, i2, i3⟩ := parseL_back n (z.drop (one z).n) (hy.drop _) h
      refine ⟨?_, ?_, ?_⟩
      · conv => lhs; rw [b1, i1]
        simp [PL.pre]
      · simp [PL.pre, i2]
      · intro c hc
        simp only [PL.pre, List.singleton_append, List.mem_cons] at hc
        rcases hc with rfl | hc
        · exact ⟨b2, b3, b4⟩
        · exact i3 c hc
    · rename_i h1; exact absurd h h1
theorem parse_back {z : List Int} (hy : Byt z) (h : (parseC z).e = 0) : wrongC (parseC z).cs 64 = 0 ∧ layC (parseC z).cs = z ∧ (parseC z).at' = 0 ∧ ∀ c ∈ (parseC z).cs, GoodC c := by
  have y0 := hy.get 0
  have y1 := hy.get 1
  unfold parseC at h ⊢
  split at h
  · cases h
  · rename_i h1
    rw [if_neg h1]
    split at h
    · cases h
    · rename_i h2
      rw [if_neg h2]
      obtain ⟨n, hn⟩ := Int.eq_ofNat_of_zero_le (show 0 ≤ z.getD 0 0 + 256 * z.getD 1 0 by omega)
      rw [hn, Int.toNat_natCast] at h ⊢
      simp only at h ⊢
      by_cases he : (parseL n (z.drop 2)).e ≠ 0
      · rw [if_pos he] at h; exact absurd h he
      · rw [if_neg he] at h ⊢
        have he' : (parseL n (z.drop 2)).e = 0 := by simpa using he
        obtain ⟨p1, p2, p3⟩ := parseL_back n (z.drop 2) (hy.drop 2) he'
        by_cases hr : (parseL n (z.drop 2)).rest ≠ []
        · rw [if_pos hr] at h; cases h
        · rw [if_neg hr] at h ⊢
          have hr' : (parseL n (z.drop 2)).rest = [] := by simpa using hr
          by_cases ht : twiceK (keysC (parseL n (z.drop 2)).cs) < n
          · rw [if_pos ht] at h; cases h
          · rw [if_neg ht]
            generalize (parseL n (z.drop 2)).cs = cs at *
            rw [hr', List.append_nil] at p1
            have hkl : (keysC cs).length = n := by simp [keysC, p2]
            refine ⟨wrong_zero.2 ⟨by show cs.length ≤ 64; omega, ?_, (twiceK_iff _).1 (by show twiceK (keysC cs) = (keysC cs).length; have := twiceK_le (keysC cs); omega)⟩, ?_, rfl, p3⟩
            · unfold longC
              rw [List.any_eq_false]
              intro c hc
              have := (p3 c hc).2.1
              cases hd : c.del with
              | true => simp
              | false => have := this hd; simp; omega
            · show layC cs = z
              unfold layC num2
              rw [← p1, p2]
              have a1 : ((n % 256 : Nat) : Int) = z.getD 0 0 := by omega
              have a2 : ((n / 256 : Nat) : Int) = z.getD 1 0 := by omega
              rw [a1, a2]
              have c0 := drop_cons z 0 (by omega)
              have c1 := drop_cons z 1 (by omega)
              conv => rhs; rw [← List.drop_zero (l := z), c0, Nat.zero_add, c1]
              rfl
theorem parse_err {z : List Int} (h : (parseC z).e ≠ 0) : (parseC z).cs = [] := by
  unfold parseC at h ⊢
  split
  · rfl
  · split
    · rfl
    · simp only at h ⊢
      split
      · rfl
      · split
        · rfl
        · split
          · rfl
          · rename_i h1 h2 h3 h4 h5
            rw [if_neg h1, if_neg h2, if_neg h3, if_neg h4, if_neg h5] at h
            exact absurd rfl h
theorem plain_good {cs : List Chg} (h : ∀ c ∈ cs, GoodC c) : cs.map plainC = cs := by
  rw [show cs = cs.map id by simp, List.map_map]
  apply List.map_congr_left
  intro c hc
  obtain ⟨_, _, h3⟩ := h c (by simpa using hc)
  cases c with
  | mk k d v =>
    cases d with
    | true => simp [plainC] at h3 ⊢; exact h3
    | false => simp [plainC]
end Go.Proofs.Ytcifbnldohmbnaa
