import Derived.Test.YtbjahdbmkcamoaaGreatDoorVf9
import Derived.Test.YtbjahdbmkcamoaaGreatDoorZa2
namespace Go.Proofs.YtbjahdbmkcamoaaGreatDoor
set_option linter.unusedVariables false
set_option linter.unusedSimpArgs false
open Go.RowKit

/-! What a proof says of a key's path, without memory. -/
theorem leafT_inj (ks ls us vs : List Int) (h : ks.length = ls.length) : leafT ks us = leafT ls vs ↔ ks = ls ∧ us = vs := by
  unfold leafT
  constructor
  · intro e
    have e1 := (List.cons.inj e).2
    exact List.append_inj e1 h
  · rintro ⟨rfl, rfl⟩; rfl
theorem cutZ_eq (a b : List Int) (n : Nat) (ha : a.length = 32) (hb : b.length = 32) (hn : n ≤ 32) : cutZ a n = cutZ b n ↔ a.take n = b.take n := by
  constructor
  · intro e; rw [← cutZ_take a ha n hn, ← cutZ_take b hb n hn, e]
  · intro e; unfold cutZ; rw [e]
theorem branchT_inj (n : Nat) (a b c d : List Int) (ha : a.length = 32) (hb : b.length = 32) (hc : c.length = 32) (hd : d.length = 32) (hn : n ≤ 32) : branchT n a b = branchT n c d ↔ cutZ a n = cutZ c n ∧ cutZ b n = cutZ d n := by
  rw [cutZ_eq a c n ha hc hn, cutZ_eq b d n hb hd hn]
  unfold branchT
  constructor
  · intro e
    exact List.append_inj (List.cons.inj e).2 (by simp; omega)
  · rintro ⟨h1, h2⟩; rw [h1, h2]
/-- The bit of a height in a proof's bits. -/
def bitB (bs : List Int) (h : Nat) : Int := bs.getD (h / 8) 0 / 2 ^ (h % 8) % 2
theorem bitB_01 (bs : List Int) (h : Nat) : bitB bs h = 0 ∨ bitB bs h = 1 := by unfold bitB; omega
/-- How many bits below a height are set. -/
def lft (bs : List Int) : Nat → Nat
  | 0 => 0
  | h + 1 => lft bs h + (bitB bs h).toNat
theorem lft_mono (bs : List Int) : ∀ (b a : Nat), a ≤ b → lft bs a ≤ lft bs b
  | 0, a, h => by obtain rfl : a = 0 := by omega
                  exact Nat.le_refl _
  | b + 1, a, h => by
    by_cases e : a = b + 1
    · subst e; exact Nat.le_refl _
    · have := lft_mono bs b a (by omega)
      simp only [lft]; omega
theorem bt (n m : Nat) : (((n : Int)) / ((m : Nat) : Int) % 2).toNat = n / m % 2 := by
  rw [← Int.natCast_ediv]
  generalize n / m = q
  omega
theorem lft_byte (bs : List Int) (hy : Bys bs) (k : Nat) (hk : k < bs.length) : lft bs (8 * k + 8) = lft bs (8 * k) + one8 (bs.getD k 0) := by
  have hb := hy.at k hk
  have b : ∀ j, j < 8 → bitB bs (8 * k + j) = bs.getD k 0 / 2 ^ j % 2 := fun j hj => by unfold bitB; rw [show (8 * k + j) / 8 = k by omega, show (8 * k + j) % 8 = j by omega]
  have e0 : bitB bs (8 * k) = bs.getD k 0 % 2 := by have := b 0 (by omega); rwa [Nat.add_zero, Int.pow_zero, Int.ediv_one] at this
  have e1 : bitB bs (8 * k + 1) = bs.getD k 0 / 2 % 2 := by have := b 1 (by omega); rwa [show (2 : Int) ^ 1 = 2 by decide] at this
  have e2 : bitB bs (8 * k + 2) = bs.getD k 0 / 4 % 2 := by have := b 2 (by omega); rwa [show (2 : Int) ^ 2 = 4 by decide] at this
  have e3 : bitB bs (8 * k + 3) = bs.getD k 0 / 8 % 2 := by have := b 3 (by omega); rwa [show (2 : Int) ^ 3 = 8 by decide] at this
  have e4 : bitB bs (8 * k + 4) = bs.getD k 0 / 16 % 2 := by have := b 4 (by omega); rwa [show (2 : Int) ^ 4 = 16 by decide] at this
  have e5 : bitB bs (8 * k + 5) = bs.getD k 0 / 32 % 2 := by have := b 5 (by omega); rwa [show (2 : Int) ^ 5 = 32 by decide] at this
  have e6 : bitB bs (8 * k + 6) = bs.getD k 0 / 64 % 2 := by have := b 6 (by omega); rwa [show (2 : Int) ^ 6 = 64 by decide] at this
  have e7 : bitB bs (8 * k + 7) = bs.getD k 0 / 128 % 2 := by have := b 7 (by omega); rwa [show (2 : Int) ^ 7 = 128 by decide] at this
  have st : ∀ h, lft bs (h + 1) = lft bs h + (bitB bs h).toNat := fun _ => rfl
  have t0 := st (8 * k); have t1 := st (8 * k + 1); have t2 := st (8 * k + 2); have t3 := st (8 * k + 3); have t4 := st (8 * k + 4); have t5 := st (8 * k + 5); have t6 := st (8 * k + 6); have t7 := st (8 * k + 7)
  rw [e0] at t0; rw [e1] at t1; rw [e2] at t2; rw [e3] at t3; rw [e4] at t4; rw [e5] at t5; rw [e6] at t6; rw [e7] at t7
  rw [Nat.add_assoc] at t1 t2 t3 t4 t5 t6 t7
  unfold one8
  clear e0 e1 e2 e3 e4 e5 e6 e7 b st
  generalize bs.getD k 0 = x at *
  obtain ⟨n, rfl⟩ := Int.eq_ofNat_of_zero_le hb.1
  have u0 : (((n : Int)) % 2).toNat = n % 2 := by have := bt n 1; simpa using this
  have u1 : (((n : Int)) / 2 % 2).toNat = n / 2 % 2 := bt n 2
  have u2 : (((n : Int)) / 4 % 2).toNat = n / 4 % 2 := bt n 4
  have u3 : (((n : Int)) / 8 % 2).toNat = n / 8 % 2 := bt n 8
  have u4 : (((n : Int)) / 16 % 2).toNat = n / 16 % 2 := bt n 16
  have u5 : (((n : Int)) / 32 % 2).toNat = n / 32 % 2 := bt n 32
  have u6 : (((n : Int)) / 64 % 2).toNat = n / 64 % 2 := bt n 64
  have u7 : (((n : Int)) / 128 % 2).toNat = n / 128 % 2 := bt n 128
  rw [u0] at t0; rw [u1] at t1; rw [u2] at t2; rw [u3] at t3; rw [u4] at t4; rw [u5] at t5; rw [u6] at t6; rw [u7] at t7
  simp only [Nat.reduceAdd, Int.toNat_natCast] at *
  rw [t7, t6, t5, t4, t3, t2, t1, t0]
  simp only [Nat.add_assoc]
theorem lft_take (bs : List Int) (hy : Bys bs) : ∀ k, k ≤ bs.length → lft bs (8 * k) = onesN (bs.take k)
  | 0, _ => by simp [lft, onesN]
  | k + 1, hk => by
    rw [show 8 * (k + 1) = 8 * k + 8 by omega, lft_byte bs hy k (by omega), lft_take bs hy k (by omega), onesN_take bs k (by omega)]
theorem lft_all {bs : List Int} (hy : Bys bs) (hl : bs.length = 32) : lft bs 256 = onesN bs := by
  have := lft_take bs hy 32 (by omega)
  rwa [List.take_of_length_le (by omega)] at this
theorem lft_lt {bs : List Int} (hy : Bys bs) (hl : bs.length = 32) {h : Nat} (hh : h < 256) (hb : bitB bs h = 1) : lft bs h < onesN bs := by
  rw [← lft_all hy hl]
  have := lft_mono bs 256 (h + 1) (by omega)
  have e : lft bs (h + 1) = lft bs h + 1 := by show lft bs h + (bitB bs h).toNat = _; rw [hb]; rfl
  omega
/-- Two lists of 32 bytes with the same bits. -/
theorem bits_eq {a b : List Int} (ha : Bys a) (hb : Bys b) (la : a.length = 32) (lb : b.length = 32) (h : ∀ j, j < 256 → bitB a j = bitB b j) : a = b := by
  refine List.ext_getElem (by omega) fun i h1 h2 => ?_
  have e : ∀ j, j < 8 → a[i] / 2 ^ j % 2 = b[i] / 2 ^ j % 2 := fun j hj => by
    have := h (8 * i + j) (by omega)
    unfold bitB at this
    rw [show (8 * i + j) / 8 = i by omega, show (8 * i + j) % 8 = j by omega, List.getD_eq_getElem?_getD, List.getD_eq_getElem?_getD, List.getElem?_eq_getElem h1, List.getElem?_eq_getElem h2] at this
    exact this
  have ra := ha a[i] (List.getElem_mem _)
  have rb := hb b[i] (List.getElem_mem _)
  have e0 := e 0 (by omega); have e1 := e 1 (by omega); have e2 := e 2 (by omega); have e3 := e 3 (by omega)
  have e4 := e 4 (by omega); have e5 := e 5 (by omega); have e6 := e 6 (by omega); have e7 := e 7 (by omega)
  simp only [Int.pow_zero, Int.ediv_one, Int.pow_succ, Int.one_mul, Int.reduceMul] at e0 e1 e2 e3 e4 e5 e6 e7
  omega
/-- The neighbour of a height. -/
def nbr (k : Int) (p : Pf) (h : Nat) : List Int := if bitB p.bs h = 1 then p.ss.getD (lft p.bs h) [] else emptyD k h
def fitB (n : Nat) (d : List Int) : Bool := (d.drop n).all fun x => decide (x = 0)
theorem fit_cut {n : Nat} {d : List Int} (hl : d.length = 32) (hn : n ≤ 32) (h : fitB n d = true) : cutZ d n = d := by
  refine List.ext_getElem? fun j => ?_
  rw [cutZ_get d hl n hn]
  split
  · rfl
  · split
    · rename_i h1 h2
      have : d[j]'(by omega) = 0 := by
        have := List.all_eq_true.1 h (d[j]'(by omega)) (by rw [List.mem_drop_iff_getElem]; exact ⟨j - n, by omega, by congr 1; omega⟩)
        simpa using this
      rw [List.getElem?_eq_getElem (by omega), this]
    · rw [List.getElem?_eq_none (by omega)]
/-- What is said of the digests below a height. -/
def digE (k : Int) (p : Pf) : Nat → Int
  | 0 => 0
  | h + 1 => if digE k p h = 0 then (if bitB p.bs h = 1 then (if fitB (kept k) (p.ss.getD (lft p.bs h) []) = true then (if p.ss.getD (lft p.bs h) [] = emptyD k h then 130 else 0) else 120) else 0) else digE k p h
theorem digE_zero (k : Int) (p : Pf) : ∀ (n : Nat), digE k p n = 0 → ∀ h, h < n → bitB p.bs h = 1 → fitB (kept k) (p.ss.getD (lft p.bs h) []) = true ∧ p.ss.getD (lft p.bs h) [] ≠ emptyD k h
  | 0, _, h, hh, _ => by omega
  | n + 1, e, h, hh, hb => by
    simp only [digE] at e
    split at e
    · rename_i e0
      by_cases hn : h = n
      · subst hn
        rw [if_pos hb] at e
        split at e
        · rename_i e1
          split at e
          · cases e
          · rename_i e2; exact ⟨e1, e2⟩
        · cases e
      · exact digE_zero k p n e0 h (by omega) hb
    · rename_i e0; exact absurd e e0
theorem digE_stays (k : Int) (p : Pf) (e : Int) (he : e ≠ 0) : ∀ (d h : Nat), digE k p h = e → digE k p (h + d) = e
  | 0, h, hh => hh
  | d + 1, h, hh => by
    have := digE_stays k p e he d h hh
    rw [← Nat.add_assoc]
    simp only [digE]
    rw [this, if_neg he]
theorem nbr_len {k : Int} {p : Pf} (ok : PfOk p) (y : PfY p) (hw : WellP p) {h : Nat} (hh : h < 256) : (nbr k p h).length = 32 := by
  unfold nbr
  split
  · rename_i hb
    have := lft_lt y.bs ok.bs hh hb
    rw [List.getD_eq_getElem?_getD, List.getElem?_eq_getElem (by rw [hw.num]; exact this)]
    exact ok.ss _ (List.getElem_mem _)
  · exact emptyD_len _ _
theorem nbr_cut {k : Int} {p : Pf} (ok : PfOk p) (y : PfY p) (hw : WellP p) (hd : digE k p 256 = 0) {h : Nat} (hh : h < 256) : cutZ (nbr k p h) (kept k) = nbr k p h := by
  have hl := nbr_len (k := k) ok y hw hh
  unfold nbr at *
  split
  · rename_i hb
    rw [if_pos hb] at hl
    exact fit_cut hl (kept_le k) (digE_zero k p 256 hd h hh hb).1
  · exact cut_emptyD _ _
/-- Proofs in form that say the same. -/
theorem sums_eq {k : Int} {p q : Pf} (op : PfOk p) (oq : PfOk q) (yp : PfY p) (yq : PfY q) (wp : WellP p) (wq : WellP q) (hp : digE k p 256 = 0) (hq : digE k q 256 = 0)
    (hf : p.f = q.f) (hv : p.vs = q.vs) (hn : ∀ h, h < 256 → nbr k p h = nbr k q h) : p = q := by
  have hb : p.bs = q.bs := bits_eq yp.bs yq.bs op.bs oq.bs fun h hh => by
    have e := hn h hh
    unfold nbr at e
    rcases bitB_01 p.bs h with a | a <;> rcases bitB_01 q.bs h with b | b
    · rw [a, b]
    · rw [if_neg (by omega), if_pos b] at e
      exact absurd e.symm (digE_zero k q 256 hq h hh b).2
    · rw [if_pos a, if_neg (by omega)] at e
      exact absurd e (digE_zero k p 256 hp h hh a).2
    · rw [a, b]
  have hs : ∀ n, n ≤ 256 → ∀ i, i < lft p.bs n → p.ss.getD i [] = q.ss.getD i [] := by
    intro n
    induction n with
    | zero => intro _ i hi; simp [lft] at hi
    | succ n ih =>
      intro h1 i hi
      simp only [lft] at hi
      by_cases hi2 : i < lft p.bs n
      · exact ih (by omega) i hi2
      · rcases bitB_01 p.bs n with a | a
        · rw [a] at hi; simp at hi; omega
        · rw [a] at hi
          obtain rfl : i = lft p.bs n := by have : (1 : Int).toNat = 1 := rfl
                                            omega
          have e := hn n (by omega)
          unfold nbr at e
          rw [if_pos a, ← hb, if_pos a] at e
          exact e
  have hss : p.ss = q.ss := by
    have l1 := wp.num
    have l2 := wq.num
    rw [← hb] at l2
    refine List.ext_getElem (by omega) fun i h1 h2 => ?_
    have := hs 256 (Nat.le_refl _) i (by rw [lft_all yp.bs op.bs]; omega)
    rwa [List.getD_eq_getElem?_getD, List.getD_eq_getElem?_getD, List.getElem?_eq_getElem h1, List.getElem?_eq_getElem h2] at this
  cases p; cases q; simp_all
/-- The path. -/
def pth (k : Int) (ks : List Int) (nb : Nat → List Int) (d : List Int) : Nat → List Int
  | 0 => d
  | h + 1 => if bitK ks (255 - h) = 0 then branchD k (pth k ks nb d h) (nb h) else branchD k (nb h) (pth k ks nb d h)
theorem pth_len (k : Int) (ks : List Int) (nb : Nat → List Int) (d : List Int) (hd : d.length = 32) : ∀ h, (pth k ks nb d h).length = 32
  | 0 => hd
  | h + 1 => by unfold pth; split <;> exact branchD_len _ _ _
theorem pth_cut (k : Int) (ks : List Int) (nb : Nat → List Int) (d : List Int) (hd : cutZ d (kept k) = d) : ∀ h, cutZ (pth k ks nb d h) (kept k) = pth k ks nb d h
  | 0 => hd
  | h + 1 => by unfold pth; split <;> exact cut_branchD _ _ _
def footD (k : Int) (ks : List Int) (f : Bool) (vs : List Int) : List Int := if f = true then leafD k ks vs else emptyD k 0
def footT (ks : List Int) (f : Bool) (vs : List Int) : List Int := if f = true then leafT ks vs else [2]
theorem footD_len (k : Int) (ks : List Int) (f : Bool) (vs : List Int) : (footD k ks f vs).length = 32 := by unfold footD; split; exact leafD_len _ _ _; exact emptyD_len _ _
theorem footD_cut (k : Int) (ks : List Int) (f : Bool) (vs : List Int) : cutZ (footD k ks f vs) (kept k) = footD k ks f vs := by unfold footD; split; exact cut_leafD _ _ _; exact cut_emptyD _ _
theorem footD_txt (k : Int) (ks : List Int) (f : Bool) (vs : List Int) : cutZ (sha (footT ks f vs)) (kept k) = footD k ks f vs := by unfold footD footT; split <;> rfl
/-- The path that a proof says, and its texts. -/
def pthP (k : Int) (ks : List Int) (p : Pf) (h : Nat) : List Int := pth k ks (nbr k p) (footD k ks p.f p.vs) h
def sideT (k : Int) (ks : List Int) (h : Nat) (d n : List Int) : List Int := if bitK ks (255 - h) = 0 then branchT (kept k) d n else branchT (kept k) n d
def txtP (k : Int) (ks : List Int) (p : Pf) : Nat → List Int
  | 0 => footT ks p.f p.vs
  | h + 1 => sideT k ks h (pthP k ks p h) (nbr k p h)
theorem txt_sum (k : Int) (ks : List Int) (p : Pf) : ∀ h, cutZ (sha (txtP k ks p h)) (kept k) = pthP k ks p h
  | 0 => footD_txt _ _ _ _
  | h + 1 => by
    simp only [txtP, sideT, pthP, pth]
    split <;> rfl
def heldE (k : Int) (root ks : List Int) (t : List Int) : Int := if decE t = 0 then (if digE k (decV t) 256 = 0 then (if pthP k ks (decV t) 256 = root then 0 else 131) else digE k (decV t) 256) else 120
theorem held_dec {k : Int} {root ks t : List Int} (h : heldE k root ks t = 0) : decP t = some (decV t) ∧ digE k (decV t) 256 = 0 ∧ pthP k ks (decV t) 256 = root := by
  unfold heldE at h
  split at h
  · rename_i h0
    split at h
    · rename_i h1
      split at h
      · rename_i h2
        refine ⟨?_, h1, h2⟩
        unfold decE at h0
        unfold decV
        cases hd : decP t with
        | none => rw [hd] at h0; simp at h0
        | some p => rfl
      · cases h
    · rename_i h1; exact absurd h h1
  · cases h
/-- Where two sides of a text are alike. -/
theorem side_inj {k : Int} {ks : List Int} {h : Nat} {a b c d : List Int} (ha : a.length = 32) (hb : b.length = 32) (hc : c.length = 32) (hd : d.length = 32) (ca : cutZ a (kept k) = a) (cb : cutZ b (kept k) = b) (cc : cutZ c (kept k) = c) (cd : cutZ d (kept k) = d)
    (e : sideT k ks h a b = sideT k ks h c d) : a = c ∧ b = d := by
  unfold sideT at e
  split at e
  · obtain ⟨e1, e2⟩ := (branchT_inj _ a b c d ha hb hc hd (kept_le k)).1 e
    rw [ca, cc] at e1; rw [cb, cd] at e2; exact ⟨e1, e2⟩
  · obtain ⟨e1, e2⟩ := (branchT_inj _ b a d c hb ha hd hc (kept_le k)).1 e
    rw [cb, cd] at e1; rw [ca, cc] at e2; exact ⟨e2, e1⟩
theorem highest {n : Nat} {P : Nat → Prop} (hd : ∀ j, P j ∨ ¬ P j) : (∀ j, j < n → P j) ∨ ∃ h, h < n ∧ ¬ P h ∧ ∀ j, h < j → j < n → P j := by
  induction n with
  | zero => exact Or.inl fun j hj => by omega
  | succ n ih =>
    rcases hd n with h | h
    · rcases ih with a | ⟨h0, h1, h2, h3⟩
      · refine Or.inl fun j hj => ?_
        by_cases e : j = n
        · subst e; exact h
        · exact a j (by omega)
      · refine Or.inr ⟨h0, by omega, h2, fun j h4 h5 => ?_⟩
        by_cases e : j = n
        · subst e; exact h
        · exact h3 j h4 (by omega)
    · exact Or.inr ⟨n, by omega, h, fun j h4 h5 => by omega⟩
theorem bind_pure {k : Int} {root ks s t : List Int} (ys : Bys s) (yt : Bys t) (hs : heldE k root ks s = 0) (ht : heldE k root ks t = 0) (hne : s ≠ t) :
    ∃ h, h ≤ 256 ∧ txtP k ks (decV s) h ≠ txtP k ks (decV t) h ∧ (∀ j, h < j → j ≤ 256 → txtP k ks (decV s) j = txtP k ks (decV t) j) ∧ cutZ (sha (txtP k ks (decV s) h)) (kept k) = cutZ (sha (txtP k ks (decV t) h)) (kept k) := by
  obtain ⟨ds, es, rs⟩ := held_dec hs
  obtain ⟨dt, et, rt⟩ := held_dec ht
  obtain ⟨os, bs, ws, ns⟩ := dec_some ys ds
  obtain ⟨ot, bt, wt, nt⟩ := dec_some yt dt
  have hne2 : decV s ≠ decV t := fun e => hne (by rw [← ns, ← nt, e])
  generalize decV s = p at *
  generalize decV t = q at *
  have step : ∀ h, h < 256 → txtP k ks p (h + 1) = txtP k ks q (h + 1) → pthP k ks p h = pthP k ks q h ∧ nbr k p h = nbr k q h := fun h hh e =>
    side_inj (pth_len _ _ _ _ (footD_len _ _ _ _) _) (nbr_len os bs ws hh) (pth_len _ _ _ _ (footD_len _ _ _ _) _) (nbr_len ot bt wt hh)
      (pth_cut _ _ _ _ (footD_cut _ _ _ _) _) (nbr_cut os bs ws es hh) (pth_cut _ _ _ _ (footD_cut _ _ _ _) _) (nbr_cut ot bt wt et hh) e
  rcases highest (n := 257) (P := fun j => txtP k ks p j = txtP k ks q j) (fun j => Decidable.em _) with a | ⟨h, h1, h2, h3⟩
  · exfalso
    refine hne2 ?_
    have e0 := a 0 (by omega)
    simp only [txtP, footT] at e0
    have hfv : p.f = q.f ∧ p.vs = q.vs := by
      cases hf : p.f <;> cases hg : q.f
      · exact ⟨rfl, by rw [ws.emp hf, wt.emp hg]⟩
      · rw [hf, hg] at e0; simp [leafT] at e0
      · rw [hf, hg] at e0; simp [leafT] at e0
      · rw [hf, hg] at e0
        simp only [if_true] at e0
        exact ⟨rfl, ((leafT_inj ks ks p.vs q.vs rfl).1 e0).2⟩
    exact sums_eq os ot bs bt ws wt es et hfv.1 hfv.2 fun h hh => (step h hh (a (h + 1) (by omega))).2
  · refine ⟨h, by omega, h2, fun j hj hj2 => h3 j hj (by omega), ?_⟩
    rw [txt_sum, txt_sum]
    by_cases e : h = 256
    · subst e; rw [rs, rt]
    · exact (step h (by omega) (h3 (h + 1) (by omega) (by omega))).1
end Go.Proofs.YtbjahdbmkcamoaaGreatDoor
