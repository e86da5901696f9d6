import Derived.Test.YthhchbeaefcljaaGs
import Derived.Test.YthhchbeaefcljaaMd
import Derived.Test.YthhchbeaefcljaaQb0
namespace Go.Proofs.Ythhchbeaefcljaa
set_option linter.unusedVariables false
set_option linter.unusedSimpArgs false
open Go.RowKit

theorem getD_set0 (l : List Int) (i j : Nat) (x : Int) (h : i < l.length) : (l.set i x).getD j 0 = if j = i then x else l.getD j 0 := by
  by_cases e : j = i
  · subst e; rw [if_pos rfl, List.getD_eq_getElem?_getD, List.getElem?_set_self h]; rfl
  · rw [if_neg e, List.getD_eq_getElem?_getD, List.getElem?_set_ne (fun q => e q.symm), ← List.getD_eq_getElem?_getD]
/-! Single bits of a list of bytes. -/
def bitAt (img : List Int) (n : Nat) : Bool := ((img.getD (n / 8) 0).toNat).testBit (n % 8)
theorem byte_nat {zs : List Int} (h : Bts zs) (j : Nat) : ∃ a : Nat, zs.getD j 0 = (a : Int) ∧ a < 256 := ⟨(zs.getD j 0).toNat, by have := h.get j; omega, by have := h.get j; omega⟩
theorem bits_ext {a b : List Int} (ha : Bts a) (hb : Bts b) (hl : a.length = b.length) (h : ∀ n, bitAt a n = bitAt b n) : a = b := by
  apply list_ext0 hl
  intro j _
  obtain ⟨x, hx, x8⟩ := byte_nat ha j
  obtain ⟨y, hy, y8⟩ := byte_nat hb j
  rw [hx, hy]
  have e : x = y := by
    apply Nat.eq_of_testBit_eq
    intro i
    by_cases hi : i < 8
    · have := h (8 * j + i)
      unfold bitAt at this
      rw [show (8 * j + i) / 8 = j by omega, show (8 * j + i) % 8 = i by omega, hx, hy] at this
      simpa using this
    · rw [Nat.testBit_lt_two_pow (Nat.lt_of_lt_of_le x8 (Nat.pow_le_pow_right (n := 2) (by decide) (show 8 ≤ i by omega))), Nat.testBit_lt_two_pow (Nat.lt_of_lt_of_le y8 (Nat.pow_le_pow_right (n := 2) (by decide) (show 8 ≤ i by omega)))]
  rw [e]
theorem flipTo_bit {img : List Int} (h : Bts img) (q bit pat : Nat) (i : Nat) (hl : q * 2048 + bit + i ≤ 8 * img.length) (n : Nat) : bitAt (flipTo img q bit pat i) n = (bitAt img n ^^ (decide (q * 2048 + bit ≤ n ∧ n < q * 2048 + bit + i) && pat.testBit (n - (q * 2048 + bit)))) := by
  induction i with
  | zero =>
    have : ¬ (q * 2048 + bit ≤ n ∧ n < q * 2048 + bit + 0) := by omega
    rw [decide_eq_false this]; simp [flipTo]
  | succ i ih =>
    replace ih := ih (by omega)
    have hB := flipTo_bts h q bit pat i
    have hlen := flipTo_len img q bit pat i
    unfold flipTo
    split
    · rename_i hp
      obtain ⟨a, ha, a8⟩ := byte_nat hB (q * 256 + (bit + i) / 8)
      have r8 : (bit + i) % 8 < 8 := Nat.mod_lt _ (by decide)
      have p8 : 2 ^ ((bit + i) % 8) < 256 := Nat.lt_of_lt_of_le (Nat.pow_lt_pow_right (a := 2) (by decide) r8) (by decide)
      rw [ha, xor_u8 a _ a8 p8]
      unfold bitAt
      rw [getD_set0 _ _ _ _ (by rw [hlen]; omega)]
      by_cases e : n / 8 = q * 256 + (bit + i) / 8
      · rw [if_pos e, Int.toNat_natCast, Nat.testBit_xor, Nat.testBit_two_pow]
        unfold bitAt at ih
        rw [e, ha, Int.toNat_natCast] at ih
        rw [ih]
        by_cases e2 : (bit + i) % 8 = n % 8
        · have hn : n = q * 2048 + bit + i := by omega
          have c1 : ¬ (q * 2048 + bit ≤ n ∧ n < q * 2048 + bit + i) := by omega
          have c2 : q * 2048 + bit ≤ n ∧ n < q * 2048 + bit + (i + 1) := by omega
          rw [decide_eq_false c1, decide_eq_true c2, decide_eq_true e2, show n - (q * 2048 + bit) = i by omega, hp, e]
          cases Nat.testBit (img.getD (q * 256 + (bit + i) / 8) 0).toNat (n % 8) <;> rfl
        · have hn : n ≠ q * 2048 + bit + i := by omega
          have c : (q * 2048 + bit ≤ n ∧ n < q * 2048 + bit + i) ↔ (q * 2048 + bit ≤ n ∧ n < q * 2048 + bit + (i + 1)) := by omega
          have dc : decide (q * 2048 + bit ≤ n ∧ n < q * 2048 + bit + i) = decide (q * 2048 + bit ≤ n ∧ n < q * 2048 + bit + (i + 1)) := decide_eq_decide.2 c
          rw [decide_eq_false e2, dc, e, Bool.xor_false]
      · rw [if_neg e]
        have hn : n ≠ q * 2048 + bit + i := by omega
        have c : (q * 2048 + bit ≤ n ∧ n < q * 2048 + bit + i) ↔ (q * 2048 + bit ≤ n ∧ n < q * 2048 + bit + (i + 1)) := by omega
        unfold bitAt at ih
        rw [ih, decide_eq_decide.2 c]
    · rename_i hp
      rw [ih]
      by_cases hn : n = q * 2048 + bit + i
      · have c1 : ¬ (q * 2048 + bit ≤ n ∧ n < q * 2048 + bit + i) := by omega
        rw [decide_eq_false c1, show n - (q * 2048 + bit) = i by omega]
        simp at hp
        rw [hp]; simp
      · have c : (q * 2048 + bit ≤ n ∧ n < q * 2048 + bit + i) ↔ (q * 2048 + bit ≤ n ∧ n < q * 2048 + bit + (i + 1)) := by omega
        rw [decide_eq_decide.2 c]
theorem flip_twice {img : List Int} (h : Bts img) (q bit pat m : Nat) (hl : q * 2048 + bit + m ≤ 8 * img.length) : flipTo (flipTo img q bit pat m) q bit pat m = img := by
  apply bits_ext (flipTo_bts (flipTo_bts h _ _ _ _) _ _ _ _) h (by rw [flipTo_len, flipTo_len])
  intro n
  rw [flipTo_bit (flipTo_bts h _ _ _ _) _ _ _ _ (by rw [flipTo_len]; exact hl), flipTo_bit h _ _ _ _ hl]
  rw [Bool.xor_assoc, Bool.xor_self, Bool.xor_false]
/-! A page with a burst. -/
theorem pgO_set (img : List Int) (q j : Nat) (y : Int) : pgO (img.set (q * 256 + j) y) q = (pgO img q).set j y := by
  unfold pgO
  rw [List.drop_set, if_neg (by omega), show q * 256 + j - q * 256 = j by omega, List.take_set]
theorem pgO_set_other (img : List Int) (q q' j : Nat) (hj : j < 256) (hq : q' ≠ q) (y : Int) : pgO (img.set (q * 256 + j) y) q' = pgO img q' := by
  apply List.ext_getElem?
  intro i
  unfold pgO
  rw [List.getElem?_take, List.getElem?_take]
  split
  · rw [List.getElem?_drop, List.getElem?_drop, List.getElem?_set_ne (by omega)]
  · rfl
theorem flip_other (img : List Int) (q q' bit pat : Nat) (hq : q' ≠ q) : ∀ m, bit + m ≤ 2048 → pgO (flipTo img q bit pat m) q' = pgO img q'
  | 0, _ => rfl
  | m + 1, hm => by
    have ih := flip_other img q q' bit pat hq m (by omega)
    unfold flipTo
    split
    · rw [pgO_set_other _ q q' _ (by omega) hq]; exact ih
    · exact ih
theorem testBit_shr (p m : Nat) : (p >>> m % 2 == 1) = p.testBit m := by
  rw [Nat.testBit_eq_decide_div_mod_eq, Nat.shiftRight_eq_div_pow]
  by_cases h : p / 2 ^ m % 2 = 1
  · simp [h]
  · simp [h]
theorem hits_all (bit p m : Nat) (hm : bit + m < 2048) : hits 256 (bit : Int) p m = p.testBit m := by
  unfold hits
  rw [testBit_shr, decide_eq_true (by omega), decide_eq_true (by omega)]; simp
theorem flip_page (img : List Int) (h : Bts img) (q bit pat : Nat) (hl : (q + 1) * 256 ≤ img.length) : ∀ m, bit + m ≤ 2048 → pgO (flipTo img q bit pat m) q = brst (pgO img q) (bit : Int) pat m
  | 0, _ => rfl
  | m + 1, hm => by
    have ih := flip_page img h q bit pat hl m (by omega)
    have hpl : (pgO img q).length = 256 := by unfold pgO; rw [List.length_take, List.length_drop]; omega
    have hh := hits_all bit pat m (by omega)
    rw [brst, hpl, hh]
    unfold flipTo
    by_cases hp : pat.testBit m = true
    · rw [if_pos hp, if_pos hp, pgO_set, ih, show ((bit : Int) + (m : Int)).toNat = bit + m by omega]
      obtain ⟨a, ha, a8⟩ := byte_nat (flipTo_bts h q bit pat m) (q * 256 + (bit + m) / 8)
      have p8 : 2 ^ ((bit + m) % 8) < 256 := Nat.lt_of_lt_of_le (Nat.pow_lt_pow_right (a := 2) (by decide) (Nat.mod_lt _ (by decide))) (by decide)
      have e : (brst (pgO img q) (bit : Int) pat m).getD ((bit + m) / 8) 0 = (a : Int) := by rw [← ih, pgO_get _ _ _ (by omega), ha]
      unfold turnB
      rw [ha, xor_u8 a _ a8 p8, e, Int.toNat_natCast]
    · rw [if_neg hp, if_neg hp]; exact ih
theorem cnt_all (N : Nat) (a : Int) (p : Nat) : ∀ m, cnt N a p m = 0 → ∀ i, i < m → hits N a p i = false
  | 0, _, i, hi => by omega
  | m + 1, h, i, hi => by
    unfold cnt at h
    split at h
    · omega
    · rename_i hh
      by_cases e : i = m
      · subst e; simpa using hh
      · exact cnt_all N a p m h i (by omega)
theorem cnt_pos (bit p : Nat) (hb : bit ≤ 2016) (h0 : p ≠ 0) (hp : p < 4294967296) : cnt 256 (bit : Int) p 32 ≠ 0 := fun h => by
  apply h0
  apply Nat.eq_of_testBit_eq
  intro i
  rw [Nat.zero_testBit]
  by_cases hi : i < 32
  · rw [← hits_all bit p i (by omega)]; exact cnt_all _ _ _ 32 h i hi
  · exact Nat.testBit_lt_two_pow (Nat.lt_of_lt_of_le hp (Nat.pow_le_pow_right (n := 2) (by decide) (show 32 ≤ i by omega)))
theorem unpack_CR {p : Int} {r l : List Int} {k : Int} (h : unpackF p r = (k, l, 0)) : placeOk p = true ∧ r.length = 256 ∧ feed ones r = CR := by
  unfold unpackF at h
  split at h
  · simp at h
  split at h
  · simp at h
  split at h
  · simp at h
  rename_i a b c
  exact ⟨by simpa using a, by simpa using b, by simpa using c⟩
theorem unpack_not {p : Int} {r : List Int} (h1 : placeOk p = true) (h2 : r.length = 256) (h3 : feed ones r ≠ CR) : (unpackF p r).2.2 ≠ 0 := by
  unfold unpackF
  rw [if_neg (by simp [h1]), if_neg (by simp [h2]), if_pos h3]
  decide
/-- The disk with a burst in the page q. -/
theorem burst_bad {D : DS} (ok : DsOk D) (q : Nat) (hq : q < D.np) (ho : ∀ o ∈ D.ops, o.page ≠ q) (k : Int) (l : List Int) (h : unpackF q (D.readOf q) = (k, l, 0)) (bit pat : Nat) (hb : bit ≤ 2016) (h0 : pat ≠ 0) (hp : pat < 4294967296) : (unpackF q ((D.flipped q bit pat).readOf q)).2.2 ≠ 0 := by
  have hn := ok.np
  obtain ⟨h1, h2, h3⟩ := unpack_CR h
  rw [read_page q ho] at h2 h3
  rw [read_page (D := D.flipped q bit pat) q ho]
  have e : pgO (D.flipped q bit pat).img q = brst (pgO D.img q) (bit : Int) pat 32 := by
    show pgO (flipTo D.img q bit pat (min 32 (2048 - bit))) q = _
    rw [show min 32 (2048 - bit) = 32 by omega]
    exact flip_page D.img ok.bts q bit pat (by rw [hn.2.2.1]; omega) 32 (by omega)
  rw [e]
  refine unpack_not h1 (by rw [brst_len]; exact h2) (burst_main _ _ _ (by omega) (by rw [h2]; omega) h3 ?_)
  rw [h2]
  exact cnt_pos bit pat hb h0 hp
theorem burst_off {D : DS} (q q' : Nat) (hne : q' ≠ q) (ho : ∀ o ∈ D.ops, o.page ≠ q') (bit pat : Nat) (hb : bit ≤ 2016) : (D.flipped q bit pat).readOf q' = D.readOf q' := by
  rw [read_page q' ho, read_page (D := D.flipped q bit pat) q' ho]
  show pgO (flipTo D.img q bit pat (min 32 (2048 - bit))) q' = _
  exact flip_other D.img q q' bit pat hne _ (by omega)
theorem flipped_npB (D : DS) (q b p : Nat) : (D.flipped q b p).np = D.np := by unfold DS.np DS.flipped; rw [flipTo_len]
theorem burst_back {D : DS} (ok : DsOk D) (q : Nat) (hq : q < D.np) (bit pat : Nat) (hb : bit ≤ 2016) (x y : Int) : (({ (({ D with reads := x } : DS).flipped q bit pat) with reads := y } : DS).flipped q bit pat) = { D with reads := y } := by
  have hn := ok.np
  have e := flip_twice ok.bts q bit pat (min 32 (2048 - bit)) (by rw [hn.2.2.1]; omega)
  show ({ D with img := flipTo (flipTo D.img q bit pat (min 32 (2048 - bit))) q bit pat (min 32 (2048 - bit)), reads := y } : DS) = _
  rw [e]
end Go.Proofs.Ythhchbeaefcljaa
