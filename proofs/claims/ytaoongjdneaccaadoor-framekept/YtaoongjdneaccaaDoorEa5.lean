import Derived.Test.YtaoongjdneaccaaDoorDc5
namespace Go.Proofs.YtaoongjdneaccaaDoor
set_option linter.unusedVariables false
set_option linter.unusedSimpArgs false
open Go.RowKit
attribute [local go_sem ↓] Go.wp_at_zero Go.wp_at_succ

def t600 : List Int := List.replicate 600 200
theorem own_in {w : World} {base g cap : Nat} {rest : List Value} {os : List Int} (h : In w g rest os) (hg : base ≤ g) (hc : os.length ≤ cap) (hm : cap ≤ maxLen) (hr : rest.length = cap - os.length) : Own w base (.slice (some ⟨g, 0, none⟩) os.length cap) os := by
  refine ⟨by rw [ints_len]; omega, Or.inr ⟨g, cap, _, rfl, hg, h, hc, hm, by simp [ints_len]; omega, ?_⟩⟩
  rw [Nat.mul_one]
  exact List.take_left' (ints_len _ _)
/-- Own's parts, with the spare room's size. -/
theorem Own.parts {w : World} {base : Nat} {v : Value} {zs : List Int} (h : Own w base v zs) : (v = .slice none 0 0 ∧ zs = []) ∨ ∃ g cap rest, v = .slice (some ⟨g, 0, none⟩) zs.length cap ∧ base ≤ g ∧ In w g rest zs ∧ zs.length ≤ cap ∧ cap ≤ maxLen ∧ rest.length = cap - zs.length := by
  obtain ⟨h1, ⟨rfl, hn⟩ | ⟨g, cap, cur, rfl, hg, hh, hc, hm, hs, ht⟩⟩ := h
  · exact Or.inl ⟨rfl, List.eq_nil_of_length_eq_zero hn⟩
  · refine Or.inr ⟨g, cap, cur.toList.drop zs.length, rfl, hg, ?_, hc, hm, by simp [hs]⟩
    unfold In
    rw [hh, ← ht, Nat.mul_one, List.take_append_drop]
theorem In.head {w : World} {g : Nat} {rest : List Value} {xs ys : List Int} (h : In w g rest (xs ++ ys)) (cap : Nat) (hc : xs.length ≤ cap) (hm : cap ≤ maxLen) : Src w (some ⟨g, 0, none⟩) cap xs :=
  ⟨hc, hm, g, 0, fun _ => hlt h, fun _ => rfl, fun j hj => by
    rw [Nat.zero_add, h.cell j (by rw [List.length_append]; omega), List.getD_eq_getElem?_getD, List.getElem?_append_left hj, ← List.getD_eq_getElem?_getD]⟩
theorem cell_of_block {w w' : World} {b o : Nat} (h : w'.heap[b]? = w.heap[b]?) : w'.cell? ⟨b, o, none⟩ = w.cell? ⟨b, o, none⟩ := by
  simp [World.cell?, h]
/-- A text with one bit turned, in the byte k or the last one. -/
def othF (zs : List Int) (k : Nat) : List Int := if 0 < zs.length then zs.set (min k (zs.length - 1)) (((zs.getD (min k (zs.length - 1)) 0).toNat ^^^ 1 : Nat) : Int) else zs
theorem othF_len (zs : List Int) (k : Nat) : (othF zs k).length = zs.length := by unfold othF; split <;> simp
theorem othF_byts {zs : List Int} (h : Byts zs) (k : Nat) : Byts (othF zs k) := by
  unfold othF
  split
  · intro x hx
    rcases List.mem_or_eq_of_mem_set hx with h1 | h1
    · exact h x h1
    · have hb := getD_byte h (min k (zs.length - 1))
      have : (zs.getD (min k (zs.length - 1)) 0).toNat ^^^ 1 < 256 := Nat.xor_lt_two_pow (n := 8) (by omega) (by decide)
      rw [h1]; omega
  · exact h
end Go.Proofs.YtaoongjdneaccaaDoor
