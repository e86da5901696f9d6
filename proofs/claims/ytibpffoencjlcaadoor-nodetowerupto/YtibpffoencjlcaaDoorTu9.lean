import Derived.Test.YtibpffoencjlcaaDoorTt9
namespace Go.Proofs.YtibpffoencjlcaaDoor
set_option linter.unusedVariables false
set_option linter.unusedSimpArgs false
open Go.RowKit

def blk1 : List Nat → List Nat
  | [a, b, c, d, e, f, g, h] => [Nat.add 16777216 (Nat.shiftRight a 8), Nat.add (Nat.mul (Nat.mod a 256) 16777216) (Nat.shiftRight b 8), Nat.add (Nat.mul (Nat.mod b 256) 16777216) (Nat.shiftRight c 8), Nat.add (Nat.mul (Nat.mod c 256) 16777216) (Nat.shiftRight d 8), Nat.add (Nat.mul (Nat.mod d 256) 16777216) (Nat.shiftRight e 8), Nat.add (Nat.mul (Nat.mod e 256) 16777216) (Nat.shiftRight f 8), Nat.add (Nat.mul (Nat.mod f 256) 16777216) (Nat.shiftRight g 8), Nat.add (Nat.mul (Nat.mod g 256) 16777216) (Nat.shiftRight h 8), Nat.add (Nat.mul (Nat.mod h 256) 16777216) (Nat.shiftRight a 8), Nat.add (Nat.mul (Nat.mod a 256) 16777216) (Nat.shiftRight b 8), Nat.add (Nat.mul (Nat.mod b 256) 16777216) (Nat.shiftRight c 8), Nat.add (Nat.mul (Nat.mod c 256) 16777216) (Nat.shiftRight d 8), Nat.add (Nat.mul (Nat.mod d 256) 16777216) (Nat.shiftRight e 8), Nat.add (Nat.mul (Nat.mod e 256) 16777216) (Nat.shiftRight f 8), Nat.add (Nat.mul (Nat.mod f 256) 16777216) (Nat.shiftRight g 8), Nat.add (Nat.mul (Nat.mod g 256) 16777216) (Nat.shiftRight h 8)]
  | _ => []
def blk2 : List Nat → List Nat
  | [a, b, c, d, e, f, g, h] => [Nat.add (Nat.mul (Nat.mod h 256) 16777216) 8388608, 0, 0, 0, 0, 0, 0, 0, 0, 0, 0, 0, 0, 0, 0, 520]
  | _ => []
def stepW (l : List Nat) : List Nat := mixN (mixN fN (blk1 l)) (blk2 l)
def eqL : List Nat → List Nat → Bool
  | [], [] => true
  | x :: a, y :: b => Nat.beq x y && eqL a b
  | _, _ => false
theorem eqL_eq : ∀ a b, eqL a b = true → a = b
  | [], [], _ => rfl
  | x :: a, y :: b, h => by
    simp only [eqL, Bool.and_eq_true] at h
    rw [Nat.eq_of_beq_eq_true h.1, eqL_eq a b h.2]
  | [], _ :: _, h => by simp [eqL] at h
  | _ :: _, [], h => by simp [eqL] at h
theorem word4_int (a b c d : Int) (ha : 0 ≤ a ∧ a < 256) (hb : 0 ≤ b ∧ b < 256) (hc : 0 ≤ c ∧ c < 256) (hd : 0 ≤ d ∧ d < 256) : word4 a b c d = a * 16777216 + b * 65536 + c * 256 + d := by
  have hw : ∀ m : Int, 0 ≤ m → m < 2 ^ 32 → IntKind.u32.wrap m = m := fun m h0 h1 => by rw [IntKind.wrap_u32]; omega
  unfold word4
  rw [hw a (by omega) (by omega), hw b (by omega) (by omega), hw c (by omega) (by omega), hw d (by omega) (by omega), hw (a * 16777216) (by omega) (by omega), hw (b * 65536) (by omega) (by omega), hw (c * 256) (by omega) (by omega)]
  rw [bits_join .u32 32 (by decide) hw 24 (a * 16777216) (b * 65536) (by omega) (by omega) (by omega) (by omega) (by omega) (by omega)]
  rw [bits_join .u32 32 (by decide) hw 16 (a * 16777216 + b * 65536) (c * 256) (by omega) (by omega) (by omega) (by omega) (by omega) (by omega)]
  rw [bits_join .u32 32 (by decide) hw 8 (a * 16777216 + b * 65536 + c * 256) d (by omega) (by omega) (by omega) (by omega) (by omega) (by omega)]
theorem shr8 (x : Nat) : Nat.shiftRight x 8 = x / 256 := Nat.shiftRight_eq_div_pow x 8
/-- A word out of a digest's last byte and the next three. -/
theorem word_next (p q : Nat) (hp : p < 4294967296) (hq : q < 4294967296) : word4 ((p : Int) % 256) ((q : Int) / 16777216) ((q : Int) / 65536 % 256) ((q : Int) / 256 % 256) = ((Nat.add (Nat.mul (Nat.mod p 256) 16777216) (Nat.shiftRight q 8) : Nat) : Int) := by
  rw [word4_int _ _ _ _ (by omega) (by omega) (by omega) (by omega), shr8]
  show _ = ((p % 256 * 16777216 + q / 256 : Nat) : Int)
  omega
theorem word_first (q : Nat) (hq : q < 4294967296) : word4 1 ((q : Int) / 16777216) ((q : Int) / 65536 % 256) ((q : Int) / 256 % 256) = ((Nat.add 16777216 (Nat.shiftRight q 8) : Nat) : Int) := by
  rw [word4_int _ _ _ _ (by omega) (by omega) (by omega) (by omega), shr8]
  show _ = ((16777216 + q / 256 : Nat) : Int)
  omega
theorem word_last (p : Nat) (hp : p < 4294967296) : word4 ((p : Int) % 256) 128 0 0 = ((Nat.add (Nat.mul (Nat.mod p 256) 16777216) 8388608 : Nat) : Int) := by
  rw [word4_int _ _ _ _ (by omega) (by omega) (by omega) (by omega)]
  show _ = ((p % 256 * 16777216 + 8388608 : Nat) : Int)
  omega
theorem w16_blk1 (a b c d e f g h : Nat) (ha : a < 4294967296) (hb : b < 4294967296) (hc : c < 4294967296) (hd : d < 4294967296) (he : e < 4294967296) (hf : f < 4294967296) (hg : g < 4294967296) (hh : h < 4294967296) : w16 [(1 : Int), (a : Int) / 16777216, (a : Int) / 65536 % 256, (a : Int) / 256 % 256, (a : Int) % 256, (b : Int) / 16777216, (b : Int) / 65536 % 256, (b : Int) / 256 % 256, (b : Int) % 256, (c : Int) / 16777216, (c : Int) / 65536 % 256, (c : Int) / 256 % 256, (c : Int) % 256, (d : Int) / 16777216, (d : Int) / 65536 % 256, (d : Int) / 256 % 256, (d : Int) % 256, (e : Int) / 16777216, (e : Int) / 65536 % 256, (e : Int) / 256 % 256, (e : Int) % 256, (f : Int) / 16777216, (f : Int) / 65536 % 256, (f : Int) / 256 % 256, (f : Int) % 256, (g : Int) / 16777216, (g : Int) / 65536 % 256, (g : Int) / 256 % 256, (g : Int) % 256, (h : Int) / 16777216, (h : Int) / 65536 % 256, (h : Int) / 256 % 256, (h : Int) % 256, (a : Int) / 16777216, (a : Int) / 65536 % 256, (a : Int) / 256 % 256, (a : Int) % 256, (b : Int) / 16777216, (b : Int) / 65536 % 256, (b : Int) / 256 % 256, (b : Int) % 256, (c : Int) / 16777216, (c : Int) / 65536 % 256, (c : Int) / 256 % 256, (c : Int) % 256, (d : Int) / 16777216, (d : Int) / 65536 % 256, (d : Int) / 256 % 256, (d : Int) % 256, (e : Int) / 16777216, (e : Int) / 65536 % 256, (e : Int) / 256 % 256, (e : Int) % 256, (f : Int) / 16777216, (f : Int) / 65536 % 256, (f : Int) / 256 % 256, (f : Int) % 256, (g : Int) / 16777216, (g : Int) / 65536 % 256, (g : Int) / 256 % 256, (g : Int) % 256, (h : Int) / 16777216, (h : Int) / 65536 % 256, (h : Int) / 256 % 256] 16 = up (blk1 [a, b, c, d, e, f, g, h]) := by
  show [word4 ((1 : Int)) ((a : Int) / 16777216) ((a : Int) / 65536 % 256) ((a : Int) / 256 % 256), word4 ((a : Int) % 256) ((b : Int) / 16777216) ((b : Int) / 65536 % 256) ((b : Int) / 256 % 256), word4 ((b : Int) % 256) ((c : Int) / 16777216) ((c : Int) / 65536 % 256) ((c : Int) / 256 % 256), word4 ((c : Int) % 256) ((d : Int) / 16777216) ((d : Int) / 65536 % 256) ((d : Int) / 256 % 256), word4 ((d : Int) % 256) ((e : Int) / 16777216) ((e : Int) / 65536 % 256) ((e : Int) / 256 % 256), word4 ((e : Int) % 256) ((f : Int) / 16777216) ((f : Int) / 65536 % 256) ((f : Int) / 256 % 256), word4 ((f : Int) % 256) ((g : Int) / 16777216) ((g : Int) / 65536 % 256) ((g : Int) / 256 % 256), word4 ((g : Int) % 256) ((h : Int) / 16777216) ((h : Int) / 65536 % 256) ((h : Int) / 256 % 256), word4 ((h : Int) % 256) ((a : Int) / 16777216) ((a : Int) / 65536 % 256) ((a : Int) / 256 % 256), word4 ((a : Int) % 256) ((b : Int) / 16777216) ((b : Int) / 65536 % 256) ((b : Int) / 256 % 256), word4 ((b : Int) % 256) ((c : Int) / 16777216) ((c : Int) / 65536 % 256) ((c : Int) / 256 % 256), word4 ((c : Int) % 256) ((d : Int) / 16777216) ((d : Int) / 65536 % 256) ((d : Int) / 256 % 256), word4 ((d : Int) % 256) ((e : Int) / 16777216) ((e : Int) / 65536 % 256) ((e : Int) / 256 % 256), word4 ((e : Int) % 256) ((f : Int) / 16777216) ((f : Int) / 65536 % 256) ((f : Int) / 256 % 256), word4 ((f : Int) % 256) ((g : Int) / 16777216) ((g : Int) / 65536 % 256) ((g : Int) / 256 % 256), word4 ((g : Int) % 256) ((h : Int) / 16777216) ((h : Int) / 65536 % 256) ((h : Int) / 256 % 256)] = [((Nat.add 16777216 (Nat.shiftRight a 8) : Nat) : Int), ((Nat.add (Nat.mul (Nat.mod a 256) 16777216) (Nat.shiftRight b 8) : Nat) : Int), ((Nat.add (Nat.mul (Nat.mod b 256) 16777216) (Nat.shiftRight c 8) : Nat) : Int), ((Nat.add (Nat.mul (Nat.mod c 256) 16777216) (Nat.shiftRight d 8) : Nat) : Int), ((Nat.add (Nat.mul (Nat.mod d 256) 16777216) (Nat.shiftRight e 8) : Nat) : Int), ((Nat.add (Nat.mul (Nat.mod e 256) 16777216) (Nat.shiftRight f 8) : Nat) : Int), ((Nat.add (Nat.mul (Nat.mod f 256) 16777216) (Nat.shiftRight g 8) : Nat) : Int), ((Nat.add (Nat.mul (Nat.mod g 256) 16777216) (Nat.shiftRight h 8) : Nat) : Int), ((Nat.add (Nat.mul (Nat.mod h 256) 16777216) (Nat.shiftRight a 8) : Nat) : Int), ((Nat.add (Nat.mul (Nat.mod a 256) 16777216) (Nat.shiftRight b 8) : Nat) : Int), ((Nat.add (Nat.mul (Nat.mod b 256) 16777216) (Nat.shiftRight c 8) : Nat) : Int), ((Nat.add (Nat.mul (Nat.mod c 256) 16777216) (Nat.shiftRight d 8) : Nat) : Int), ((Nat.add (Nat.mul (Nat.mod d 256) 16777216) (Nat.shiftRight e 8) : Nat) : Int), ((Nat.add (Nat.mul (Nat.mod e 256) 16777216) (Nat.shiftRight f 8) : Nat) : Int), ((Nat.add (Nat.mul (Nat.mod f 256) 16777216) (Nat.shiftRight g 8) : Nat) : Int), ((Nat.add (Nat.mul (Nat.mod g 256) 16777216) (Nat.shiftRight h 8) : Nat) : Int)]
  rw [word_first a ha, word_next a b ha hb, word_next b c hb hc, word_next c d hc hd, word_next d e hd he, word_next e f he hf, word_next f g hf hg, word_next g h hg hh, word_next h a hh ha]
theorem pad_end (x : Int) : lenTo ((padz [x] 64).set 1 128) (lenBits 65) 8 = [x, 128, 0, 0, 0, 0, 0, 0, 0, 0, 0, 0, 0, 0, 0, 0, 0, 0, 0, 0, 0, 0, 0, 0, 0, 0, 0, 0, 0, 0, 0, 0, 0, 0, 0, 0, 0, 0, 0, 0, 0, 0, 0, 0, 0, 0, 0, 0, 0, 0, 0, 0, 0, 0, 0, 0, 0, 0, 0, 0, 0, 0, 2, 8] := by kernel_rfl
theorem w16_blk2 (a b c d e f g h : Nat) (hh : h < 4294967296) : w16 [(h : Int) % 256, 128, 0, 0, 0, 0, 0, 0, 0, 0, 0, 0, 0, 0, 0, 0, 0, 0, 0, 0, 0, 0, 0, 0, 0, 0, 0, 0, 0, 0, 0, 0, 0, 0, 0, 0, 0, 0, 0, 0, 0, 0, 0, 0, 0, 0, 0, 0, 0, 0, 0, 0, 0, 0, 0, 0, 0, 0, 0, 0, 0, 0, 2, 8] 16 = up (blk2 [a, b, c, d, e, f, g, h]) := by
  show [word4 ((h : Int) % 256) 128 0 0, word4 0 0 0 0, word4 0 0 0 0, word4 0 0 0 0, word4 0 0 0 0, word4 0 0 0 0, word4 0 0 0 0, word4 0 0 0 0, word4 0 0 0 0, word4 0 0 0 0, word4 0 0 0 0, word4 0 0 0 0, word4 0 0 0 0, word4 0 0 0 0, word4 0 0 0 0, word4 0 0 2 8] = [((Nat.add (Nat.mul (Nat.mod h 256) 16777216) 8388608 : Nat) : Int), 0, 0, 0, 0, 0, 0, 0, 0, 0, 0, 0, 0, 0, 0, 520]
  rw [word_last h hh, show word4 0 0 0 0 = 0 by decide, show word4 0 0 2 8 = 520 by decide]
theorem blk1_b (a b c d e f g h : Nat) (ha : a < 4294967296) (hb : b < 4294967296) (hc : c < 4294967296) (hd : d < 4294967296) (he : e < 4294967296) (hf : f < 4294967296) (hg : g < 4294967296) (hh : h < 4294967296) : B32 (blk1 [a, b, c, d, e, f, g, h]) := by
  intro x hx
  have k : ∀ p q : Nat, q < 4294967296 → Nat.add (Nat.mul (Nat.mod p 256) 16777216) (Nat.shiftRight q 8) < 4294967296 := fun p q hq => by
    rw [shr8]; show p % 256 * 16777216 + q / 256 < _; omega
  have k1 : ∀ q : Nat, q < 4294967296 → Nat.add 16777216 (Nat.shiftRight q 8) < 4294967296 := fun q hq => by
    rw [shr8]; show 16777216 + q / 256 < _; omega
  simp only [blk1, List.mem_cons, List.not_mem_nil, or_false] at hx
  rcases hx with rfl | rfl | rfl | rfl | rfl | rfl | rfl | rfl | rfl | rfl | rfl | rfl | rfl | rfl | rfl | rfl
  · exact k1 a ha
  · exact k a b hb
  · exact k b c hc
  · exact k c d hd
  · exact k d e he
  · exact k e f hf
  · exact k f g hg
  · exact k g h hh
  · exact k h a ha
  · exact k a b hb
  · exact k b c hc
  · exact k c d hd
  · exact k d e he
  · exact k e f hf
  · exact k f g hg
  · exact k g h hh
theorem blk2_b (a b c d e f g h : Nat) : B32 (blk2 [a, b, c, d, e, f, g, h]) := by
  intro x hx
  have k : Nat.add (Nat.mul (Nat.mod h 256) 16777216) 8388608 < 4294967296 := by
    show h % 256 * 16777216 + 8388608 < _; omega
  simp only [blk2, List.mem_cons, List.not_mem_nil, or_false] at hx
  rcases hx with rfl | rfl | rfl | rfl | rfl | rfl | rfl | rfl | rfl | rfl | rfl | rfl | rfl | rfl | rfl | rfl
  · exact k
  all_goals decide
theorem fN_b : B32 fN := by intro x hx; revert x hx; decide
/-- Two digests of eight words beside one another behind the byte 1. -/
theorem branch_words (l : List Nat) (hl : l.length = 8) (hB : B32 l) : sha (1 :: (stBytes (up l) ++ stBytes (up l))) = stBytes (up (stepW l)) ∧ B32 (stepW l) ∧ (stepW l).length = 8 := by
  match l, hl with
  | [a, b, c, d, e, f, g, h], _ =>
    have ha := hB a (by simp)
    have hb := hB b (by simp)
    have hc := hB c (by simp)
    have hd := hB d (by simp)
    have he := hB e (by simp)
    have hf := hB f (by simp)
    have hg := hB g (by simp)
    have hh := hB h (by simp)
    obtain ⟨m1, m2, m3⟩ := mix_nat fN (blk1 [a, b, c, d, e, f, g, h]) _ rfl fN_b (w16_blk1 a b c d e f g h ha hb hc hd he hf hg hh) rfl (blk1_b a b c d e f g h ha hb hc hd he hf hg hh)
    obtain ⟨q1, q2, q3⟩ := mix_nat (mixN fN (blk1 [a, b, c, d, e, f, g, h])) (blk2 [a, b, c, d, e, f, g, h]) _ m3 m2 (w16_blk2 a b c d e f g h hh) rfl (blk2_b a b c d e f g h)
    refine ⟨?_, q2, q3⟩
    obtain ⟨m, hm⟩ : ∃ m : List Int, m = 1 :: (stBytes (up [a, b, c, d, e, f, g, h]) ++ stBytes (up [a, b, c, d, e, f, g, h])) := ⟨_, rfl⟩
    have hs : stOf m = mixF fTab [(1 : Int), (a : Int) / 16777216, (a : Int) / 65536 % 256, (a : Int) / 256 % 256, (a : Int) % 256, (b : Int) / 16777216, (b : Int) / 65536 % 256, (b : Int) / 256 % 256, (b : Int) % 256, (c : Int) / 16777216, (c : Int) / 65536 % 256, (c : Int) / 256 % 256, (c : Int) % 256, (d : Int) / 16777216, (d : Int) / 65536 % 256, (d : Int) / 256 % 256, (d : Int) % 256, (e : Int) / 16777216, (e : Int) / 65536 % 256, (e : Int) / 256 % 256, (e : Int) % 256, (f : Int) / 16777216, (f : Int) / 65536 % 256, (f : Int) / 256 % 256, (f : Int) % 256, (g : Int) / 16777216, (g : Int) / 65536 % 256, (g : Int) / 256 % 256, (g : Int) % 256, (h : Int) / 16777216, (h : Int) / 65536 % 256, (h : Int) / 256 % 256, (h : Int) % 256, (a : Int) / 16777216, (a : Int) / 65536 % 256, (a : Int) / 256 % 256, (a : Int) % 256, (b : Int) / 16777216, (b : Int) / 65536 % 256, (b : Int) / 256 % 256, (b : Int) % 256, (c : Int) / 16777216, (c : Int) / 65536 % 256, (c : Int) / 256 % 256, (c : Int) % 256, (d : Int) / 16777216, (d : Int) / 65536 % 256, (d : Int) / 256 % 256, (d : Int) % 256, (e : Int) / 16777216, (e : Int) / 65536 % 256, (e : Int) / 256 % 256, (e : Int) % 256, (f : Int) / 16777216, (f : Int) / 65536 % 256, (f : Int) / 256 % 256, (f : Int) % 256, (g : Int) / 16777216, (g : Int) / 65536 % 256, (g : Int) / 256 % 256, (g : Int) % 256, (h : Int) / 16777216, (h : Int) / 65536 % 256, (h : Int) / 256 % 256] := by rw [hm]; kernel_rfl
    have hr : restOf m = [(h : Int) % 256] := by rw [hm]; kernel_rfl
    have hn : m.length = 65 := by rw [hm]; kernel_rfl
    rw [← hm]
    unfold sha
    rw [hs, hr, hn]
    unfold padS
    rw [if_pos (by decide), show (((65 : Nat) : Int) % 64).toNat = 1 from rfl, show ((65 : Nat) : Int) = 65 from rfl, pad_end, fN_up, m1, q1]
    rfl
def PW (i : Nat) (r : List Nat) : Prop := emptyD 32 i = stBytes (up r) ∧ B32 r ∧ r.length = 8
theorem stB32 (r : List Nat) (hl : r.length = 8) : (stBytes (up r)).length = 32 := by rw [stBytes_len]; simp [up, hl]
theorem link {i : Nat} {r r' : List Nat} (h : PW i r) (hc : eqL (stepW r) r' = true) : PW (i + 1) r' := by
  obtain ⟨h1, h2, h3⟩ := h
  obtain ⟨q1, q2, q3⟩ := branch_words r h3 h2
  have e := eqL_eq _ _ hc
  rw [e] at q1 q2 q3
  refine ⟨?_, q2, q3⟩
  have hl := stB32 r h3
  show branchD 32 (emptyD 32 i) (emptyD 32 i) = _
  rw [h1, ← q1]
  unfold branchD
  rw [show kept 32 = 32 from rfl, cutZ_full _ (sha_len _)]
  unfold branchT
  rw [List.take_of_length_le (by omega)]
set_option maxRecDepth 100000 in
theorem p0 : PW 0 [3686905033, 16770189, 1465605541, 3325559809, 636902832, 4265485385, 1266084504, 1683478918] := by
  refine ⟨?_, by intro x hx; revert x hx; decide, rfl⟩
  show cutZ (sha [2]) (kept 32) = _
  rw [show kept 32 = 32 from rfl, cutZ_full _ (sha_len _)]
  kernel_rfl
end Go.Proofs.YtibpffoencjlcaaDoor
