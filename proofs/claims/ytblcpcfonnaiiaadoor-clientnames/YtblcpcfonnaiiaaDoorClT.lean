import Derived.Test.YtblcpcfonnaiiaaDoorTt9
namespace Go.Proofs.YtblcpcfonnaiiaaDoor
set_option linter.unusedVariables false
set_option linter.unusedSimpArgs false
open Go.RowKit

theorem word4_int (a b c d : Int) (ha : 0 ≤ a ∧ a < 256) (hb : 0 ≤ b ∧ b < 256) (hc : 0 ≤ c ∧ c < 256) (hd : 0 ≤ d ∧ d < 256) : word4 a b c d = a * 16777216 + b * 65536 + c * 256 + d := by
  have hw : ∀ m : Int, 0 ≤ m → m < 2 ^ 32 → IntKind.u32.wrap m = m := fun m h0 h1 => by rw [IntKind.wrap_u32]; omega
  unfold word4
  rw [hw a (by omega) (by omega), hw b (by omega) (by omega), hw c (by omega) (by omega), hw d (by omega) (by omega), hw (a * 16777216) (by omega) (by omega), hw (b * 65536) (by omega) (by omega), hw (c * 256) (by omega) (by omega)]
  rw [bits_join .u32 32 (by decide) hw 24 (a * 16777216) (b * 65536) (by omega) (by omega) (by omega) (by omega) (by omega) (by omega)]
  rw [bits_join .u32 32 (by decide) hw 16 (a * 16777216 + b * 65536) (c * 256) (by omega) (by omega) (by omega) (by omega) (by omega) (by omega)]
  rw [bits_join .u32 32 (by decide) hw 8 (a * 16777216 + b * 65536 + c * 256) d (by omega) (by omega) (by omega) (by omega) (by omega) (by omega)]
theorem shr8 (x : Nat) : Nat.shiftRight x 8 = x / 256 := Nat.shiftRight_eq_div_pow x 8
theorem word_next (p q : Nat) (hp : p < 4294967296) (hq : q < 4294967296) : word4 ((p : Int) % 256) ((q : Int) / 16777216) ((q : Int) / 65536 % 256) ((q : Int) / 256 % 256) = ((Nat.add (Nat.mul (Nat.mod p 256) 16777216) (Nat.shiftRight q 8) : Nat) : Int) := by
  rw [word4_int _ _ _ _ (by omega) (by omega) (by omega) (by omega), shr8]
  show _ = ((p % 256 * 16777216 + q / 256 : Nat) : Int)
  omega
theorem word_first (q : Nat) (hq : q < 4294967296) : word4 1 ((q : Int) / 16777216) ((q : Int) / 65536 % 256) ((q : Int) / 256 % 256) = ((Nat.add 16777216 (Nat.shiftRight q 8) : Nat) : Int) := by
  rw [word4_int _ _ _ _ (by omega) (by omega) (by omega) (by omega), shr8]
  show _ = ((16777216 + q / 256 : Nat) : Int)
  omega
theorem word_last (p : Nat) (hp : p < 4294967296) : word4 ((p : Int) % 256) 128 0 0 = ((Nat.add (Nat.mul (Nat.mod p 256) 16777216) 8388608 : Nat) : Int) := by
  rw [word4_int _ _ _ _ (by omega) (by omega) (by omega) (by omega)]
  show _ = ((p % 256 * 16777216 + 8388608 : Nat) : Int)
  omega
theorem fN_b : B32 fN := by intro x hx; revert x hx; decide
def blk4 (a : Nat) : List Nat := [Nat.add 16777216 (Nat.shiftRight a 8), Nat.add (Nat.mul (Nat.mod a 256) 16777216) (Nat.shiftRight a 8), Nat.add (Nat.mul (Nat.mod a 256) 16777216) 8388608, 0, 0, 0, 0, 0, 0, 0, 0, 0, 0, 0, 0, 72]
def step4 (a : Nat) : Nat := (mixN fN (blk4 a)).headD 0
theorem w16_blk4 (a : Nat) (ha : a < 4294967296) : w16 [(1 : Int), (a : Int) / 16777216, (a : Int) / 65536 % 256, (a : Int) / 256 % 256, (a : Int) % 256, (a : Int) / 16777216, (a : Int) / 65536 % 256, (a : Int) / 256 % 256, (a : Int) % 256, 128, 0, 0, 0, 0, 0, 0, 0, 0, 0, 0, 0, 0, 0, 0, 0, 0, 0, 0, 0, 0, 0, 0, 0, 0, 0, 0, 0, 0, 0, 0, 0, 0, 0, 0, 0, 0, 0, 0, 0, 0, 0, 0, 0, 0, 0, 0, 0, 0, 0, 0, 0, 0, 0, 72] 16 = up (blk4 a) := by
  show [word4 ((1 : Int)) ((a : Int) / 16777216) ((a : Int) / 65536 % 256) ((a : Int) / 256 % 256), word4 ((a : Int) % 256) ((a : Int) / 16777216) ((a : Int) / 65536 % 256) ((a : Int) / 256 % 256), word4 ((a : Int) % 256) (128) (0) (0), word4 (0) (0) (0) (0), word4 (0) (0) (0) (0), word4 (0) (0) (0) (0), word4 (0) (0) (0) (0), word4 (0) (0) (0) (0), word4 (0) (0) (0) (0), word4 (0) (0) (0) (0), word4 (0) (0) (0) (0), word4 (0) (0) (0) (0), word4 (0) (0) (0) (0), word4 (0) (0) (0) (0), word4 (0) (0) (0) (0), word4 (0) (0) (0) (72)] = [((Nat.add 16777216 (Nat.shiftRight a 8) : Nat) : Int), ((Nat.add (Nat.mul (Nat.mod a 256) 16777216) (Nat.shiftRight a 8) : Nat) : Int), ((Nat.add (Nat.mul (Nat.mod a 256) 16777216) 8388608 : Nat) : Int), 0, 0, 0, 0, 0, 0, 0, 0, 0, 0, 0, 0, 72]
  rw [word_first a ha, word_next a a ha ha, word_last a ha, show word4 0 0 0 0 = 0 by decide, show word4 0 0 0 72 = 72 by decide]
theorem blk4_b (a : Nat) (ha : a < 4294967296) : B32 (blk4 a) := by
  intro x hx
  simp only [blk4, List.mem_cons, List.not_mem_nil, or_false] at hx
  rcases hx with rfl | rfl | rfl | rfl | rfl | rfl | rfl | rfl | rfl | rfl | rfl | rfl | rfl | rfl | rfl | rfl
  · rw [shr8]; show 16777216 + a / 256 < _; omega
  · rw [shr8]; show a % 256 * 16777216 + a / 256 < _; omega
  · show a % 256 * 16777216 + 8388608 < _; omega
  all_goals decide
theorem pad_9 (x0 x1 x2 x3 x4 x5 x6 x7 x8 : Int) : lenTo ((padz [x0, x1, x2, x3, x4, x5, x6, x7, x8] 64).set 9 128) (lenBits 9) 8 = [x0, x1, x2, x3, x4, x5, x6, x7, x8, 128, 0, 0, 0, 0, 0, 0, 0, 0, 0, 0, 0, 0, 0, 0, 0, 0, 0, 0, 0, 0, 0, 0, 0, 0, 0, 0, 0, 0, 0, 0, 0, 0, 0, 0, 0, 0, 0, 0, 0, 0, 0, 0, 0, 0, 0, 0, 0, 0, 0, 0, 0, 0, 0, 72] := by kernel_rfl
def by4 (a : Nat) : List Int := [(a : Int) / 16777216, (a : Int) / 65536 % 256, (a : Int) / 256 % 256, (a : Int) % 256]
/-- The digest of the byte 1 and twice the four bytes of a word. -/
theorem branch4 (a : Nat) (ha : a < 4294967296) : ∃ r : List Nat, sha (1 :: (by4 a ++ by4 a)) = stBytes (up r) ∧ B32 r ∧ r.length = 8 ∧ r.headD 0 = step4 a := by
  obtain ⟨m1, m2, m3⟩ := mix_nat fN (blk4 a) _ rfl fN_b (w16_blk4 a ha) rfl (blk4_b a ha)
  refine ⟨mixN fN (blk4 a), ?_, m2, m3, rfl⟩
  obtain ⟨m, hm⟩ : ∃ m : List Int, m = 1 :: (by4 a ++ by4 a) := ⟨_, rfl⟩
  have hs : stOf m = fTab := by rw [hm]; kernel_rfl
  have hr : restOf m = [(1 : Int), (a : Int) / 16777216, (a : Int) / 65536 % 256, (a : Int) / 256 % 256, (a : Int) % 256, (a : Int) / 16777216, (a : Int) / 65536 % 256, (a : Int) / 256 % 256, (a : Int) % 256] := by rw [hm]; kernel_rfl
  have hn : m.length = 9 := by rw [hm]; kernel_rfl
  rw [← hm]
  unfold sha
  rw [hs, hr, hn]
  unfold padS
  rw [if_pos (by decide), show (((9 : Nat) : Int) % 64).toNat = 9 from rfl, show ((9 : Nat) : Int) = 9 from rfl, pad_9, fN_up, m1]
def PV (i : Nat) (a : Nat) : Prop := emptyD 4 i = by4 a ++ List.replicate 28 0 ∧ a < 4294967296
theorem cut_head (r : List Nat) (hB : B32 r) (hl : r.length = 8) (a : Nat) (h : r.headD 0 = a) : cutZ (stBytes (up r)) 4 = by4 a ++ List.replicate 28 0 ∧ a < 4294967296 := by
  match r, hl with
  | [x0, x1, x2, x3, x4, x5, x6, x7], _ =>
    obtain rfl : x0 = a := h
    exact ⟨by kernel_rfl, hB x0 (by simp)⟩
theorem link4 {i a b : Nat} (h : PV i a) (hc : Nat.beq (step4 a) b = true) : PV (i + 1) b := by
  obtain ⟨h1, h2⟩ := h
  obtain ⟨r, q1, q2, q3, q4⟩ := branch4 a h2
  have e := Nat.eq_of_beq_eq_true hc
  unfold PV
  rw [show emptyD 4 (i + 1) = cutZ (sha (branchT 4 (emptyD 4 i) (emptyD 4 i))) 4 from rfl, h1]
  rw [show branchT 4 (by4 a ++ List.replicate 28 0) (by4 a ++ List.replicate 28 0) = 1 :: (by4 a ++ by4 a) from rfl, q1]
  exact cut_head r q2 q3 b (q4.trans e)
set_option maxRecDepth 100000 in
theorem v0 : PV 0 3686905033 := by
  refine ⟨?_, by decide⟩
  show cutZ (sha [2]) (kept 4) = _
  kernel_rfl
end Go.Proofs.YtblcpcfonnaiiaaDoor
