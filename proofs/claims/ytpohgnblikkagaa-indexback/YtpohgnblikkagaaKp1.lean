import Derived.Test.YtpohgnblikkagaaVt9
namespace Go.Proofs.Ytpohgnblikkagaa
set_option linter.unusedVariables false
set_option linter.unusedSimpArgs false
open Go.RowKit
attribute [local go_sem ↓] Go.wp_at_zero Go.wp_at_succ

/-- The mark of a place in a list. -/
def mkK (i k : Nat) : Int := IntKind.u8.wrap (37 * (i : Int) + 11 * (k : Int) + 91 * ((i / 256 : Nat) : Int) + 5 * ((k / 256 : Nat) : Int))
/-- A list of marks. -/
def mksK (i n : Nat) : List Int := (List.range n).map (mkK i)
theorem mksK_len (i n : Nat) : (mksK i n).length = n := by simp [mksK]
theorem mksK_get (i n j : Nat) (h : j < n) : (mksK i n).getD j 0 = mkK i j := by simp [mksK, List.getD_eq_getElem?_getD, h]
theorem mksK_succ (i n : Nat) : mksK i (n + 1) = mksK i n ++ [mkK i n] := by simp [mksK, List.range_succ]
set_option maxRecDepth 100000 in
set_option maxHeartbeats 400000 in
theorem mark_any (w : World) (i k : Nat) (hi : i ≤ 1048576000) (hk : k ≤ 140737488355328) :
    Calls Try.prog 16 #[.int .i64 i, .int .i64 k] w fun e w' => e = .returned (.int .u8 (mkK i k)) ∧ w' = w := by
  have i1 : (i : Int) ≤ 1048576000 := by omega
  have i2 : (k : Int) ≤ 140737488355328 := by omega
  have HM := hid (show mkK i k = IntKind.u8.wrap (37 * (i : Int) + 11 * (k : Int) + 91 * ((i : Int) / 256) + 5 * ((k : Int) / 256)) from rfl)
  go_enter Try.func16, Try.ntmps16
  go_wp2
  go_ret
  refine ⟨?_, rfl⟩
  rw [HM.out]; rfl
end Go.Proofs.Ytpohgnblikkagaa
