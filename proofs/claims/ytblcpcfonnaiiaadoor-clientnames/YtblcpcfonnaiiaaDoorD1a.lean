import Derived.Test.YtblcpcfonnaiiaaDoorRows
import Derived.Test.YtblcpcfonnaiiaaDoorKt
namespace Go.Proofs.YtblcpcfonnaiiaaDoor
set_option linter.unusedVariables false
set_option linter.unusedSimpArgs false
open Go.RowKit

theorem rot_and : ∀ n : Nat, n < 32 → 1 ≤ n → bits BinOp.and IntKind.u64 (IntKind.u64.wrap (-(n : Int))) 31 = 32 - n := by decide

/-- x turned n places down, as the program reckons it. -/
def ror (x : Int) (n : Nat) : Int := bits .or .u32 (x * 2 ^ (32 - n) % 4294967296) (x / 2 ^ n)

set_option maxRecDepth 100000 in
set_option maxHeartbeats 400000 in
theorem rot_any (x k s : Int) (hx : 0 ≤ x) (hx2 : x ≤ 4294967295) (hs : 0 ≤ s) (hs2 : s ≤ 31) (hk : bits BinOp.and IntKind.u64 (IntKind.u64.wrap k) 31 = s) (w : World) :
    Calls Tryd.prog 74 #[.int .u32 x, .int .i64 k] w fun e w' => e = .returned (.int .u32 (bits .or .u32 (x * 2 ^ s.toNat % 4294967296) (x / 2 ^ (32 - s).toNat))) ∧ w' = w := by
  go_enter Tryd.func74, Tryd.ntmps74
  go_wp2
  go_ret
  exact ⟨rfl, rfl⟩

set_option maxRecDepth 100000 in
set_option maxHeartbeats 400000 in
theorem turn_any (x : Int) (n : Nat) (hx : 0 ≤ x) (hx2 : x ≤ 4294967295) (hn : 1 ≤ n) (hn2 : n ≤ 31) (w : World) :
    Calls Tryd.prog 72 #[.int .u32 x, .int .i64 n] w fun e w' => e = .returned (.int .u32 (ror x n)) ∧ w' = w := by
  have i1 : (1 : Int) ≤ n := by omega
  have i2 : (n : Int) ≤ 31 := by omega
  go_enter Tryd.func72, Tryd.ntmps72
  go_wp2_with fail
  refine (rot_any x _ (32 - n) hx hx2 (by omega) (by omega) (rot_and n (by omega) hn) _).mono ?_
  rintro e w' ⟨rfl, rfl⟩
  go_wp2
  go_ret
  exact ⟨by rw [ror, show ((32 : Int) - (32 - n)).toNat = n by omega]; rfl, rfl⟩

def pickF (x y z : Int) : Int := bits BinOp.xor IntKind.u32 (bits BinOp.and IntKind.u32 x y) (bits BinOp.and IntKind.u32 (bits BinOp.xor IntKind.u32 IntKind.u32.max x) z)
def mostF (x y z : Int) : Int := bits BinOp.xor IntKind.u32 (bits BinOp.xor IntKind.u32 (bits BinOp.and IntKind.u32 x y) (bits BinOp.and IntKind.u32 x z)) (bits BinOp.and IntKind.u32 y z)
def high1F (x : Int) : Int := bits BinOp.xor IntKind.u32 (bits BinOp.xor IntKind.u32 (ror x 6) (ror x 11)) (ror x 25)
def high0F (x : Int) : Int := bits BinOp.xor IntKind.u32 (bits BinOp.xor IntKind.u32 (ror x 2) (ror x 13)) (ror x 22)
def low1F (x : Int) : Int := bits BinOp.xor IntKind.u32 (bits BinOp.xor IntKind.u32 (ror x 17) (ror x 19)) (x / 1024)
def low0F (x : Int) : Int := bits BinOp.xor IntKind.u32 (bits BinOp.xor IntKind.u32 (ror x 7) (ror x 18)) (x / 8)

set_option maxRecDepth 100000 in
set_option maxHeartbeats 400000 in
theorem pick_any (x y z : Int) (w : World) :
    Calls Tryd.prog 63 #[.int .u32 x, .int .u32 y, .int .u32 z] w fun e w' => e = .returned (.int .u32 (pickF x y z)) ∧ w' = w := by
  have hsg : IntKind.u32.signed = false := rfl
  go_enter Tryd.func63, Tryd.ntmps63
  go_wp2
  go_ret
  exact ⟨rfl, rfl⟩
set_option maxRecDepth 100000 in
set_option maxHeartbeats 400000 in
theorem most_any (x y z : Int) (w : World) :
    Calls Tryd.prog 65 #[.int .u32 x, .int .u32 y, .int .u32 z] w fun e w' => e = .returned (.int .u32 (mostF x y z)) ∧ w' = w := by
  go_enter Tryd.func65, Tryd.ntmps65
  go_wp2
  go_ret
  exact ⟨rfl, rfl⟩

set_option maxRecDepth 100000 in
set_option maxHeartbeats 400000 in
theorem high1_any (x : Int) (hx : 0 ≤ x) (hx2 : x ≤ 4294967295) (w : World) :
    Calls Tryd.prog 62 #[.int .u32 x] w fun e w' => e = .returned (.int .u32 (high1F x)) ∧ w' = w := by
  go_enter Tryd.func62, Tryd.ntmps62
  go_wp2_with fail
  refine (turn_any x 6 hx hx2 (by omega) (by omega) _).mono ?_
  rintro e w' ⟨rfl, rfl⟩
  go_wp2_with fail
  refine (turn_any x 11 hx hx2 (by omega) (by omega) _).mono ?_
  rintro e w' ⟨rfl, rfl⟩
  go_wp2_with fail
  refine (turn_any x 25 hx hx2 (by omega) (by omega) _).mono ?_
  rintro e w' ⟨rfl, rfl⟩
  go_wp2_with fail
  go_ret
  exact ⟨rfl, rfl⟩
set_option maxRecDepth 100000 in
set_option maxHeartbeats 400000 in
theorem high0_any (x : Int) (hx : 0 ≤ x) (hx2 : x ≤ 4294967295) (w : World) :
    Calls Tryd.prog 64 #[.int .u32 x] w fun e w' => e = .returned (.int .u32 (high0F x)) ∧ w' = w := by
  go_enter Tryd.func64, Tryd.ntmps64
  go_wp2_with fail
  refine (turn_any x 2 hx hx2 (by omega) (by omega) _).mono ?_
  rintro e w' ⟨rfl, rfl⟩
  go_wp2_with fail
  refine (turn_any x 13 hx hx2 (by omega) (by omega) _).mono ?_
  rintro e w' ⟨rfl, rfl⟩
  go_wp2_with fail
  refine (turn_any x 22 hx hx2 (by omega) (by omega) _).mono ?_
  rintro e w' ⟨rfl, rfl⟩
  go_wp2_with fail
  go_ret
  exact ⟨rfl, rfl⟩
set_option maxRecDepth 100000 in
set_option maxHeartbeats 400000 in
theorem low1_any (x : Int) (hx : 0 ≤ x) (hx2 : x ≤ 4294967295) (w : World) :
    Calls Tryd.prog 70 #[.int .u32 x] w fun e w' => e = .returned (.int .u32 (low1F x)) ∧ w' = w := by
  go_enter Tryd.func70, Tryd.ntmps70
  go_wp2_with fail
  refine (turn_any x 17 hx hx2 (by omega) (by omega) _).mono ?_
  rintro e w' ⟨rfl, rfl⟩
  go_wp2_with fail
  refine (turn_any x 19 hx hx2 (by omega) (by omega) _).mono ?_
  rintro e w' ⟨rfl, rfl⟩
  go_wp2_with fail
  go_ret
  exact ⟨rfl, rfl⟩
set_option maxRecDepth 100000 in
set_option maxHeartbeats 400000 in
theorem low0_any (x : Int) (hx : 0 ≤ x) (hx2 : x ≤ 4294967295) (w : World) :
    Calls Tryd.prog 71 #[.int .u32 x] w fun e w' => e = .returned (.int .u32 (low0F x)) ∧ w' = w := by
  go_enter Tryd.func71, Tryd.ntmps71
  go_wp2_with fail
  refine (turn_any x 7 hx hx2 (by omega) (by omega) _).mono ?_
  rintro e w' ⟨rfl, rfl⟩
  go_wp2_with fail
  refine (turn_any x 18 hx hx2 (by omega) (by omega) _).mono ?_
  rintro e w' ⟨rfl, rfl⟩
  go_wp2_with fail
  go_ret
  exact ⟨rfl, rfl⟩
end Go.Proofs.YtblcpcfonnaiiaaDoor
