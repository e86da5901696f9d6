import Derived.Test.YtihkjfbhmlfonaaFa
namespace Go.Proofs.Ytihkjfbhmlfonaa
set_option linter.unusedVariables false
set_option linter.unusedSimpArgs false
open Go.RowKit
attribute [local go_sem ↓] Go.wp_at_zero Go.wp_at_succ

theorem not_u32m (a : Nat) (ha : a < 4294967296) : bits .xor .u32 IntKind.u32.max (a : Int) = ((inv a : Nat) : Int) := not_u32 a ha
set_option maxRecDepth 100000 in
set_option maxHeartbeats 400000 in
theorem upd_any (w : World) (c : Nat) (hc : c < 4294967296) (zs : List Int) (hb8 : Byts zs) (sp : Option Addr) (cap : Nat) (hS : Src w sp cap zs) :
    Calls Try.prog 98 #[.int .u32 c, .slice sp zs.length cap] w fun e w' => e = .returned (.int .u32 (updF c zs)) ∧ Below w.heap.size w w' := by
  have e1 := not_u32 c hc
  have e2 := not_u32m c hc
  have e3 := not_u32 _ (feed_lt zs hb8 _ (inv_lt hc))
  have e4 := not_u32m _ (feed_lt zs hb8 _ (inv_lt hc))
  have hsg : IntKind.u32.signed = false := rfl
  go_enter Try.func98, Try.ntmps98
  go_wp2_with fail
  refine (feed_any w (inv c) (inv_lt hc) zs hb8 sp cap hS).mono ?_
  rintro e w' ⟨rfl, hB⟩
  go_wp2
  go_ret
  exact ⟨rfl, hB⟩
set_option maxRecDepth 100000 in
set_option maxHeartbeats 400000 in
theorem sum_any (w : World) (zs : List Int) (hb8 : Byts zs) (sp : Option Addr) (cap : Nat) (hS : Src w sp cap zs) :
    Calls Try.prog 97 #[.slice sp zs.length cap] w fun e w' => e = .returned (.int .u32 (sumF zs)) ∧ Below w.heap.size w w' := by
  go_enter Try.func97, Try.ntmps97
  go_wp2_with fail
  refine (upd_any w 0 (by decide) zs hb8 sp cap hS).mono ?_
  rintro e w' ⟨rfl, hB⟩
  go_wp2
  go_ret
  exact ⟨rfl, hB⟩
end Go.Proofs.Ytihkjfbhmlfonaa
