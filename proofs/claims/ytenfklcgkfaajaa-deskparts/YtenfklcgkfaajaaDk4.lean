import Derived.Test.YtenfklcgkfaajaaDk3
namespace Go.Proofs.Ytenfklcgkfaajaa
set_option linter.unusedVariables false
set_option linter.unusedSimpArgs false
open Go.RowKit
attribute [local go_sem ↓] Go.wp_at_zero Go.wp_at_succ

def shC (s : Sh) : List Value := [.bool s.key, .bool s.high, .bool s.ver, .bool s.oth, .bool s.lim, .bool s.batch]
def rqC (op ver oth lim : Int) (k h b : Value) : List Value := [.int .i64 op, .int .i64 ver, .int .i64 oth, .int .i64 lim, k, h, b]
set_option maxRecDepth 100000 in
set_option maxHeartbeats 2000000 in
theorem shapeOf_any (w : World) (op : Int) (h0 : -9223372036854775808 ≤ op) (h1 : op ≤ 9223372036854775807) :
    Calls Try.prog 27 #[.int .i64 op] w fun e w' => e = .returned (.tuple #[.agg (shC (shO op)).toArray, .bool (knO op)]) ∧ Below w.heap.size w w' := by
  by_cases e1 : op = 1
  · subst e1
    go_enter Try.func27, Try.ntmps27
    go_wp2
    exact bodyPost_ret (v := .tuple #[.agg (shC (shO 1)).toArray, .bool (knO 1)]) (by simp [results, Try.results27, go_sem, shC, shO, knO, sh0]) rfl ⟨rfl, (Below.refl _ _).alloc (Nat.le_refl _) _⟩
  by_cases e2 : op = 2
  · subst e2
    go_enter Try.func27, Try.ntmps27
    go_wp2
    exact bodyPost_ret (v := .tuple #[.agg (shC (shO 2)).toArray, .bool (knO 2)]) (by simp [results, Try.results27, go_sem, shC, shO, knO, sh0]) rfl ⟨rfl, (Below.refl _ _).alloc (Nat.le_refl _) _⟩
  by_cases e3 : op = 3
  · subst e3
    go_enter Try.func27, Try.ntmps27
    go_wp2
    exact bodyPost_ret (v := .tuple #[.agg (shC (shO 3)).toArray, .bool (knO 3)]) (by simp [results, Try.results27, go_sem, shC, shO, knO, sh0]) rfl ⟨rfl, (Below.refl _ _).alloc (Nat.le_refl _) _⟩
  by_cases e4 : op = 4
  · subst e4
    go_enter Try.func27, Try.ntmps27
    go_wp2
    exact bodyPost_ret (v := .tuple #[.agg (shC (shO 4)).toArray, .bool (knO 4)]) (by simp [results, Try.results27, go_sem, shC, shO, knO, sh0]) rfl ⟨rfl, (Below.refl _ _).alloc (Nat.le_refl _) _⟩
  by_cases e5 : op = 5
  · subst e5
    go_enter Try.func27, Try.ntmps27
    go_wp2
    exact bodyPost_ret (v := .tuple #[.agg (shC (shO 5)).toArray, .bool (knO 5)]) (by simp [results, Try.results27, go_sem, shC, shO, knO, sh0]) rfl ⟨rfl, (Below.refl _ _).alloc (Nat.le_refl _) _⟩
  by_cases e6 : op = 6
  · subst e6
    go_enter Try.func27, Try.ntmps27
    go_wp2
    exact bodyPost_ret (v := .tuple #[.agg (shC (shO 6)).toArray, .bool (knO 6)]) (by simp [results, Try.results27, go_sem, shC, shO, knO, sh0]) rfl ⟨rfl, (Below.refl _ _).alloc (Nat.le_refl _) _⟩
  by_cases e7 : op = 7
  · subst e7
    go_enter Try.func27, Try.ntmps27
    go_wp2
    exact bodyPost_ret (v := .tuple #[.agg (shC (shO 7)).toArray, .bool (knO 7)]) (by simp [results, Try.results27, go_sem, shC, shO, knO, sh0]) rfl ⟨rfl, (Below.refl _ _).alloc (Nat.le_refl _) _⟩
  by_cases e8 : op = 8
  · subst e8
    go_enter Try.func27, Try.ntmps27
    go_wp2
    exact bodyPost_ret (v := .tuple #[.agg (shC (shO 8)).toArray, .bool (knO 8)]) (by simp [results, Try.results27, go_sem, shC, shO, knO, sh0]) rfl ⟨rfl, (Below.refl _ _).alloc (Nat.le_refl _) _⟩
  by_cases e9 : op = 9
  · subst e9
    go_enter Try.func27, Try.ntmps27
    go_wp2
    exact bodyPost_ret (v := .tuple #[.agg (shC (shO 9)).toArray, .bool (knO 9)]) (by simp [results, Try.results27, go_sem, shC, shO, knO, sh0]) rfl ⟨rfl, (Below.refl _ _).alloc (Nat.le_refl _) _⟩
  go_enter Try.func27, Try.ntmps27
  go_wp2
  have hk : knO op = false := by unfold knO; rw [decide_eq_false_iff_not]; omega
  have hs : shO op = sh0 := by unfold shO; simp [e1, e2, e3, e4, e5, e6, e7]
  rw [hk, hs]
  exact bodyPost_ret (v := .tuple #[.agg (shC sh0).toArray, .bool false]) (by simp [results, Try.results27, go_sem, shC, sh0]) rfl ⟨rfl, (Below.refl _ _).alloc (Nat.le_refl _) _⟩
end Go.Proofs.Ytenfklcgkfaajaa
