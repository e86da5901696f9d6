import Derived.Test.YtbgjnihkiolmlabGs
namespace Go.Proofs.Ytbgjnihkiolmlab
set_option linter.unusedVariables false
set_option linter.unusedSimpArgs false
open Go.RowKit
attribute [local go_sem ↓] Go.wp_at_zero Go.wp_at_succ

/-! A file that is not live. -/
set_option maxRecDepth 100000 in
set_option maxHeartbeats 400000 in
theorem Append_dead (w : World) (base : Nat) (F : List Nat) (p : Nat) (D : DS) (h : DA w base F p D) (g : Nat) (s : Sup) (nx ep : Int) (hf : FK w g p s nx ep) (x : Int) (hlv : liveF D ep = x) (hx : x ≠ 0) (kd : Int) (sp : Option Addr) (l cap : Nat) :
    Calls Try.prog 17 #[.pointer (some ⟨g, 0, none⟩), .int .i64 kd, .slice sp l cap] w fun e w' => e = .returned (.tuple #[.int .i64 0, .int .i64 x]) ∧ Below w.heap.size w w' := by
  have HL := hid (Live_any w base F p D h g s nx ep hf)
  rw [hlv] at HL
  have hz : (x != 0) = true := by simpa using hx
  clear h hf hlv hx
  go_enter Try.func17, Try.ntmps17
  go_wp2_with (first | (go_at_call 10; refine HL.out.mono ?_; rintro e w1 ⟨rfl, hb1⟩))
  go_ret2
  exact ⟨rfl, hb1⟩
set_option maxRecDepth 100000 in
set_option maxHeartbeats 400000 in
theorem FRead_dead (w : World) (base : Nat) (F : List Nat) (p : Nat) (D : DS) (h : DA w base F p D) (g : Nat) (s : Sup) (nx ep : Int) (hf : FK w g p s nx ep) (x : Int) (hlv : liveF D ep = x) (hx : x ≠ 0) (q : Int) :
    Calls Try.prog 18 #[.pointer (some ⟨g, 0, none⟩), .int .i64 q] w fun e w' => e = .returned (.tuple #[.int .i64 0, .slice none 0 0, .int .i64 x]) ∧ Below w.heap.size w w' := by
  have HL := hid (Live_any w base F p D h g s nx ep hf)
  rw [hlv] at HL
  have hz : (x != 0) = true := by simpa using hx
  clear h hf hlv hx
  go_enter Try.func18, Try.ntmps18
  go_wp2_with (first | (go_at_call 10; refine HL.out.mono ?_; rintro e w1 ⟨rfl, hb1⟩))
  go_ret3
  exact ⟨rfl, hb1⟩
set_option maxRecDepth 100000 in
set_option maxHeartbeats 400000 in
theorem Publish_dead (w : World) (base : Nat) (F : List Nat) (p : Nat) (D : DS) (h : DA w base F p D) (g : Nat) (s : Sup) (nx ep : Int) (hf : FK w g p s nx ep) (x : Int) (hlv : liveF D ep = x) (hx : x ≠ 0) (q : Int) :
    Calls Try.prog 19 #[.pointer (some ⟨g, 0, none⟩), .int .i64 q] w fun e w' => e = .returned (.int .i64 x) ∧ Below w.heap.size w w' := by
  have hb0 := below_new w (.cells #[.pointer (some ⟨g, 0, none⟩)] 26)
  have HL := hid (Live_any _ base F p D (h.below hb0) g s nx ep (hf.below hb0))
  rw [hlv] at HL
  have c0 := cell_of_one (hnew w (.cells #[.pointer (some ⟨g, 0, none⟩)] 26))
  have HB0 := hid hb0
  have hz : (x != 0) = true := by simpa using hx
  clear h hf hlv hx hb0
  go_enter Try.func19, Try.ntmps19
  go_wp2_with (first | (go_at_call 10; refine HL.out.mono ?_; rintro e w1 ⟨rfl, hb1⟩))
  go_ret
  exact ⟨rfl, HB0.out.trans (hb1.mono HB0.out.size)⟩
/-! Counts compared. -/
def cntC (a b c d : Int) : Array Value := #[.int .i64 a, .int .i64 b, .int .i64 c, .int .i64 d]
theorem guardN : Try.prog.eqGuardType Try.prog.depth 50 = false := by kernel_rfl
theorem eqCnt (a b c d : Int) (w : World) : (Op.equalIn 10000 50 (.agg (cntC a b c d)) (.agg (cntC a b c d))).run Try.prog w = .ok true w := by
  unfold cntC
  go_simp
theorem size_counts : (Try.prog.info? 50).map (·.size) = some 4 := by kernel_rfl
end Go.Proofs.Ytbgjnihkiolmlab
