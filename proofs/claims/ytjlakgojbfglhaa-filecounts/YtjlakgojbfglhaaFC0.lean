import Derived.Test.YtjlakgojbfglhaaG14
namespace Go.Proofs.Ytjlakgojbfglhaa
set_option linter.unusedVariables false
set_option linter.unusedSimpArgs false
open Go.RowKit
attribute [local go_sem ↓] Go.wp_at_zero Go.wp_at_succ

set_option maxRecDepth 100000 in
set_option maxHeartbeats 400000 in
theorem Append_kind (w : World) (base : Nat) (F : List Nat) (p : Nat) (D : DS) (h : DA w base F p D) (g : Nat) (s : Sup) (nx ep : Int) (hf : FK w g p s nx ep) (hlv : liveF D ep = 0) (kd : Int) (hk : kd < 1 ∨ 3 < kd) (sp : Option Addr) (l cap : Nat) :
    Calls Try.prog 10 #[.pointer (some ⟨g, 0, none⟩), .int .i64 kd, .slice sp l cap] w fun e w' => e = .returned (.tuple #[.int .i64 0, .int .i64 50]) ∧ Below w.heap.size w w' := by
  have HL := hid (Live_any w base F p D h g s nx ep hf)
  rw [hlv] at HL
  clear h hf hlv
  by_cases c : kd < 1
  · clear hk
    go_enter Try.func10, Try.ntmps10
    go_wp2_with (first | (go_at_call 15; refine HL.out.mono ?_; rintro e w1 ⟨rfl, hb1⟩))
    go_ret2
    exact ⟨rfl, hb1⟩
  · have c2 : 3 < kd := by omega
    clear hk
    go_enter Try.func10, Try.ntmps10
    go_wp2_with (first | (go_at_call 15; refine HL.out.mono ?_; rintro e w1 ⟨rfl, hb1⟩))
    go_ret2
    exact ⟨rfl, hb1⟩
set_option maxRecDepth 100000 in
set_option maxHeartbeats 400000 in
theorem Append_load (w : World) (base : Nat) (F : List Nat) (p : Nat) (D : DS) (h : DA w base F p D) (g : Nat) (s : Sup) (nx ep : Int) (hf : FK w g p s nx ep) (hlv : liveF D ep = 0) (kd : Int) (k1 : 1 ≤ kd) (k3 : kd ≤ 3) (sp : Option Addr) (l cap : Nat) (hl : 246 < (l : Int)) :
    Calls Try.prog 10 #[.pointer (some ⟨g, 0, none⟩), .int .i64 kd, .slice sp l cap] w fun e w' => e = .returned (.tuple #[.int .i64 0, .int .i64 51]) ∧ Below w.heap.size w w' := by
  have HL := hid (Live_any w base F p D h g s nx ep hf)
  rw [hlv] at HL
  clear h hf hlv
  go_enter Try.func10, Try.ntmps10
  go_wp2_with (first | (go_at_call 15; refine HL.out.mono ?_; rintro e w1 ⟨rfl, hb1⟩))
  go_ret2
  exact ⟨rfl, hb1⟩
set_option maxRecDepth 100000 in
set_option maxHeartbeats 400000 in
theorem FRead_page (w : World) (base : Nat) (F : List Nat) (p : Nat) (D : DS) (h : DA w base F p D) (g : Nat) (s : Sup) (nx ep : Int) (hf : FK w g p s nx ep) (hlv : liveF D ep = 0) (q : Int) (hq : ¬ (2 ≤ q ∧ q < nx)) :
    Calls Try.prog 9 #[.pointer (some ⟨g, 0, none⟩), .int .i64 q] w fun e w' => e = .returned (.tuple #[.int .i64 0, .slice none 0 0, .int .i64 41]) ∧ Below w.heap.size w w' := by
  have HL := hid (Live_any w base F p D h g s nx ep hf)
  rw [hlv] at HL
  have HH := hid (fun (w1 : World) (hb : Below w.heap.size w w1) => (show Calls Try.prog 19 #[.pointer (some ⟨g, 0, none⟩), .int .i64 q] w1 fun e w' => e = .returned (.bool false) ∧ w1 = w' from by
    have := has_any w1 g p s nx ep (hf.below hb) q
    rwa [show decide (2 ≤ q ∧ q < nx) = false from decide_eq_false hq] at this))
  clear h hf hlv hq
  go_enter Try.func9, Try.ntmps9
  go_wp2_with (first | (go_at_call 15; refine HL.out.mono ?_; rintro e w1 ⟨rfl, hb1⟩) | (go_at_call 19; refine (HH.out w1 hb1).mono ?_; rintro e w0 ⟨rfl, rfl⟩))
  go_ret3
  exact ⟨rfl, hb1⟩
set_option maxRecDepth 100000 in
set_option maxHeartbeats 400000 in
theorem Publish_page (w : World) (base : Nat) (F : List Nat) (p : Nat) (D : DS) (h : DA w base F p D) (g : Nat) (s : Sup) (nx ep : Int) (hf : FK w g p s nx ep) (hlv : liveF D ep = 0) (hd : Int) (hd0 : hd ≠ 0) (hh : ¬ (2 ≤ hd ∧ hd < nx)) :
    Calls Try.prog 14 #[.pointer (some ⟨g, 0, none⟩), .int .i64 hd] w fun e w' => e = .returned (.int .i64 41) ∧ Below w.heap.size w w' := by
  obtain ⟨w0, hw0⟩ : ∃ w0, w0 = w.alloc (.cells #[.pointer (some ⟨g, 0, none⟩)] 25) := ⟨_, rfl⟩
  have b0 : Below w.heap.size w w0 := by rw [hw0]; exact below_new _ _
  have r0 : w0.heap[w.heap.size]? = some (.cells #[.pointer (some ⟨g, 0, none⟩)] 25 (0, 0)) := by rw [hw0]; exact hnew _ _
  have HL := hid (Live_any w0 base F p D (h.below b0) g s nx ep (hf.below b0))
  rw [hlv] at HL
  have HB0 := hid b0
  have R0 := hid r0
  have W0 := hid hw0
  have HH := hid (fun (w1 : World) (hb : Below w0.heap.size w0 w1) => (show Calls Try.prog 19 #[.pointer (some ⟨g, 0, none⟩), .int .i64 hd] w1 fun e w' => e = .returned (.bool false) ∧ w1 = w' from by
    have := has_any w1 g p s nx ep ((hf.below b0).below hb) hd
    rwa [show decide (2 ≤ hd ∧ hd < nx) = false from decide_eq_false hh] at this))
  have hz : (hd != 0) = true := by simpa using hd0
  clear h hf hlv b0 r0 hw0 hd0 hh
  go_enter Try.func14, Try.ntmps14
  have c0 := cell_of_one R0.out
  go_wp2_with (first
    | (go_at_call 15; rw [← W0.out]; refine HL.out.mono ?_; rintro e w1 ⟨rfl, hb1⟩; have HB1 := hid hb1; have c1 := (hb1.cell (p := ⟨w.heap.size, 0, none⟩) (hlt_ R0.out)).trans c0; clear hb1)
    | (go_at_call 19; refine (HH.out w1 HB1.out).mono ?_; rintro e w2 ⟨rfl, rfl⟩))
  go_ret
  exact ⟨rfl, HB0.out.trans (HB1.out.mono HB0.out.size)⟩
end Go.Proofs.Ytjlakgojbfglhaa
