import Derived.Test.YthhchbeaefcljaaG14
namespace Go.Proofs.Ythhchbeaefcljaa
set_option linter.unusedVariables false
set_option linter.unusedSimpArgs false
open Go.RowKit
attribute [local go_sem ↓] Go.wp_at_zero Go.wp_at_succ

set_option maxRecDepth 100000 in
set_option maxHeartbeats 400000 in
theorem FRead_bad (w : World) (base : Nat) (F : List Nat) (p : Nat) (D : DS) (h : DA w base F p D) (g : Nat) (s : Sup) (nx ep : Int) (hf : FK w g p s nx ep) (hlv : liveF D ep = 0) (q : Nat) (hq : 2 ≤ q ∧ (q : Int) < nx ∧ q < D.np) (hr : D.reads < 4000000000000000000) (hu : (unpackF q (D.readOf q)).2.2 ≠ 0) :
    Calls Try.prog 11 #[.pointer (some ⟨g, 0, none⟩), .int .i64 q] w fun e w' => e = .returned (.tuple #[.int .i64 0, .slice none 0 0, .int .i64 4]) ∧ DA w' base F p { D with reads := D.reads + 1 } ∧ FK w' g p s nx ep ∧ Fr F w w' := by
  have HL := hid (Live_any w base F p D h g s nx ep hf)
  rw [hlv] at HL
  have hpw := (live_0 hlv).2
  have fine := readOf_fine h.ok q hq.2.2
  have HH := hid (fun (w1 : World) (hb : Below w.heap.size w w1) => (show Calls Try.prog 29 #[.pointer (some ⟨g, 0, none⟩), .int .i64 (q : Int)] w1 fun e w' => e = .returned (.bool true) ∧ w1 = w' from by
    have := has_any w1 g p s nx ep (hf.below hb) q
    rwa [show decide (2 ≤ (q : Int) ∧ (q : Int) < nx) = true from decide_eq_true ⟨by omega, hq.2.1⟩] at this))
  have HRD := hid (fun (w1 : World) (hb : Below w.heap.size w w1) => Read_same w1 base F p D (h.below hb) hpw q hq.2.2 hr q rfl)
  have HC0 := hid (fun (w1 : World) (hb : Below w.heap.size w w1) => (show w1.cell? ⟨g, 0, none⟩ = some (.pointer (some ⟨p, 0, none⟩)) from (hf.below hb).cell 0))
  have HF := hid hf
  have HD := hid h
  obtain ⟨kd, hkd⟩ : ∃ kd, kd = (unpackF q (D.readOf q)).1 := ⟨_, rfl⟩
  obtain ⟨l, hl⟩ : ∃ l, l = (unpackF q (D.readOf q)).2.1 := ⟨_, rfl⟩
  obtain ⟨x, hx⟩ : ∃ x, x = (unpackF q (D.readOf q)).2.2 := ⟨_, rfl⟩
  have hz : (x != 0) = true := by rw [hx]; simpa using hu
  have HUP := hid (fun (w1 : World) (gp c : Nat) (hS : Src w1 (some ⟨gp, 0, none⟩) c (D.readOf q)) => (show Calls Try.prog 31 #[.int .i64 (q : Int), .slice (some ⟨gp, 0, none⟩) 256 c] w1 fun e w' => ∃ v, e = .returned (.tuple #[.int .i64 kd, v, .int .i64 x]) ∧ Own w' w1.heap.size v l ∧ Below w1.heap.size w1 w' from by
    have := unpack_any w1 q (D.readOf q) fine.2 (some ⟨gp, 0, none⟩) c hS
    rw [fine.1, ← hkd, ← hl, ← hx] at this
    exact this))
  clear h hf hlv hq hr hu fine hkd hl hx
  go_enter Try.func11, Try.ntmps11
  go_wp2_with fail
  refine HL.out.mono ?_
  rintro e w1 ⟨rfl, hb1⟩
  have HB1 := hid hb1
  have c0 := HC0.out w1 hb1
  clear hb1 HL
  go_wp2_with (first | (go_at_call 29; refine (HH.out w1 HB1.out).mono ?_; rintro e w0 ⟨rfl, rfl⟩))
  refine (HRD.out w1 HB1.out).mono ?_
  rintro e w2 ⟨gp, c, rfl, hO2, hS2, hg2, hD2, hF2⟩
  have HS2 := hid hS2
  have HD2 := hid hD2
  have HF2 := hid hF2
  clear hO2 hS2 hg2 hD2 hF2 HRD HH HC0 c0
  go_wp2_with fail
  refine (HUP.out w2 gp c HS2.out).mono ?_
  rintro e w3 ⟨v, rfl, hO3, hb3⟩
  have HB3 := hid hb3
  obtain ⟨spv, cv, hv, _, _⟩ := hO3.form
  subst hv
  clear hO3 hb3 HUP HS2
  go_wp2
  go_ret3
  refine ⟨rfl, HD2.out.below HB3.out, ?_, (((Fr.of_below (F := F) HB1.out).trans HF2.out (Gr.refl _ _)).tail (F' := F) HB3.out)⟩
  exact ((HF.out.below HB1.out).other (HD.out.below HB1.out) HF2.out).below HB3.out
end Go.Proofs.Ythhchbeaefcljaa
