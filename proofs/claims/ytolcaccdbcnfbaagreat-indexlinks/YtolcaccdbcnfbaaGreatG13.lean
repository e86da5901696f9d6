import Derived.Test.YtolcaccdbcnfbaaGreatG12
namespace Go.Proofs.YtolcaccdbcnfbaaGreat
set_option linter.unusedVariables false
set_option linter.unusedSimpArgs false
open Go.RowKit
attribute [local go_sem ↓] Go.wp_at_zero Go.wp_at_succ


theorem hlt_c {w : World} {a : Addr} {v : Value} (h : w.cell? a = some v) : a.block < w.heap.size := World.block_lt_of_cell? w a h
theorem cell_sup3 {w : World} {b : Nat} {s : Sup} {t : TypeId} (h : w.heap[b]? = some (.cells (supC s) t (0, 0))) : w.cell? ⟨b, 3, none⟩ = some (.int .i64 s.hd) := by simp [World.cell?, h, supC]
/-! Read. -/
set_option maxHeartbeats 400000 in
theorem FRead_ok (w : World) (base : Nat) (F : List Nat) (p : Nat) (D : DS) (h : DA w base F p D) (g : Nat) (s : Sup) (nx ep : Int) (hf : FK w g p s nx ep) (hlv : liveF D ep = 0) (q : Nat) (hq : 2 ≤ q ∧ (q : Int) < nx ∧ q < D.np) (hr : D.reads < 4000000000000000000) (kd : Int) (l : List Int) (hu : unpackF q (D.readOf q) = (kd, l, 0)) (z : Int) (hz : z = (q : Int)) :
    Calls Tryz.prog 55 #[.pointer (some ⟨g, 0, none⟩), .int .i64 z] w fun e w' => ∃ v, e = .returned (.tuple #[.int .i64 kd, v, .int .i64 0]) ∧ Own w' w.heap.size v l ∧ DA w' base F p { D with reads := D.reads + 1 } ∧ FK w' g p s nx ep ∧ Fr F w w' := by
  subst hz
  have HL := hid (Live_any w base F p D h g s nx ep hf)
  rw [hlv] at HL
  have hpw := (live_0 hlv).2
  have fine := readOf_fine h.ok q hq.2.2
  have HFN := hid fine
  have HH := hid (fun (w1 : World) (hb : Below w.heap.size w w1) => (show Calls Tryz.prog 76 #[.pointer (some ⟨g, 0, none⟩), .int .i64 (q : Int)] w1 fun e w' => e = .returned (.bool true) ∧ w1 = w' from by
    have := has_any w1 g p s nx ep (hf.below hb) q
    rwa [show decide (2 ≤ (q : Int) ∧ (q : Int) < nx) = true from decide_eq_true ⟨by omega, hq.2.1⟩] at this))
  have HRD := hid (fun (w1 : World) (hb : Below w.heap.size w w1) => Read_same w1 base F p D (h.below hb) hpw q hq.2.2 hr q rfl)
  have HC0 := hid (fun (w1 : World) (hb : Below w.heap.size w w1) => (show w1.cell? ⟨g, 0, none⟩ = some (.pointer (some ⟨p, 0, none⟩)) from (hf.below hb).cell 0))
  have HF := hid hf
  have HD := hid h
  have HU := hid hu
  have HUP := hid (fun (w1 : World) (gp c : Nat) (hS : Src w1 (some ⟨gp, 0, none⟩) c (D.readOf q)) => (show Calls Tryz.prog 77 #[.int .i64 (q : Int), .slice (some ⟨gp, 0, none⟩) 256 c] w1 fun e w' => ∃ v, e = .returned (.tuple #[.int .i64 kd, v, .int .i64 0]) ∧ Own w' w1.heap.size v l ∧ Below w1.heap.size w1 w' from by
    have := unpack_any w1 q (D.readOf q) fine.2 (some ⟨gp, 0, none⟩) c hS
    rw [fine.1, hu] at this
    exact this))
  clear h hf hlv hq hr hu fine
  go_enter Tryz.func55, Tryz.ntmps55
  go_wp2_with fail
  refine HL.out.mono ?_
  rintro e w1 ⟨rfl, hb1⟩
  have HB1 := hid hb1
  have c0 := HC0.out w1 hb1
  clear hb1 HL
  go_wp2_with (first | (go_at_call 76; refine (HH.out w1 HB1.out).mono ?_; rintro e w0 ⟨rfl, rfl⟩))
  refine (HRD.out w1 HB1.out).mono ?_
  rintro e w2 ⟨gp, c, rfl, hO2, hS2, hg2, hD2, hF2⟩
  have HS2 := hid hS2
  have HD2 := hid hD2
  have HF2 := hid hF2
  clear hO2 hS2 hg2 hD2 hF2 HRD HH HC0 c0
  go_wp2_with fail
  refine (HUP.out w2 gp c HS2.out).mono ?_
  rintro e w3 ⟨v, rfl, hO3, hb3⟩
  have hw3 : w.heap.size ≤ w3.heap.size := Nat.le_trans HB1.out.size (Nat.le_trans HF2.out.size hb3.size)
  have HO3 := hid hO3
  have HB3 := hid hb3
  obtain ⟨spv, cv, hv, _, _⟩ := hO3.form
  subst hv
  clear hO3 hb3 HUP HS2
  go_wp2
  go_ret3
  refine ⟨_, rfl, HO3.out.base (Nat.le_trans HB1.out.size HF2.out.size), HD2.out.below HB3.out, ?_, (((Fr.of_below (F := F) HB1.out).trans HF2.out (Gr.refl _ _)).tail (F' := F) HB3.out)⟩
  exact ((HF.out.below HB1.out).other (HD.out.below HB1.out) HF2.out).below HB3.out
/-! Publish. -/
theorem FK.setSup {w : World} {g p : Nat} {s : Sup} {nx ep : Int} (h : FK w g p s nx ep) (s2 : Sup) : FK (w.setCells g 1 (supC s2).toList) g p s2 nx ep := by
  have h1 := heap_setCell_same w g 1 _ _ (.int .i64 s2.wd) h
  have h2 := heap_setCell_same _ g 2 _ _ (.int .i64 s2.ge) h1
  have h3 := heap_setCell_same _ g 3 _ _ (.int .i64 s2.ma) h2
  have h4 := heap_setCell_same _ g 4 _ _ (.int .i64 s2.hd) h3
  have h5 := heap_setCell_same _ g 5 _ _ (.int .i64 s2.pg) h4
  exact h5
theorem FK.range {w : World} {g p : Nat} {s : Sup} {nx ep : Int} (h : FK w g p s nx ep) : w.rangeAt g 1 (supL s) := fun j v hv => by
  rw [h.cell]
  rcases j with _ | _ | _ | _ | _ | j <;> first | exact hv | (simp [supL] at hv)
theorem FK.there {w : World} {g p : Nat} {s : Sup} {nx ep : Int} (h : FK w g p s nx ep) : w.there g 1 5 := fun j hj => by
  refine ⟨?_, h.fz _⟩
  rw [h.cell]
  rcases j with _ | _ | _ | _ | _ | j
  all_goals first | rfl | omega
theorem Fr.setCells {F : List Nat} {a b : World} {g : Nat} (h : Fr F a b) (hg : g ∈ F) (s2 : Sup) : Fr F a (b.setCells g 1 (supC s2).toList) :=
  ((((h.setCell hg 1 (.int .i64 s2.wd)).setCell hg 2 (.int .i64 s2.ge)).setCell hg 3 (.int .i64 s2.ma)).setCell hg 4 (.int .i64 s2.hd)).setCell hg 5 (.int .i64 s2.pg)
theorem Fr.mono {F G : List Nat} {a b : World} (h : Fr F a b) (hs : ∀ k ∈ F, k ∈ G) : Fr G a b := ⟨h.os, h.tape, h.output, h.size, fun k hk hn => h.block k hk (fun e => hn (hs k e))⟩
end Go.Proofs.YtolcaccdbcnfbaaGreat
