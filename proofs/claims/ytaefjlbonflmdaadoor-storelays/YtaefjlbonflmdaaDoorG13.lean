import Derived.Test.YtaefjlbonflmdaaDoorG12
namespace Go.Proofs.YtaefjlbonflmdaaDoor
set_option linter.unusedVariables false
set_option linter.unusedSimpArgs false
open Go.RowKit
attribute [local go_sem ↓] Go.wp_at_zero Go.wp_at_succ


theorem hlt_c {w : World} {a : Addr} {v : Value} (h : w.cell? a = some v) : a.block < w.heap.size := World.block_lt_of_cell? w a h
theorem cell_sup3 {w : World} {b : Nat} {s : Sup} {t : TypeId} (h : w.heap[b]? = some (.cells (supC s) t (0, 0))) : w.cell? ⟨b, 3, none⟩ = some (.int .i64 s.hd) := by simp [World.cell?, h, supC]
/-! Read. -/
set_option maxHeartbeats 400000 in
theorem FRead_ok (w : World) (base : Nat) (F : List Nat) (p : Nat) (D : DS) (h : DA w base F p D) (g : Nat) (s : Sup) (nx ep : Int) (hf : FK w g p s nx ep) (hlv : liveF D ep = 0) (q : Nat) (hq : 2 ≤ q ∧ (q : Int) < nx ∧ q < D.np) (hr : D.reads < 4000000000000000000) (kd : Int) (l : List Int) (hu : unpackF q (D.readOf q) = (kd, l, 0)) (z : Int) (hz : z = (q : Int)) :
    Calls Tryd.prog 42 #[.pointer (some ⟨g, 0, none⟩), .int .i64 z] w fun e w' => ∃ v, e = .returned (.tuple #[.int .i64 kd, v, .int .i64 0]) ∧ Own w' w.heap.size v l ∧ DA w' base F p { D with reads := D.reads + 1 } ∧ FK w' g p s nx ep ∧ Fr F w w' := by
  subst hz
  have HL := hid (Live_any w base F p D h g s nx ep hf)
  rw [hlv] at HL
  have hpw := (live_0 hlv).2
  have fine := readOf_fine h.ok q hq.2.2
  have HFN := hid fine
  have HH := hid (fun (w1 : World) (hb : Below w.heap.size w w1) => (show Calls Tryd.prog 64 #[.pointer (some ⟨g, 0, none⟩), .int .i64 (q : Int)] w1 fun e w' => e = .returned (.bool true) ∧ w1 = w' from by
    have := has_any w1 g p s nx ep (hf.below hb) q
    rwa [show decide (2 ≤ (q : Int) ∧ (q : Int) < nx) = true from decide_eq_true ⟨by omega, hq.2.1⟩] at this))
  have HRD := hid (fun (w1 : World) (hb : Below w.heap.size w w1) => Read_same w1 base F p D (h.below hb) hpw q hq.2.2 hr q rfl)
  have HC0 := hid (fun (w1 : World) (hb : Below w.heap.size w w1) => (show w1.cell? ⟨g, 0, none⟩ = some (.pointer (some ⟨p, 0, none⟩)) from (hf.below hb).cell 0))
  have HF := hid hf
  have HD := hid h
  have HU := hid hu
  have HUP := hid (fun (w1 : World) (gp c : Nat) (hS : Src w1 (some ⟨gp, 0, none⟩) c (D.readOf q)) => (show Calls Tryd.prog 65 #[.int .i64 (q : Int), .slice (some ⟨gp, 0, none⟩) 256 c] w1 fun e w' => ∃ v, e = .returned (.tuple #[.int .i64 kd, v, .int .i64 0]) ∧ Own w' w1.heap.size v l ∧ Below w1.heap.size w1 w' from by
    have := unpack_any w1 q (D.readOf q) fine.2 (some ⟨gp, 0, none⟩) c hS
    rw [fine.1, hu] at this
    exact this))
  clear h hf hlv hq hr hu fine
  go_enter Tryd.func42, Tryd.ntmps42
  go_wp2_with fail
  refine HL.out.mono ?_
  rintro e w1 ⟨rfl, hb1⟩
  have HB1 := hid hb1
  have c0 := HC0.out w1 hb1
  clear hb1 HL
  go_wp2_with (first | (go_at_call 64; refine (HH.out w1 HB1.out).mono ?_; rintro e w0 ⟨rfl, rfl⟩))
  refine (HRD.out w1 HB1.out).mono ?_
  rintro e w2 ⟨gp, c, rfl, hO2, hS2, hg2, hD2, hF2⟩
  have HS2 := hid hS2
  have HD2 := hid hD2
  have HF2 := hid hF2
  clear hO2 hS2 hg2 hD2 hF2 HRD HH HC0 c0
  go_wp2_with fail
  refine (HUP.out w2 gp c HS2.out).mono ?_
  rintro e w3 ⟨v, rfl, hO3, hb3⟩
  have hw3 : w.heap.size ≤ w3.heap.size := Nat.le_trans HB1.out.size (Nat.le_trans HF2.out.size hb3.size)
  have HO3 := hid hO3
  have HB3 := hid hb3
  obtain ⟨spv, cv, hv, _, _⟩ := hO3.form
  subst hv
  clear hO3 hb3 HUP HS2
  go_wp2
  go_ret3
  refine ⟨_, rfl, HO3.out.base (Nat.le_trans HB1.out.size HF2.out.size), HD2.out.below HB3.out, ?_, (((Fr.of_below (F := F) HB1.out).trans HF2.out (Gr.refl _ _)).tail (F' := F) HB3.out)⟩
  exact ((HF.out.below HB1.out).other (HD.out.below HB1.out) HF2.out).below HB3.out
/-! Publish. -/
theorem FK.setSup {w : World} {g p : Nat} {s : Sup} {nx ep : Int} (h : FK w g p s nx ep) (s2 : Sup) : FK (w.setCells g 1 (supC s2).toList) g p s2 nx ep := by
  have h1 := heap_setCell_same w g 1 _ _ (.int .i64 s2.wd) h
  have h2 := heap_setCell_same _ g 2 _ _ (.int .i64 s2.ge) h1
  have h3 := heap_setCell_same _ g 3 _ _ (.int .i64 s2.ma) h2
  have h4 := heap_setCell_same _ g 4 _ _ (.int .i64 s2.hd) h3
  have h5 := heap_setCell_same _ g 5 _ _ (.int .i64 s2.pg) h4
  exact h5
theorem FK.range {w : World} {g p : Nat} {s : Sup} {nx ep : Int} (h : FK w g p s nx ep) : w.rangeAt g 1 (supL s) := fun j v hv => by
  rw [h.cell]
  rcases j with _ | _ | _ | _ | _ | j <;> first | exact hv | (simp [supL] at hv)
theorem FK.there {w : World} {g p : Nat} {s : Sup} {nx ep : Int} (h : FK w g p s nx ep) : w.there g 1 5 := fun j hj => by
  refine ⟨?_, h.fz _⟩
  rw [h.cell]
  rcases j with _ | _ | _ | _ | _ | j
  all_goals first | rfl | omega
theorem Fr.setCells {F : List Nat} {a b : World} {g : Nat} (h : Fr F a b) (hg : g ∈ F) (s2 : Sup) : Fr F a (b.setCells g 1 (supC s2).toList) :=
  ((((h.setCell hg 1 (.int .i64 s2.wd)).setCell hg 2 (.int .i64 s2.ge)).setCell hg 3 (.int .i64 s2.ma)).setCell hg 4 (.int .i64 s2.hd)).setCell hg 5 (.int .i64 s2.pg)
set_option maxHeartbeats 400000 in
theorem Publish1_any (w : World) (g p : Nat) (s s2 : Sup) (nx ep : Int) (hf : FK w g p s nx ep) (G2 G6 : Nat) (h2 : w.heap[G2]? = some (.cells #[.pointer (some ⟨g, 0, none⟩)] 49 (0, 0))) (h6 : w.heap[G6]? = some (.cells (supC s2) 31 (0, 0))) :
    Calls Tryd.prog 71 #[.pointer (some ⟨G6, 0, none⟩), .pointer (some ⟨G2, 0, none⟩)] w fun e w' => e = .returned (.int .i64 0) ∧ FK w' g p s2 nx ep ∧ Fr [g] w w' := by
  have c2 := cell_of_one h2
  have HF := hid hf
  have R6 := hid h6
  clear h2 h6 hf
  go_enter Tryd.func71, Tryd.ntmps71
  go_wp2_with (first
    | (refine wpList_load_row_w (by rfl) 31 (.tmp 0) (by rfl) G6 (by rfl) 31 (supC s2) (0, 0) _ (by exact R6.out) Tryd.underlying31 rfl (supN s2) ?_)
    | (refine wpList_store_mid (by rfl) 31 (.tmp 6) (.tmp 4) (by rfl) g 1 (supC s2) (by rfl) (by rfl) (by exact HF.out.there) (supN s2) (supO s2) ?_; generalize hw1 : w.setCells g 1 (supC s2).toList = w1 at *))
  go_ret
  refine ⟨rfl, ?_, ?_⟩
  · rw [← hw1]; exact HF.out.setSup s2
  · rw [← hw1]; exact (Fr.refl [g] w).setCells (List.mem_singleton.2 rfl) s2
theorem ent_pub : ∀ (args : Array Value) (w : World), (callFunc 71 args).run Tryd.prog w = .ok (.enter 71 args) w := enters_of Tryd.func71 (by kernel_rfl) rfl
theorem Fr.mono {F G : List Nat} {a b : World} (h : Fr F a b) (hs : ∀ k ∈ F, k ∈ G) : Fr G a b := ⟨h.os, h.tape, h.output, h.size, fun k hk hn => h.block k hk (fun e => hn (hs k e))⟩
/-- The steps of a Publish. -/
theorem pubturn_any (w : World) (base : Nat) (F : List Nat) (p : Nat) (D0 : DS) (h : DA w base F p D0) (hbw : base ≤ w.heap.size) (g : Nat) (s s2 : Sup) (nx ep : Int) (hf : FK w g p s nx ep) (hb : Bud D0 3) (a b : Nat) (ht : (St.lay s2 a b).there w p) (G2 G6 : Nat) (h2 : w.heap[G2]? = some (.cells #[.pointer (some ⟨g, 0, none⟩)] 49 (0, 0))) (h6 : w.heap[G6]? = some (.cells (supC s2) 31 (0, 0)))
    (k : Nat) (hk : w.heap[k]? = some (.cells #[.func (.func 38) #[.pointer (some ⟨p, 0, none⟩)] #[], .func (.func 57) #[] #[.pointer (some ⟨b, 0, none⟩), .pointer (some ⟨a, 0, none⟩)], .func (.func 38) #[.pointer (some ⟨p, 0, none⟩)] #[], .func (.func 71) #[] #[.pointer (some ⟨G6, 0, none⟩), .pointer (some ⟨G2, 0, none⟩)]] 82 (0, 0))) :
    Calls Tryd.prog 36 #[.slice (some ⟨k, 0, none⟩) 4 4] w fun e w2 => e = .returned (.int .i64 (runS D0 [.sync, .lay s2 0 0, .sync]).2) ∧ NxF base F p g w (runS D0 [.sync, .lay s2 0 0, .sync]).1 (if (runS D0 [.sync, .lay s2 0 0, .sync]).2 = 0 then s2 else s) nx ep w2 := by
  have hR : runS D0 [.sync, .lay s2 0 0, .sync] = runS D0 [.sync, .lay s2 a b, .sync] := rfl
  rw [hR]
  obtain ⟨all, hall⟩ : ∃ all, all = [St.sync, .lay s2 a b, .sync] := ⟨_, rfl⟩
  have hlen : all.length = 3 := by rw [hall]; rfl
  have hth : ∀ x ∈ all, x.there w p := by
    intro x hx
    rw [hall] at hx
    simp only [List.mem_cons, List.mem_nil_iff, or_false] at hx
    rcases hx with rfl | rfl | rfl
    · trivial
    · exact ht
    · trivial
  rw [← hall]
  refine (inTurn_any w k 4 (by decide) (fun j => if j < 3 then (all.getD j .sync).fn else 71) (fun j => if j < 3 then (all.getD j .sync).first p else #[]) (fun j => if j < 3 then (all.getD j .sync).cap else #[.pointer (some ⟨G6, 0, none⟩), .pointer (some ⟨G2, 0, none⟩)])
    (fun j w' => if j ≤ 3 then TI w w' base F p D0 all j else (runS D0 all).2 = 0 ∧ NxF base F p g w (runS D0 all).1 s2 nx ep w') (fun x w' => x = (runS D0 all).2 ∧ NxF base F p g w (runS D0 all).1 s nx ep w') ?_ ?_ ?_ ?_).mono ?_
  · intro j hj args w1
    by_cases c : j < 3
    · simp only [if_pos c]; exact St.ent _ args w1
    · simp only [if_neg c]; exact ent_pub args w1
  · simp only [Nat.zero_le, if_true]
    exact TI.start h all (by rw [hlen]; exact hb)
  · intro j w1 hj hI
    simp only [if_pos (show j ≤ 3 by omega)] at hI
    obtain ⟨D, F', hD, hF, _⟩ := hI
    have hk1 := hF.keep hk (h.not_in hk (by decide) (by decide) (by decide))
    rw [cell_of_row _ _ _ _ _ _ hk1, hall]
    rcases j with _ | _ | _ | _ | j
    · rfl
    · rfl
    · rfl
    · rfl
    · omega
  · intro j w1 hj hI
    simp only [if_pos (show j ≤ 3 by omega)] at hI
    by_cases c : j < 3
    · simp only [if_pos c, if_pos (show j + 1 ≤ 3 by omega)]
      refine (TI.step h hbw hI (by omega) hth).mono ?_
      rintro e w2 ⟨x, rfl, q1, q2⟩
      refine ⟨x, rfl, q1, fun hx => ?_⟩
      obtain ⟨e1, F2, r1, r2, r3⟩ := q2 hx
      exact ⟨e1, F2, r1, hf.other h r2, r2.wide g, r3⟩
    · obtain rfl : j = 3 := by omega
      simp only [if_neg c, if_neg (show ¬ (3 + 1 ≤ 3) by omega)]
      rw [← hlen] at hI
      obtain ⟨e0, F2, r1, r2, r3⟩ := hI.done
      have hf1 := hf.other h r2
      have h21 := r2.keep h2 (h.not_in h2 (by decide) (by decide) (by decide))
      have h61 := r2.keep h6 (h.not_in h6 (by decide) (by decide) (by decide))
      refine (Publish1_any w1 g p s s2 nx ep hf1 G2 G6 h21 h61).mono ?_
      rintro e w2 ⟨rfl, hf2, hr2⟩
      refine ⟨0, rfl, fun _ => ⟨e0, F2, ?_, hf2, ?_, r3⟩, fun hx => absurd rfl hx⟩
      · exact r1.of_heap fun i hi => hr2.block i (r1.lt i hi).2 (fun e => (hf1.not r1) (List.mem_singleton.1 e ▸ hi))
      · exact (r2.wide g).trans (hr2.mono (fun i hi => by rw [List.mem_singleton.1 hi]; exact List.mem_cons_self)) (Gr.refl _ _)
  · rintro e w2 ⟨x, rfl, q1, q2⟩
    by_cases hx : x = 0
    · have := q1 hx
      simp only [if_neg (show ¬ (4 ≤ 3) by omega)] at this
      rw [this.1, if_pos rfl, hx]
      exact ⟨rfl, this.2⟩
    · obtain ⟨e1, e2⟩ := q2 hx
      rw [← e1, if_neg hx]
      exact ⟨rfl, e2⟩
end Go.Proofs.YtaefjlbonflmdaaDoor
