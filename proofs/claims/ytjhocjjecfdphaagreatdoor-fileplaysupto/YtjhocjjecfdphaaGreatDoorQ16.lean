import Derived.Test.YtjhocjjecfdphaaGreatDoorQ15
import Derived.Test.YtjhocjjecfdphaaGreatDoorQ12
namespace Go.Proofs.YtjhocjjecfdphaaGreatDoor
set_option linter.unusedVariables false
set_option linter.unusedSimpArgs false
set_option maxRecDepth 100000
set_option maxHeartbeats 4000000
section
open Go.RowKit
attribute [local go_sem ↓] Go.wp_at_zero Go.wp_at_succ
def appF (D : DS) (nx ep kd : Int) (l : List Int) : DS × Int × Int × Int :=
 if liveF D ep ≠ 0 then (D, nx, 0, liveF D ep)
 else if kindOk kd = false then (D, nx, 0, 50)
 else if 246 < l.length then (D, nx, 0, 51)
 else if (D.np : Int) ≤ nx then (D, nx, 0, 5)
 else if D.armed = 1 then (D.wr ⟨nx.toNat, pageP kd nx l⟩, nx, 0, 2)
 else (D.wr ⟨nx.toNat, pageP kd nx l⟩, nx + 1, nx, 0)
theorem Append_dead (w : World) (base : Nat) (F : List Nat) (p : Nat) (D : DS) (h : DA w base F p D) (g : Nat) (s : Sup) (nx ep : Int) (hf : FK w g p s nx ep) (x : Int) (hlv : liveF D ep = x) (hx : x ≠ 0) (kd : Int) (sp : Option Addr) (l cap : Nat) :
   Calls Tryz.prog 62 #[.pointer (some ⟨g, 0, none⟩), .int .i64 kd, .slice sp l cap] w fun e w' => e = .returned (.tuple #[.int .i64 0, .int .i64 x]) ∧ Below w.heap.size w w' := by
 have HL := hid (Live_any w base F p D h g s nx ep hf)
 rw [hlv] at HL
 have hz : (x != 0) = true := by simpa using hx
 clear h hf hlv hx
 go_enter Tryz.func62, Tryz.ntmps62
 go_wp2_with (first | (go_at_call 58; refine HL.out.mono ?_; rintro e w1 ⟨rfl, hb1⟩))
 go_ret2
 exact ⟨rfl, hb1⟩
theorem Append_kind (w : World) (base : Nat) (F : List Nat) (p : Nat) (D : DS) (h : DA w base F p D) (g : Nat) (s : Sup) (nx ep : Int) (hf : FK w g p s nx ep) (hlv : liveF D ep = 0) (kd : Int) (hk : kd < 1 ∨ 3 < kd) (sp : Option Addr) (l cap : Nat) :
   Calls Tryz.prog 62 #[.pointer (some ⟨g, 0, none⟩), .int .i64 kd, .slice sp l cap] w fun e w' => e = .returned (.tuple #[.int .i64 0, .int .i64 50]) ∧ Below w.heap.size w w' := by
 have HL := hid (Live_any w base F p D h g s nx ep hf)
 rw [hlv] at HL
 clear h hf hlv
 by_cases c : kd < 1
 · clear hk
   go_enter Tryz.func62, Tryz.ntmps62
   go_wp2_with (first | (go_at_call 58; refine HL.out.mono ?_; rintro e w1 ⟨rfl, hb1⟩))
   go_ret2
   exact ⟨rfl, hb1⟩
 · have c2 : 3 < kd := by omega
   clear hk
   go_enter Tryz.func62, Tryz.ntmps62
   go_wp2_with (first | (go_at_call 58; refine HL.out.mono ?_; rintro e w1 ⟨rfl, hb1⟩))
   go_ret2
   exact ⟨rfl, hb1⟩
theorem Append_load (w : World) (base : Nat) (F : List Nat) (p : Nat) (D : DS) (h : DA w base F p D) (g : Nat) (s : Sup) (nx ep : Int) (hf : FK w g p s nx ep) (hlv : liveF D ep = 0) (kd : Int) (k1 : 1 ≤ kd) (k3 : kd ≤ 3) (sp : Option Addr) (l cap : Nat) (hl : 246 < (l : Int)) :
   Calls Tryz.prog 62 #[.pointer (some ⟨g, 0, none⟩), .int .i64 kd, .slice sp l cap] w fun e w' => e = .returned (.tuple #[.int .i64 0, .int .i64 51]) ∧ Below w.heap.size w w' := by
 have HL := hid (Live_any w base F p D h g s nx ep hf)
 rw [hlv] at HL
 clear h hf hlv
 go_enter Tryz.func62, Tryz.ntmps62
 go_wp2_with (first | (go_at_call 58; refine HL.out.mono ?_; rintro e w1 ⟨rfl, hb1⟩))
 go_ret2
 exact ⟨rfl, hb1⟩
theorem Append_full (w : World) (base : Nat) (F : List Nat) (p : Nat) (D : DS) (h : DA w base F p D) (g : Nat) (s : Sup) (q : Nat) (ep : Int) (hf : FK w g p s q ep) (hlv : liveF D ep = 0) (hq : q = D.np) (kd : Int) (k1 : 1 ≤ kd) (k3 : kd ≤ 3) (sp : Option Addr) (l cap : Nat) (hll : (l : Int) ≤ 246) :
   Calls Tryz.prog 62 #[.pointer (some ⟨g, 0, none⟩), .int .i64 kd, .slice sp l cap] w fun e w' => e = .returned (.tuple #[.int .i64 0, .int .i64 5]) ∧ Below w.heap.size w w' := by
 have HL := hid (Live_any w base F p D h g s q ep hf)
 rw [hlv] at HL
 have HD := hid h
 have HF := hid hf
 have hqn : ((q : Int) == (D.np : Int)) = true := by rw [hq]; simp
 clear h hf hlv hq
 go_enter Tryz.func62, Tryz.ntmps62
 go_wp2_with fail
 refine HL.out.mono ?_
 rintro e w1 ⟨rfl, hb1⟩
 have HB1 := hid hb1
 have HD1 := hid (HD.out.below hb1)
 have HK1 := hid (HF.out.below hb1)
 have hgl1 : g < w1.heap.size := hlt_ HK1.out
 have c0 := hid (show w1.cell? ⟨g, 0, none⟩ = some (.pointer (some ⟨p, 0, none⟩)) from HK1.out.cell 0)
 have c6 := hid (show w1.cell? ⟨g, 6, none⟩ = some (.int .i64 (q : Int)) from HK1.out.cell 6)
 clear hb1 HL
 go_wp2
 refine rgA (fun w' => Below w1.heap.size w1 w') (Below.refl _ _).drew (fun hq0 => ?_)
 refine tkA 0 (.pointer (some ⟨g, 0, none⟩)) rfl hq0 ?_
 go_frame
 refine tkA 4 (.pointer (some ⟨g, 0, none⟩)) rfl hq0 ?_
 go_frame
 refine tkA 1 (.pointer (some ⟨g, 0, none⟩)) rfl hq0 ?_
 go_frame
 refine tkA 5 (.pointer (some ⟨g, 0, none⟩)) rfl hq0 ?_
 go_frame
 refine tkA 2 (.pointer (some ⟨g, 6, none⟩)) rfl hq0 ?_
 go_frame
 refine tkA 6 (.pointer (some ⟨g, 0, none⟩)) rfl hq0 ?_
 go_frame
 refine tqA 3 (.int .i64 (q : Int)) rfl (yA (by intro w hS; have hc := (hS.cell (p := ⟨g, 6, none⟩) hgl1).trans c6.out; go_simp)) hq0 ?_
 go_frame
 refine tqA 7 (.pointer (some ⟨p, 0, none⟩)) rfl (yA (by intro w hS; have hc := (hS.cell (p := ⟨g, 0, none⟩) hgl1).trans c0.out; go_simp)) hq0 ?_
 go_frame
 refine rdA 8 rfl (fun K hK => ?_)
 go_simp
 go_at_call 53
 refine (Pages_any _ base F p D (HD1.out.below hq0)).mono ?_
 rintro e w4 ⟨rfl, rfl⟩
 go_wp2_with fail
 refine hK.out _ _ (hq0) ?_
 clear hK K hq0
 intro hq0
 try go_frame
 refine tqA 9 (.bool true) rfl (yA (by intro w hS; (have he2 := hqn; go_simp))) hq0 ?_
 go_frame
 refine wdA ?_
 go_wp2
 go_ret2
 exact ⟨rfl, HB1.out.trans (hq0.mono HB1.out.size)⟩
theorem Append_any (w : World) (base : Nat) (F : List Nat) (p : Nat) (D : DS) (h : DA w base F p D) (hbw : base ≤ w.heap.size) (g : Nat) (s : Sup) (ep : Int) (q : Nat) (hf : FK w g p s q ep) (hq : 2 ≤ q ∧ q ≤ D.np) (kd : Int) (l : List Int) (h8 : Byts l) (sp : Option Addr) (cap : Nat) (hS : Src w sp cap l) (hops : D.ops.length < 400000000000) (hwr : D.writes < 4000000000000000000) :
   Calls Tryz.prog 62 #[.pointer (some ⟨g, 0, none⟩), .int .i64 kd, .slice sp l.length cap] w fun e w' => e = .returned (.tuple #[.int .i64 (appF D q ep kd l).2.2.1, .int .i64 (appF D q ep kd l).2.2.2]) ∧ NxF base F p g w (appF D q ep kd l).1 s (appF D q ep kd l).2.1 ep w' := by
 have stay : ∀ w', Below w.heap.size w w' → NxF base F p g w D s q ep w' := fun w' hb => ⟨F, h.below hb, hf.below hb, Fr.of_below hb, Gr.refl _ _⟩
 unfold appF
 by_cases hlv : liveF D ep = 0
 · rw [if_neg (fun c => c hlv)]
   by_cases hk : kindOk kd = true
   · rw [if_neg (by rw [hk]; decide)]
     have hki := (kindOk_iff kd).1 hk
     by_cases hl : 246 < l.length
     · rw [if_pos hl]
       refine (Append_load w base F p D h g s q ep hf hlv kd hki.1 hki.2 sp l.length cap (by omega)).mono ?_
       rintro e w' ⟨rfl, hb⟩; exact ⟨rfl, stay w' hb⟩
     · rw [if_neg hl]
       by_cases hn : (D.np : Int) ≤ q
       · rw [if_pos hn]
         refine (Append_full w base F p D h g s q ep hf hlv (by omega) kd hki.1 hki.2 sp l.length cap (by omega)).mono ?_
         rintro e w' ⟨rfl, hb⟩; exact ⟨rfl, stay w' hb⟩
       · rw [if_neg hn]
         refine (Append_in w base F p D h hbw g s ep q hf hlv ⟨hq.1, by omega⟩ kd hk l h8 (by omega) sp cap hS hops hwr).mono ?_
         rintro e w' ⟨h1, h2⟩
         by_cases ha : D.armed = 1
         · rw [if_pos ha]; obtain ⟨rfl, h3⟩ := h2 ha; exact ⟨rfl, h3⟩
         · rw [if_neg ha]; obtain ⟨rfl, h3⟩ := h1 ha; exact ⟨rfl, h3⟩
   · have hk' : kindOk kd = false := by simpa using hk
     rw [if_pos hk']
     have hki : kd < 1 ∨ 3 < kd := by
       by_cases c : kd < 1
       · exact Or.inl c
       · by_cases c2 : 3 < kd
         · exact Or.inr c2
         · exact absurd ((kindOk_iff kd).2 ⟨by omega, by omega⟩) hk
     refine (Append_kind w base F p D h g s q ep hf hlv kd hki sp l.length cap).mono ?_
     rintro e w' ⟨rfl, hb⟩; exact ⟨rfl, stay w' hb⟩
 · rw [if_pos hlv]
   refine (Append_dead w base F p D h g s q ep hf _ rfl hlv kd sp l.length cap).mono ?_
   rintro e w' ⟨rfl, hb⟩; exact ⟨rfl, stay w' hb⟩
def frdF (D : DS) (nx ep q : Int) : DS × Int × List Int × Int :=
 if liveF D ep ≠ 0 then (D, 0, [], liveF D ep)
 else if ¬ (2 ≤ q ∧ q < nx) then (D, 0, [], 41)
 else if (unpackF q (D.readOf q.toNat)).2.2 ≠ 0 then ({ D with reads := D.reads + 1 }, 0, [], 4)
 else ({ D with reads := D.reads + 1 }, (unpackF q (D.readOf q.toNat)).1, (unpackF q (D.readOf q.toNat)).2.1, 0)
theorem FRead_dead (w : World) (base : Nat) (F : List Nat) (p : Nat) (D : DS) (h : DA w base F p D) (g : Nat) (s : Sup) (nx ep : Int) (hf : FK w g p s nx ep) (x : Int) (hlv : liveF D ep = x) (hx : x ≠ 0) (q : Int) :
   Calls Tryz.prog 65 #[.pointer (some ⟨g, 0, none⟩), .int .i64 q] w fun e w' => e = .returned (.tuple #[.int .i64 0, .slice none 0 0, .int .i64 x]) ∧ Below w.heap.size w w' := by
 have HL := hid (Live_any w base F p D h g s nx ep hf)
 rw [hlv] at HL
 have hz : (x != 0) = true := by simpa using hx
 clear h hf hlv hx
 go_enter Tryz.func65, Tryz.ntmps65
 go_wp2_with (first | (go_at_call 58; refine HL.out.mono ?_; rintro e w1 ⟨rfl, hb1⟩))
 go_ret3
 exact ⟨rfl, hb1⟩
theorem FRead_page (w : World) (base : Nat) (F : List Nat) (p : Nat) (D : DS) (h : DA w base F p D) (g : Nat) (s : Sup) (nx ep : Int) (hf : FK w g p s nx ep) (hlv : liveF D ep = 0) (q : Int) (hq : ¬ (2 ≤ q ∧ q < nx)) :
   Calls Tryz.prog 65 #[.pointer (some ⟨g, 0, none⟩), .int .i64 q] w fun e w' => e = .returned (.tuple #[.int .i64 0, .slice none 0 0, .int .i64 41]) ∧ Below w.heap.size w w' := by
 have HL := hid (Live_any w base F p D h g s nx ep hf)
 rw [hlv] at HL
 have HH := hid (fun (w1 : World) (hb : Below w.heap.size w w1) => (show Calls Tryz.prog 99 #[.pointer (some ⟨g, 0, none⟩), .int .i64 q] w1 fun e w' => e = .returned (.bool false) ∧ w1 = w' from by
   have := has_any w1 g p s nx ep (hf.below hb) q
   rwa [show decide (2 ≤ q ∧ q < nx) = false from decide_eq_false hq] at this))
 clear h hf hlv hq
 go_enter Tryz.func65, Tryz.ntmps65
 go_wp2_with (first | (go_at_call 58; refine HL.out.mono ?_; rintro e w1 ⟨rfl, hb1⟩) | (go_at_call 99; refine (HH.out w1 hb1).mono ?_; rintro e w0 ⟨rfl, rfl⟩))
 go_ret3
 exact ⟨rfl, hb1⟩
theorem FRead_bad (w : World) (base : Nat) (F : List Nat) (p : Nat) (D : DS) (h : DA w base F p D) (g : Nat) (s : Sup) (nx ep : Int) (hf : FK w g p s nx ep) (hlv : liveF D ep = 0) (q : Nat) (hq : 2 ≤ q ∧ (q : Int) < nx ∧ q < D.np) (hr : D.reads < 4000000000000000000) (hu : (unpackF q (D.readOf q)).2.2 ≠ 0) :
   Calls Tryz.prog 65 #[.pointer (some ⟨g, 0, none⟩), .int .i64 q] w fun e w' => e = .returned (.tuple #[.int .i64 0, .slice none 0 0, .int .i64 4]) ∧ DA w' base F p { D with reads := D.reads + 1 } ∧ FK w' g p s nx ep ∧ Fr F w w' := by
 have HL := hid (Live_any w base F p D h g s nx ep hf)
 rw [hlv] at HL
 have hpw := (live_0 hlv).2
 have fine := readOf_fine h.ok q hq.2.2
 have HH := hid (fun (w1 : World) (hb : Below w.heap.size w w1) => (show Calls Tryz.prog 99 #[.pointer (some ⟨g, 0, none⟩), .int .i64 (q : Int)] w1 fun e w' => e = .returned (.bool true) ∧ w1 = w' from by
   have := has_any w1 g p s nx ep (hf.below hb) q
   rwa [show decide (2 ≤ (q : Int) ∧ (q : Int) < nx) = true from decide_eq_true ⟨by omega, hq.2.1⟩] at this))
 have HRD := hid (fun (w1 : World) (hb : Below w.heap.size w w1) => Read_same w1 base F p D (h.below hb) hpw q hq.2.2 hr q rfl)
 have HC0 := hid (fun (w1 : World) (hb : Below w.heap.size w w1) => (show w1.cell? ⟨g, 0, none⟩ = some (.pointer (some ⟨p, 0, none⟩)) from (hf.below hb).cell 0))
 have HF := hid hf
 have HD := hid h
 obtain ⟨kd, hkd⟩ : ∃ kd, kd = (unpackF q (D.readOf q)).1 := ⟨_, rfl⟩
 obtain ⟨l, hl⟩ : ∃ l, l = (unpackF q (D.readOf q)).2.1 := ⟨_, rfl⟩
 obtain ⟨x, hx⟩ : ∃ x, x = (unpackF q (D.readOf q)).2.2 := ⟨_, rfl⟩
 have hz : (x != 0) = true := by rw [hx]; simpa using hu
 have HUP := hid (fun (w1 : World) (gp c : Nat) (hS : Src w1 (some ⟨gp, 0, none⟩) c (D.readOf q)) => (show Calls Tryz.prog 100 #[.int .i64 (q : Int), .slice (some ⟨gp, 0, none⟩) 256 c] w1 fun e w' => ∃ v, e = .returned (.tuple #[.int .i64 kd, v, .int .i64 x]) ∧ Own w' w1.heap.size v l ∧ Below w1.heap.size w1 w' from by
   have := unpack_any w1 q (D.readOf q) fine.2 (some ⟨gp, 0, none⟩) c hS
   rw [fine.1, ← hkd, ← hl, ← hx] at this
   exact this))
 clear h hf hlv hq hr hu fine hkd hl hx
 go_enter Tryz.func65, Tryz.ntmps65
 go_wp2_with fail
 refine HL.out.mono ?_
 rintro e w1 ⟨rfl, hb1⟩
 have HB1 := hid hb1
 have c0 := HC0.out w1 hb1
 clear hb1 HL
 go_wp2_with (first | (go_at_call 99; refine (HH.out w1 HB1.out).mono ?_; rintro e w0 ⟨rfl, rfl⟩))
 refine (HRD.out w1 HB1.out).mono ?_
 rintro e w2 ⟨gp, c, rfl, hO2, hS2, hg2, hD2, hF2⟩
 have HS2 := hid hS2
 have HD2 := hid hD2
 have HF2 := hid hF2
 clear hO2 hS2 hg2 hD2 hF2 HRD HH HC0 c0
 go_wp2_with fail
 refine (HUP.out w2 gp c HS2.out).mono ?_
 rintro e w3 ⟨v, rfl, hO3, hb3⟩
 have HB3 := hid hb3
 obtain ⟨spv, cv, hv, _, _⟩ := hO3.form
 subst hv
 clear hO3 hb3 HUP HS2
 go_wp2
 go_ret3
 refine ⟨rfl, HD2.out.below HB3.out, ?_, (((Fr.of_below (F := F) HB1.out).trans HF2.out (Gr.refl _ _)).tail (F' := F) HB3.out)⟩
 exact ((HF.out.below HB1.out).other (HD.out.below HB1.out) HF2.out).below HB3.out
theorem FRead_any (w : World) (base : Nat) (F : List Nat) (p : Nat) (D : DS) (h : DA w base F p D) (g : Nat) (s : Sup) (nx ep : Int) (hf : FK w g p s nx ep) (hnx : nx ≤ D.np) (hr : D.reads < 4000000000000000000) (q : Int) :
   Calls Tryz.prog 65 #[.pointer (some ⟨g, 0, none⟩), .int .i64 q] w fun e w' => ∃ v, e = .returned (.tuple #[.int .i64 (frdF D nx ep q).2.1, v, .int .i64 (frdF D nx ep q).2.2.2]) ∧ Own w' w.heap.size v (frdF D nx ep q).2.2.1 ∧ DA w' base F p (frdF D nx ep q).1 ∧ FK w' g p s nx ep ∧ Fr F w w' := by
 have stay : ∀ w', Below w.heap.size w w' → ∃ v, v = Value.slice none 0 0 ∧ Own w' w.heap.size v [] ∧ DA w' base F p D ∧ FK w' g p s nx ep ∧ Fr F w w' := fun w' hb => ⟨_, rfl, Own.nil _ _, h.below hb, hf.below hb, Fr.of_below hb⟩
 unfold frdF
 by_cases hlv : liveF D ep = 0
 · rw [if_neg (fun c => c hlv)]
   by_cases hq : 2 ≤ q ∧ q < nx
   · rw [if_neg (fun c => c hq)]
     obtain ⟨k, rfl⟩ : ∃ k : Nat, q = (k : Int) := ⟨q.toNat, by omega⟩
     rw [Int.toNat_natCast]
     by_cases hu : (unpackF k (D.readOf k)).2.2 = 0
     · rw [if_neg (fun c => c hu)]
       refine (FRead_ok w base F p D h g s nx ep hf hlv k ⟨by omega, hq.2, by omega⟩ hr (unpackF k (D.readOf k)).1 (unpackF k (D.readOf k)).2.1 (by rw [← hu]) k rfl).mono ?_
       rintro e w' ⟨v, rfl, h1, h2, h3, h4⟩
       exact ⟨v, rfl, h1, h2, h3, h4⟩
     · rw [if_pos hu]
       refine (FRead_bad w base F p D h g s nx ep hf hlv k ⟨by omega, hq.2, by omega⟩ hr hu).mono ?_
       rintro e w' ⟨rfl, h2, h3, h4⟩
       exact ⟨_, rfl, Own.nil _ _, h2, h3, h4⟩
   · rw [if_pos hq]
     refine (FRead_page w base F p D h g s nx ep hf hlv q hq).mono ?_
     rintro e w' ⟨rfl, hb⟩
     obtain ⟨v, rfl, h1⟩ := stay w' hb
     exact ⟨_, rfl, h1⟩
 · rw [if_pos hlv]
   refine (FRead_dead w base F p D h g s nx ep hf _ rfl hlv q).mono ?_
   rintro e w' ⟨rfl, hb⟩
   obtain ⟨v, rfl, h1⟩ := stay w' hb
   exact ⟨_, rfl, h1⟩
def pubF (D : DS) (s : Sup) (nx ep hd : Int) : DS × Sup × Int :=
 if liveF D ep ≠ 0 then (D, s, liveF D ep)
 else if hd ≠ 0 ∧ ¬ (2 ≤ hd ∧ hd < nx) then (D, s, 41)
 else if 1099511627776 ≤ s.ge then (D, s, 5)
 else ((runS D [.sync, .lay ⟨s.wd, s.ge + 1, nx, hd, s.pg⟩ 0 0, .sync]).1, if (runS D [.sync, .lay ⟨s.wd, s.ge + 1, nx, hd, s.pg⟩ 0 0, .sync]).2 = 0 then ⟨s.wd, s.ge + 1, nx, hd, s.pg⟩ else s, (runS D [.sync, .lay ⟨s.wd, s.ge + 1, nx, hd, s.pg⟩ 0 0, .sync]).2)
theorem Publish_dead (w : World) (base : Nat) (F : List Nat) (p : Nat) (D : DS) (h : DA w base F p D) (g : Nat) (s : Sup) (nx ep : Int) (hf : FK w g p s nx ep) (x : Int) (hlv : liveF D ep = x) (hx : x ≠ 0) (q : Int) :
   Calls Tryz.prog 66 #[.pointer (some ⟨g, 0, none⟩), .int .i64 q] w fun e w' => e = .returned (.int .i64 x) ∧ Below w.heap.size w w' := by
 have hb0 := below_new w (.cells #[.pointer (some ⟨g, 0, none⟩)] 69)
 have HL := hid (Live_any _ base F p D (h.below hb0) g s nx ep (hf.below hb0))
 rw [hlv] at HL
 have c0 := cell_of_one (hnew w (.cells #[.pointer (some ⟨g, 0, none⟩)] 69))
 have HB0 := hid hb0
 have hz : (x != 0) = true := by simpa using hx
 clear h hf hlv hx hb0
 go_enter Tryz.func66, Tryz.ntmps66
 go_wp2_with (first | (go_at_call 58; refine HL.out.mono ?_; rintro e w1 ⟨rfl, hb1⟩))
 go_ret
 exact ⟨rfl, HB0.out.trans (hb1.mono HB0.out.size)⟩
theorem Publish_page (w : World) (base : Nat) (F : List Nat) (p : Nat) (D : DS) (h : DA w base F p D) (g : Nat) (s : Sup) (nx ep : Int) (hf : FK w g p s nx ep) (hlv : liveF D ep = 0) (hd : Int) (hd0 : hd ≠ 0) (hh : ¬ (2 ≤ hd ∧ hd < nx)) :
   Calls Tryz.prog 66 #[.pointer (some ⟨g, 0, none⟩), .int .i64 hd] w fun e w' => e = .returned (.int .i64 41) ∧ Below w.heap.size w w' := by
 obtain ⟨w0, hw0⟩ : ∃ w0, w0 = w.alloc (.cells #[.pointer (some ⟨g, 0, none⟩)] 69) := ⟨_, rfl⟩
 have b0 : Below w.heap.size w w0 := by rw [hw0]; exact below_new _ _
 have r0 : w0.heap[w.heap.size]? = some (.cells #[.pointer (some ⟨g, 0, none⟩)] 69 (0, 0)) := by rw [hw0]; exact hnew _ _
 have HL := hid (Live_any w0 base F p D (h.below b0) g s nx ep (hf.below b0))
 rw [hlv] at HL
 have HB0 := hid b0
 have R0 := hid r0
 have W0 := hid hw0
 have HH := hid (fun (w1 : World) (hb : Below w0.heap.size w0 w1) => (show Calls Tryz.prog 99 #[.pointer (some ⟨g, 0, none⟩), .int .i64 hd] w1 fun e w' => e = .returned (.bool false) ∧ w1 = w' from by
   have := has_any w1 g p s nx ep ((hf.below b0).below hb) hd
   rwa [show decide (2 ≤ hd ∧ hd < nx) = false from decide_eq_false hh] at this))
 have hz : (hd != 0) = true := by simpa using hd0
 clear h hf hlv b0 r0 hw0 hd0 hh
 go_enter Tryz.func66, Tryz.ntmps66
 have c0 := cell_of_one R0.out
 go_wp2_with (first
   | (go_at_call 58; rw [← W0.out]; refine HL.out.mono ?_; rintro e w1 ⟨rfl, hb1⟩; have HB1 := hid hb1; have c1 := (hb1.cell (p := ⟨w.heap.size, 0, none⟩) (hlt_ R0.out)).trans c0; clear hb1)
   | (go_at_call 99; refine (HH.out w1 HB1.out).mono ?_; rintro e w2 ⟨rfl, rfl⟩))
 go_ret
 exact ⟨rfl, HB0.out.trans (HB1.out.mono HB0.out.size)⟩
theorem Publish_full (w : World) (base : Nat) (F : List Nat) (p : Nat) (D : DS) (h : DA w base F p D) (g : Nat) (s : Sup) (nx ep : Int) (hf : FK w g p s nx ep) (hlv : liveF D ep = 0) (hd : Int) (hh : hd = 0 ∨ (2 ≤ hd ∧ hd < nx)) (hg : s.ge = 1099511627776) :
   Calls Tryz.prog 66 #[.pointer (some ⟨g, 0, none⟩), .int .i64 hd] w fun e w' => e = .returned (.int .i64 5) ∧ Below w.heap.size w w' := by
 obtain ⟨w0, hw0⟩ : ∃ w0, w0 = w.alloc (.cells #[.pointer (some ⟨g, 0, none⟩)] 69) := ⟨_, rfl⟩
 have b0 : Below w.heap.size w w0 := by rw [hw0]; exact below_new _ _
 have r0 : w0.heap[w.heap.size]? = some (.cells #[.pointer (some ⟨g, 0, none⟩)] 69 (0, 0)) := by rw [hw0]; exact hnew _ _
 have HL := hid (Live_any w0 base F p D (h.below b0) g s nx ep (hf.below b0))
 rw [hlv] at HL
 have HB0 := hid b0
 have R0 := hid r0
 have W0 := hid hw0
 have HF0 := hid (hf.below b0)
 have HH : Hid (∀ (w1 : World) (_ : Below w0.heap.size w0 w1), (hd != 0) = true → Calls Tryz.prog 99 #[.pointer (some ⟨g, 0, none⟩), .int .i64 hd] w1 fun e w' => e = .returned (.bool true) ∧ w1 = w') := hid (fun w1 hb h0 => by
   have := has_any w1 g p s nx ep ((hf.below b0).below hb) hd
   rcases hh with hh | hh
   · rw [hh] at h0; simp at h0
   · rwa [show decide (2 ≤ hd ∧ hd < nx) = true from decide_eq_true hh] at this)
 have HGE := hid hg
 clear h hf hlv b0 r0 hw0 hg
 by_cases hz : hd = 0
 · subst hz
   clear hh HH
   go_enter Tryz.func66, Tryz.ntmps66
   have c0 := cell_of_one R0.out
   go_wp2_with (first
     | (go_at_call 58; rw [← W0.out]; refine HL.out.mono ?_; rintro e w1 ⟨rfl, hb1⟩; have HB1 := hid hb1; have c1 := (hb1.cell (p := ⟨w.heap.size, 0, none⟩) (hlt_ R0.out)).trans c0; have c2 := (show w1.cell? ⟨g, 2, none⟩ = some (.int .i64 1099511627776) from by rw [← HGE.out]; exact (HF0.out.below hb1).cell 2); clear hb1))
   go_ret
   exact ⟨rfl, HB0.out.trans (HB1.out.mono HB0.out.size)⟩
 · have hz2 : (hd != 0) = true := by simpa using hz
   clear hh hz
   go_enter Tryz.func66, Tryz.ntmps66
   have c0 := cell_of_one R0.out
   go_wp2_with (first
     | (go_at_call 58; rw [← W0.out]; refine HL.out.mono ?_; rintro e w1 ⟨rfl, hb1⟩; have HB1 := hid hb1; have c1 := (hb1.cell (p := ⟨w.heap.size, 0, none⟩) (hlt_ R0.out)).trans c0; have c2 := (show w1.cell? ⟨g, 2, none⟩ = some (.int .i64 1099511627776) from by rw [← HGE.out]; exact (HF0.out.below hb1).cell 2); clear hb1)
     | (go_at_call 99; refine (HH.out w1 HB1.out hz2).mono ?_; rintro e w2 ⟨rfl, rfl⟩))
   go_ret
   exact ⟨rfl, HB0.out.trans (HB1.out.mono HB0.out.size)⟩
theorem Publish_any (w : World) (base : Nat) (F : List Nat) (p : Nat) (D : DS) (h : DA w base F p D) (hbw : base ≤ w.heap.size) (g : Nat) (s : Sup) (nx ep : Int) (hf : FK w g p s nx ep) (hv : validS s = true) (hn : s.ma ≤ nx ∧ nx ≤ s.pg) (hd : Int) (hops : D.ops.length + 3 < 400000000000) (hwr : D.writes + 3 < 4000000000000000000) (hsy : D.syncs + 3 < 4000000000000000000) :
   Calls Tryz.prog 66 #[.pointer (some ⟨g, 0, none⟩), .int .i64 hd] w fun e w' => e = .returned (.int .i64 (pubF D s nx ep hd).2.2) ∧ NxF base F p g w (pubF D s nx ep hd).1 (pubF D s nx ep hd).2.1 nx ep w' := by
 have stay : ∀ w', Below w.heap.size w w' → NxF base F p g w D s nx ep w' := fun w' hb => ⟨F, h.below hb, hf.below hb, Fr.of_below hb, Gr.refl _ _⟩
 have hvi := (validS_iff s).1 hv
 unfold pubF
 by_cases hlv : liveF D ep = 0
 · rw [if_neg (fun c => c hlv)]
   by_cases hh : hd ≠ 0 ∧ ¬ (2 ≤ hd ∧ hd < nx)
   · rw [if_pos hh]
     refine (Publish_page w base F p D h g s nx ep hf hlv hd hh.1 hh.2).mono ?_
     rintro e w' ⟨rfl, hb⟩; exact ⟨rfl, stay w' hb⟩
   · rw [if_neg hh]
     have hh2 : hd = 0 ∨ (2 ≤ hd ∧ hd < nx) := by
       by_cases c : hd = 0
       · exact Or.inl c
       · exact Or.inr (Classical.not_not.1 fun c2 => hh ⟨c, c2⟩)
     by_cases hg : 1099511627776 ≤ s.ge
     · rw [if_pos hg]
       refine (Publish_full w base F p D h g s nx ep hf hlv hd hh2 (by omega)).mono ?_
       rintro e w' ⟨rfl, hb⟩; exact ⟨rfl, stay w' hb⟩
     · rw [if_neg hg]
       exact Publish_in w base F p D h hbw g s nx ep hf hlv hd hh2 ⟨by omega, by omega⟩ _ rfl ((validS_iff _).2 (by simp only; omega)) ⟨(live_0 hlv).2, hops, hwr, hsy⟩
 · rw [if_pos hlv]
   refine (Publish_dead w base F p D h g s nx ep hf _ rfl hlv hd).mono ?_
   rintro e w' ⟨rfl, hb⟩; exact ⟨rfl, stay w' hb⟩
end
section
open Go.RowKit
def pgI (img : List Int) (p : Nat) : List Int := (img.drop (p * 256)).take 256
theorem pgI_len {img : List Int} {n p : Nat} (h : img.length = 256 * n) (hp : p < n) : (pgI img p).length = 256 := by
 unfold pgI; rw [List.length_take, List.length_drop, h]; omega
theorem pgI_get (img : List Int) (p j : Nat) (hj : j < 256) : (pgI img p).getD j 0 = img.getD (p * 256 + j) 0 := by
 unfold pgI; rw [List.getD_eq_getElem?_getD, List.getElem?_take, if_pos hj, List.getElem?_drop, ← List.getD_eq_getElem?_getD]
theorem pgI_ext {img : List Int} {n p : Nat} (h : img.length = 256 * n) (hp : p < n) {z : List Int} (hz : z.length = 256) (hg : ∀ j, j < 256 → img.getD (p * 256 + j) 0 = z.getD j 0) : pgI img p = z := by
 apply list_ext0
 · rw [pgI_len h hp, hz]
 · intro j hj
   rw [pgI_len h hp] at hj
   rw [pgI_get _ _ _ hj, hg j hj]
theorem pg_lay1 {img : List Int} {n p : Nat} {o : OW} (h : img.length = 256 * n) (ho : OwOk n o) (hp : p < n) : pgI (lay1 img o) p = if o.page = p then o.data else pgI img p := by
 have hl : (lay1 img o).length = 256 * n := by unfold lay1; rw [putAt_len _ _ _ (by rw [ho.2.1, h]; have := ho.1; omega), h]
 have hop := ho.1
 split
 · rename_i e
   refine pgI_ext hl hp ho.2.1 fun j hj => ?_
   rw [lay1_get h ho, if_pos (by omega), show p * 256 + j - o.page * 256 = j by omega]
 · rename_i e
   refine pgI_ext hl hp (pgI_len h hp) fun j hj => ?_
   rw [lay1_get h ho, if_neg (by omega), pgI_get _ _ _ hj]
def mineOf (ops : List OW) (p : Nat) : List (OW × Nat) := ops.zipIdx.filter fun x => x.1.page == p
theorem mineOf_snoc (ops : List OW) (o : OW) (p : Nat) : mineOf (ops ++ [o]) p = if o.page = p then mineOf ops p ++ [(o, ops.length)] else mineOf ops p := by
 unfold mineOf
 rw [List.zipIdx_append, List.filter_append]
 by_cases e : o.page = p
 · rw [if_pos e]; simp [e]
 · rw [if_neg e]; simp [e]
theorem pg_layTo {img : List Int} {n p : Nat} {ops : List OW} (h : img.length = 256 * n) (ho : ∀ o ∈ ops, OwOk n o) (hp : p < n) : ∀ i, i ≤ ops.length → pgI (layTo img ops i) p = (mineOf (ops.take i) p).foldl (fun _ x => x.1.data) (pgI img p)
 | 0, _ => rfl
 | i + 1, hi => by
   have hm := getD_memW ops i (by omega)
   have ht : (ops.take i).length = i := by rw [List.length_take]; omega
   rw [layTo_succ _ _ _ (by omega), pg_lay1 (layTo_len h ho i (by omega)) (ho _ hm) hp, pg_layTo h ho hp i (by omega), take_snocW ops i (by omega), mineOf_snoc]
   split
   · rw [List.foldl_append]; rfl
   · rfl
def tornP (now data : List Int) (f : Nat) : List Int := (List.range 256).map fun i => if f.testBit (i / 64) then data.getD i 0 else now.getD i 0
theorem tornP_len (now data : List Int) (f : Nat) : (tornP now data f).length = 256 := by simp [tornP]
theorem tornP_get (now data : List Int) (f j : Nat) (hj : j < 256) : (tornP now data f).getD j 0 = if f.testBit (j / 64) then data.getD j 0 else now.getD j 0 := by simp [tornP, hj]
theorem pg_torn {img : List Int} {n p : Nat} {o : OW} (f : Nat) (h : img.length = 256 * n) (ho : OwOk n o) (hp : p < n) : pgI (tornTo img o f 4) p = if o.page = p then tornP (pgI img p) o.data f else pgI img p := by
 have hl := tornTo_len f h ho 4 (Nat.le_refl _)
 split
 · rename_i e
   refine pgI_ext hl hp (tornP_len _ _ _) fun j hj => ?_
   rw [tornTo_get f h ho 4 (Nat.le_refl _), tornP_get _ _ _ _ hj, show p * 256 + j - o.page * 256 = j by rw [e]; omega, pgI_get _ _ _ hj]
   by_cases c : f.testBit (j / 64) = true
   · rw [if_pos c, if_pos ⟨by rw [e]; omega, by rw [e]; omega, c⟩]
   · rw [if_neg c, if_neg (fun q => c q.2.2)]
 · rename_i e
   refine pgI_ext hl hp (pgI_len h hp) fun j hj => ?_
   rw [tornTo_get f h ho 4 (Nat.le_refl _), if_neg (fun q => e (by omega)), pgI_get _ _ _ hj]
theorem pg_crashTo {img : List Int} {n p : Nat} {ops : List OW} (fs : List Int) (h : img.length = 256 * n) (ho : ∀ o ∈ ops, OwOk n o) (hp : p < n) : ∀ i, i ≤ ops.length → pgI (crashTo img ops fs i) p = (mineOf (ops.take i) p).foldl (fun now x => if x.2 < fs.length then tornP now x.1.data (fateOf fs x.2) else now) (pgI img p)
 | 0, _ => rfl
 | i + 1, hi => by
   have hm := getD_memW ops i (by omega)
   have ht : (ops.take i).length = i := by rw [List.length_take]; omega
   have ih := pg_crashTo fs h ho hp i (by omega)
   rw [take_snocW ops i (by omega), mineOf_snoc, crashTo]
   by_cases c : i < fs.length
   · rw [if_pos c, pg_torn _ (crashTo_len fs h ho i (by omega)) (ho _ hm) hp, ih]
     split
     · rw [List.foldl_append]; simp [ht, c]
     · rfl
   · rw [if_neg c, ih]
     split
     · rw [List.foldl_append]; simp [ht, c]
     · rfl
def flipP (now : List Int) (bit pat : Nat) : Nat → List Int
 | 0 => now
 | i + 1 => if pat.testBit i = true ∧ bit + i < 2048 then (flipP now bit pat i).set ((bit + i) / 8) (bits .xor .u8 ((flipP now bit pat i).getD ((bit + i) / 8) 0) ((2 ^ ((bit + i) % 8) : Nat) : Int)) else flipP now bit pat i
theorem flipP_len (now : List Int) (bit pat : Nat) : ∀ i, (flipP now bit pat i).length = now.length
 | 0 => rfl
 | i + 1 => by
   unfold flipP
   split
   · rw [List.length_set]; exact flipP_len now bit pat i
   · exact flipP_len now bit pat i
theorem getD_setI (l : List Int) (i j : Nat) (x : Int) (h : i < l.length) : (l.set i x).getD j 0 = if j = i then x else l.getD j 0 := by
 by_cases e : j = i
 · subst e; rw [if_pos rfl, List.getD_eq_getElem?_getD, List.getElem?_set_self h]; rfl
 · rw [if_neg e, List.getD_eq_getElem?_getD, List.getElem?_set_ne (fun q => e q.symm), ← List.getD_eq_getElem?_getD]
theorem pg_set {l : List Int} {n p q d : Nat} (h : l.length = 256 * n) (hp : p < n) (hq : q < n) (hd : d < 256) (x : Int) : pgI (l.set (q * 256 + d) x) p = if q = p then (pgI l p).set d x else pgI l p := by
 have hl : (l.set (q * 256 + d) x).length = 256 * n := by rw [List.length_set, h]
 split
 · rename_i e
   subst e
   refine pgI_ext hl hp (by rw [List.length_set, pgI_len h hp]) fun j hj => ?_
   rw [getD_setI _ _ _ _ (by rw [h]; omega), getD_setI _ _ _ _ (by rw [pgI_len h hp]; exact hd), pgI_get _ _ _ hj]
   by_cases e : j = d
   · rw [if_pos (by omega), if_pos e]
   · rw [if_neg (by omega), if_neg e]
 · rename_i e
   refine pgI_ext hl hp (pgI_len h hp) fun j hj => ?_
   rw [getD_setI _ _ _ _ (by rw [h]; omega), if_neg (by omega), pgI_get _ _ _ hj]
theorem pg_flipTo {img : List Int} {n p q : Nat} (h : img.length = 256 * n) (hp : p < n) (hq : q < n) (bit pat : Nat) : ∀ i, bit + i ≤ 2048 → pgI (flipTo img q bit pat i) p = if q = p then flipP (pgI img p) bit pat i else pgI img p
 | 0, _ => by split <;> rfl
 | i + 1, hi => by
   have ih := pg_flipTo h hp hq bit pat i (by omega)
   have hl := (flipTo_len img q bit pat i).trans h
   by_cases e : q = p
   · subst e
     simp only [if_true] at ih ⊢
     unfold flipTo flipP
     by_cases c : pat.testBit i = true
     · rw [if_pos c, if_pos (show pat.testBit i = true ∧ bit + i < 2048 from ⟨c, by omega⟩), pg_set hl hp hq (by omega), if_pos rfl, ← ih, pgI_get _ _ _ (by omega)]
     · rw [if_neg c, if_neg (fun x : pat.testBit i = true ∧ bit + i < 2048 => c x.1), ih]
   · simp only [if_neg e] at ih ⊢
     unfold flipTo
     by_cases c : pat.testBit i = true
     · rw [if_pos c, pg_set hl hp hq (by omega), if_neg e, ih]
     · rw [if_neg c, ih]
theorem flipP_past (now : List Int) (bit pat m : Nat) (hm : 2048 ≤ bit + m) : ∀ k, flipP now bit pat (m + k) = flipP now bit pat m
 | 0 => rfl
 | k + 1 => by
   rw [← Nat.add_assoc, flipP, if_neg (by omega)]
   exact flipP_past now bit pat m hm k
theorem pg_flip {img : List Int} {n p q : Nat} (h : img.length = 256 * n) (hp : p < n) (hq : q < n) (bit pat : Nat) (hb : bit < 2048) : pgI (flipTo img q bit pat (min 32 (2048 - bit))) p = if q = p then flipP (pgI img p) bit pat 32 else pgI img p := by
 rw [pg_flipTo h hp hq bit pat _ (by omega)]
 by_cases c : bit ≤ 2016
 · rw [Nat.min_eq_left (by omega)]
 · have := flipP_past (pgI img p) bit pat (2048 - bit) (by omega) (32 - (2048 - bit))
   rw [show 2048 - bit + (32 - (2048 - bit)) = 32 by omega] at this
   rw [Nat.min_eq_right (by omega), this]
theorem mineOf_at {ops : List OW} {p : Nat} : ∀ x ∈ mineOf ops p, x.1.page = p ∧ x.2 < ops.length ∧ ops.getD x.2 dW = x.1 := by
 intro x hx
 unfold mineOf at hx
 obtain ⟨h1, h2⟩ := List.mem_filter.1 hx
 obtain ⟨o, i⟩ := x
 have := List.mem_zipIdx h1
 simp only [Nat.zero_add, Nat.sub_zero] at this
 obtain ⟨_, h4, h5⟩ := this
 refine ⟨by simpa using h2, h4, ?_⟩
 rw [List.getD_eq_getElem?_getD, List.getElem?_eq_getElem h4]
 simp [h5]
theorem last_mine (p : Nat) : ∀ (ops : List OW), lastOf ops p = (mineOf ops p).getLast?.map (·.2) := by
 intro ops
 generalize hn : ops.length = n
 induction n generalizing ops with
 | zero => obtain rfl := List.eq_nil_of_length_eq_zero hn; rfl
 | succ n ih =>
   obtain ⟨l, o, rfl⟩ : ∃ l o, ops = l ++ [o] := ⟨ops.dropLast, ops.getLast (by intro e; rw [e] at hn; simp at hn), (List.dropLast_concat_getLast _).symm⟩
   have hl : l.length = n := by simp at hn; exact hn
   rw [lastOf_snoc, mineOf_snoc]
   split
   · simp
   · exact ih l hl
theorem readOf_mine (D : DS) (p : Nat) : D.readOf p = match (mineOf D.ops p).getLast? with | some x => x.1.data | none => pgI D.img p := by
 unfold DS.readOf
 rw [last_mine]
 cases hq : (mineOf D.ops p).getLast? with
 | none => rfl
 | some x =>
   have := mineOf_at x (List.mem_of_getLast? hq)
   simp only [Option.map_some]
   rw [this.2.2]
inductive Ev where
 | wrote (q : Nat) (data : List Int)
 | synced
 | crashed (fs : List Int)
 | flipped (q bit pat : Nat)
def Ev.on : Ev → List Int × List OW → List Int × List OW
 | .wrote q d, c => (c.1, c.2 ++ [⟨q, d⟩])
 | .synced, c => (layTo c.1 c.2 c.2.length, [])
 | .crashed fs, c => (crashTo c.1 c.2 fs c.2.length, [])
 | .flipped q bit pat, c => (flipTo c.1 q bit pat (min 32 (2048 - bit)), c.2)
def Ev.ok (n : Nat) : Ev → Prop
 | .wrote q d => OwOk n ⟨q, d⟩
 | .synced => True
 | .crashed fs => Bts fs
 | .flipped q bit pat => q < n ∧ bit < 2048 ∧ pat < 4294967296
def play (b : List Int) (log : List Ev) : List Int × List OW := log.foldl (fun c e => e.on c) (b, [])
theorem play_snoc (b : List Int) (log : List Ev) (e : Ev) : play b (log ++ [e]) = e.on (play b log) := by unfold play; rw [List.foldl_append]; rfl
theorem play_ok {b : List Int} {n : Nat} (h : b.length = 256 * n) : ∀ (log : List Ev), (∀ e ∈ log, e.ok n) → (play b log).1.length = 256 * n ∧ ∀ o ∈ (play b log).2, OwOk n o := by
 intro log
 generalize hn : log.length = m
 induction m generalizing log with
 | zero => obtain rfl := List.eq_nil_of_length_eq_zero hn; exact fun _ => ⟨h, fun o ho => by cases ho⟩
 | succ m ih =>
   obtain ⟨l, e, rfl⟩ : ∃ l e, log = l ++ [e] := ⟨log.dropLast, log.getLast (by intro e; rw [e] at hn; simp at hn), (List.dropLast_concat_getLast _).symm⟩
   intro hall
   obtain ⟨h1, h2⟩ := ih l (by simp at hn; exact hn) (fun x hx => hall x (by simp [hx]))
   have he := hall e (by simp)
   rw [play_snoc]
   cases e with
   | wrote q d =>
     refine ⟨h1, fun o ho => ?_⟩
     rcases List.mem_append.1 ho with k | k
     · exact h2 o k
     · rw [List.mem_singleton.1 k]; exact he
   | synced => exact ⟨layTo_len h1 h2 _ (Nat.le_refl _), fun o ho => by cases ho⟩
   | crashed fs => exact ⟨crashTo_len fs h1 h2 _ (Nat.le_refl _), fun o ho => by cases ho⟩
   | flipped q bit pat => exact ⟨(flipTo_len _ _ _ _ _).trans h1, h2⟩
end
end Go.Proofs.YtjhocjjecfdphaaGreatDoor
