import Derived.Test.YtjhocjjecfdphaaGreatDoorQ16
import Derived.Test.YtjhocjjecfdphaaGreatDoorQ29
namespace Go.Proofs.YtjhocjjecfdphaaGreatDoor
set_option linter.unusedVariables false
set_option linter.unusedSimpArgs false
set_option maxRecDepth 100000
set_option maxHeartbeats 4000000
section
open Go.RowKit
attribute [local go_sem ↓] Go.wp_at_zero Go.wp_at_succ
def fmtStep (n : Nat) (wd : Int) (D : DS) (k : Nat) : DS × Int := if D.actE = 0 then sy (D.wr ⟨k, secP (fS n wd k)⟩) else (D.wr ⟨k, secP (fS n wd k)⟩, D.actE)
def fmtF (D : DS) (wd : Int) : DS × Int :=
 if D.power = false then (D, 2)
 else if ¬ (1 ≤ wd ∧ wd ≤ 32) then (D, 1)
 else if (chooseF (D.readOf 0) (D.readOf 1)).2 ≠ 55 then ({ D with reads := D.reads + 2 }, 60)
 else if (fmtStep D.np wd { D with reads := D.reads + 2 } 0).2 = 0 then fmtStep D.np wd (fmtStep D.np wd { D with reads := D.reads + 2 } 0).1 1
 else fmtStep D.np wd { D with reads := D.reads + 2 } 0
def opnF (D : DS) : DS × Int :=
 if D.power = false then (D, 2)
 else if (chooseF (D.readOf 0) (D.readOf 1)).2 ≠ 0 then ({ D with reads := D.reads + 2 }, (chooseF (D.readOf 0) (D.readOf 1)).2)
 else if (chooseF (D.readOf 0) (D.readOf 1)).1.pg ≠ (D.np : Int) then ({ D with reads := D.reads + 2 }, 4)
 else ({ D with reads := D.reads + 2, epoch := D.epoch + 1 }, 0)
theorem run_fmt (n : Nat) (wd : Int) (D : DS) : runS D [.lay (fS n wd 0) 0 0, .sync, .lay (fS n wd 1) 0 0, .sync] = if (fmtStep n wd D 0).2 = 0 then fmtStep n wd (fmtStep n wd D 0).1 1 else fmtStep n wd D 0 := by
 have e : ∀ (E : DS) (k : Nat) (hk : k = 0 ∨ k = 1) (r : List St), runS E (.lay (fS n wd k) 0 0 :: .sync :: r) = if (fmtStep n wd E k).2 = 0 then runS (fmtStep n wd E k).1 r else fmtStep n wd E k := by
   intro E k hk r
   have hq : ((fS n wd (k : Int)).ge % 2).toNat = k := by rcases hk with rfl | rfl <;> rfl
   show (if E.actE = 0 then runS (E.wr ⟨((fS n wd (k : Int)).ge % 2).toNat, secP (fS n wd k)⟩) (.sync :: r) else (E.wr ⟨((fS n wd (k : Int)).ge % 2).toNat, secP (fS n wd k)⟩, E.actE)) = _
   rw [hq]
   unfold fmtStep
   by_cases h1 : E.actE = 0
   · simp only [if_pos h1]; rfl
   · simp only [if_neg h1]
 have h0 := e D 0 (Or.inl rfl) [.lay (fS n wd 1) 0 0, .sync]
 have h1 := e (fmtStep n wd D 0).1 1 (Or.inr rfl) []
 rw [show ((0 : Nat) : Int) = 0 from rfl] at h0
 rw [show ((1 : Nat) : Int) = 1 from rfl] at h1
 rw [h0, h1]
 by_cases c : (fmtStep n wd D 0).2 = 0
 · rw [if_pos c, if_pos c]
   by_cases c2 : (fmtStep n wd (fmtStep n wd D 0).1 1).2 = 0
   · rw [if_pos c2]; show ((fmtStep n wd (fmtStep n wd D 0).1 1).1, (0 : Int)) = _; rw [← c2]
   · rw [if_neg c2]
 · rw [if_neg c, if_neg c]
theorem Format_nil (w : World) (wd : Int) : Calls Tryz.prog 19 #[.pointer none, .int .i64 wd] w fun e w' => e = .returned (.int .i64 1) ∧ w = w' := by
 go_enter Tryz.func19, Tryz.ntmps19
 go_wp2
 go_ret
 exact ⟨rfl, rfl⟩
theorem Open_nil (w : World) : Calls Tryz.prog 20 #[.pointer none] w fun e w' => e = .returned (.tuple #[.pointer none, .int .i64 1]) ∧ w = w' := by
 go_enter Tryz.func20, Tryz.ntmps20
 go_wp2
 go_ret2
 exact ⟨rfl, rfl⟩
theorem Format_off (w : World) (base : Nat) (F : List Nat) (p : Nat) (D : DS) (h : DA w base F p D) (hpw : D.power = false) (wd : Int) :
   Calls Tryz.prog 19 #[.pointer (some ⟨p, 0, none⟩), .int .i64 wd] w fun e w' => e = .returned (.int .i64 2) ∧ w = w' := by
 have hpx := Power_any w base F p D h
 rw [hpw] at hpx
 have HPW := hid hpx
 clear hpx h hpw
 go_enter Tryz.func19, Tryz.ntmps19
 go_wp2_with (first | (go_at_call 51; refine HPW.out.mono ?_; rintro e w0 ⟨rfl, rfl⟩))
 go_ret
 exact ⟨rfl, rfl⟩
theorem Format_width (w : World) (base : Nat) (F : List Nat) (p : Nat) (D : DS) (h : DA w base F p D) (hpw : D.power = true) (wd : Int) (hwd : ¬ (1 ≤ wd ∧ wd ≤ 32)) :
   Calls Tryz.prog 19 #[.pointer (some ⟨p, 0, none⟩), .int .i64 wd] w fun e w' => e = .returned (.int .i64 1) ∧ w = w' := by
 have hpx := Power_any w base F p D h
 rw [hpw] at hpx
 have HPW := hid hpx
 clear hpx h hpw
 by_cases c : wd < 1
 · clear hwd
   go_enter Tryz.func19, Tryz.ntmps19
   go_wp2_with (first | (go_at_call 51; refine HPW.out.mono ?_; rintro e w0 ⟨rfl, rfl⟩))
   go_ret
   exact ⟨rfl, rfl⟩
 · have c2 : 32 < wd := by omega
   clear hwd
   go_enter Tryz.func19, Tryz.ntmps19
   go_wp2_with (first | (go_at_call 51; refine HPW.out.mono ?_; rintro e w0 ⟨rfl, rfl⟩))
   go_ret
   exact ⟨rfl, rfl⟩
theorem fchoose_off (w : World) (base : Nat) (F : List Nat) (p : Nat) (D : DS) (h : DA w base F p D) (hpw : D.power = false) :
   Calls Tryz.prog 52 #[.pointer (some ⟨p, 0, none⟩)] w fun e w' => ∃ s, e = .returned (.tuple #[.agg (supC s), .int .i64 2]) ∧ Below w.heap.size w w' := by
 have b0 := below_new w (.cells (supC sup0) 39)
 have r0 := hnew w (.cells (supC sup0) 39)
 have HR0 := hid (Read_off (w.alloc (.cells (supC sup0) 39)) base F p D (h.below b0) hpw 0)
 have R0 := hid r0
 have B0 := hid b0
 clear h b0 r0 hpw
 go_enter Tryz.func52, Tryz.ntmps52
 go_wp2_with fail
 rw [zero_super]
 refine HR0.out.mono ?_
 rintro e w1 ⟨rfl, rfl⟩
 generalize hw1 : w.alloc (.cells (supC sup0) 39) = w1 at *
 clear HR0
 go_wp2_with (first | (refine wpList_store_row (by rfl) 39 (.tmp 2) _ (by rfl) w.heap.size (supC sup0) (by rfl) (by rfl) 39 (supC sup0) (by exact R0.out) (supN _) (supS _ _) (supO _) ?_))
 exact bodyPost_ret (v := .tuple #[.agg (supC sup0), .int .i64 2]) (results_c2 Tryz.results52 _ _ w.heap.size 39 _ _ _ rfl (setRow_heap _ _ _ _ _ _ R0.out) Tryz.underlying39 rfl (by rw [size_super]; rfl)) rfl ⟨sup0, rfl, ⟨B0.out.os, B0.out.tape, B0.out.output, by rw [setRow_size]; exact B0.out.size, fun k hk => (setRow_other _ _ _ _ (by omega)).trans (B0.out.block k hk)⟩⟩
theorem Open_off (w : World) (base : Nat) (F : List Nat) (p : Nat) (D : DS) (h : DA w base F p D) (hpw : D.power = false) :
   Calls Tryz.prog 20 #[.pointer (some ⟨p, 0, none⟩)] w fun e w' => e = .returned (.tuple #[.pointer none, .int .i64 2]) ∧ Below w.heap.size w w' := by
 have HCH := hid (fchoose_off w base F p D h hpw)
 clear h hpw
 go_enter Tryz.func20, Tryz.ntmps20
 go_wp2_with fail
 refine HCH.out.mono ?_
 rintro e w1 ⟨S, rfl, hB1⟩
 have HB1 := hid hB1
 clear hB1 HCH
 go_wp2_with (first
   | (refine wpList_store_row (by rfl) 39 (.tmp 4) (.tmp 11) (by rfl) w1.heap.size (supC S) (by rfl) (by rfl) 39 _ (by exact hnew _ _) (supN S) (supZ S) (supO S) ?_; rw [setRow_alloc]))
 go_ret2
 exact ⟨rfl, HB1.out.trans ((below_new w1 _).mono HB1.out.size)⟩
theorem Open_pages (w : World) (base : Nat) (F : List Nat) (p : Nat) (D : DS) (h : DA w base F p D) (hpw : D.power = true) (hr : D.reads < 3999999999999999999) (s : Sup) (hs : chooseF (D.readOf 0) (D.readOf 1) = (s, 0)) (hpg : s.pg ≠ (D.np : Int)) :
   Calls Tryz.prog 20 #[.pointer (some ⟨p, 0, none⟩)] w fun e w' => e = .returned (.tuple #[.pointer none, .int .i64 4]) ∧ DA w' base F p { D with reads := D.reads + 2 } ∧ Fr F w w' := by
 have HCH := hid (fchoose_any w base F p D h hpw hr)
 have HX := hid hs
 have hpq : Hid ((s.pg != ((({ D with reads := D.reads + 2 } : DS).np : Nat) : Int)) = true) := hid (by rw [show ({ D with reads := D.reads + 2 } : DS).np = D.np from rfl]; simpa using hpg)
 clear h hpw hr hs hpg
 go_enter Tryz.func20, Tryz.ntmps20
 go_wp2_with fail
 refine HCH.out.mono ?_
 rintro e w1 ⟨rfl, hD1, hF1⟩
 rw [HX.out]
 have HD1 := hid hD1
 have HF1 := hid hF1
 clear hD1 hF1 HCH HX
 go_wp2_with (first
   | (refine wpList_store_row (by rfl) 39 (.tmp 4) (.tmp 11) (by rfl) w1.heap.size (supC s) (by rfl) (by rfl) 39 _ (by exact hnew _ _) (supN s) (supZ s) (supO s) ?_; rw [setRow_alloc]; have R4 := hid (hnew w1 (.cells (supC s) 39)); have HD2 := hid (HD1.out.below (below_new w1 (.cells (supC s) 39))); have HF2 := hid (HF1.out.tail (F' := F) (below_new w1 (.cells (supC s) 39))); generalize hw2 : w1.alloc (.cells (supC s) 39) = w2 at *; generalize w1.heap.size = G4 at *))
 refine rgA (fun w' => w'.heap[G4]? = some (.cells (supC s) 39 (0, 0))) R4.out (fun hq0 => ?_)
 refine tkA 0 (.pointer (some ⟨G4, 4, none⟩)) rfl hq0 ?_
 go_frame
 refine tkA 2 (.pointer (some ⟨p, 0, none⟩)) rfl hq0 ?_
 go_frame
 refine tqA 1 (.int .i64 s.pg) rfl (yA (by intro w hS; have hc := cell_sup4 hS; go_simp)) hq0 ?_
 go_frame
 refine rdA 3 rfl (fun K hK => ?_)
 go_simp
 go_at_call 53
 refine (Pages_any _ base F p _ (HD2.out.drew)).mono ?_
 rintro e w4 ⟨rfl, rfl⟩
 go_wp2_with fail
 refine hK.out _ _ (hq0) ?_
 clear hK K hq0
 intro hq0
 try go_frame
 refine tqA 4 (.bool true) rfl (yA (by intro w hS; (have he2 := hpq.out; go_simp))) hq0 ?_
 go_frame
 refine wdA ?_
 go_wp2
 go_ret2
 exact ⟨rfl, HD2.out.drew, HF2.out.drew⟩
theorem Format_any (w : World) (base : Nat) (F : List Nat) (p : Nat) (D : DS) (h : DA w base F p D) (hbw : base ≤ w.heap.size) (hr : D.reads < 3999999999999999999) (hops : D.ops.length + 4 < 400000000000) (hwr : D.writes + 4 < 4000000000000000000) (hsy : D.syncs + 4 < 4000000000000000000) (wd : Int) :
   Calls Tryz.prog 19 #[.pointer (some ⟨p, 0, none⟩), .int .i64 wd] w fun e w' => e = .returned (.int .i64 (fmtF D wd).2) ∧ Nx base F p w (fmtF D wd).1 w' := by
 unfold fmtF
 by_cases hp0 : D.power = false
 · have hpw := hp0
   rw [if_pos hp0]
   refine (Format_off w base F p D h hpw wd).mono ?_
   rintro e w' ⟨rfl, rfl⟩; exact ⟨rfl, F, h, Fr.refl _ _, Gr.refl _ _⟩
 · have hpw : D.power = true := by simpa using hp0
   rw [if_neg hp0]
   by_cases hwd : 1 ≤ wd ∧ wd ≤ 32
   · rw [if_neg (fun c => c hwd)]
     by_cases hc : (chooseF (D.readOf 0) (D.readOf 1)).2 = 55
     · rw [if_neg (fun c => c hc)]
       have := Format_ok w base F p D h hbw hpw hr ⟨hpw, hops, hwr, hsy⟩ wd hwd _ _ rfl rfl hc
       rw [run_fmt] at this
       exact this
     · rw [if_pos hc]
       refine (Format_taken w base F p D h hpw hr wd hwd hc).mono ?_
       rintro e w' ⟨rfl, h1, h2⟩; exact ⟨rfl, F, h1, h2, Gr.refl _ _⟩
   · rw [if_pos hwd]
     refine (Format_width w base F p D h hpw wd hwd).mono ?_
     rintro e w' ⟨rfl, rfl⟩; exact ⟨rfl, F, h, Fr.refl _ _, Gr.refl _ _⟩
theorem Open_any (w : World) (base : Nat) (F : List Nat) (p : Nat) (D : DS) (h : DA w base F p D) (hr : D.reads < 3999999999999999999) (hep : D.epoch < 4000000000000000000) :
   Calls Tryz.prog 20 #[.pointer (some ⟨p, 0, none⟩)] w fun e w' => ((opnF D).2 = 0 → ∃ g, e = .returned (.tuple #[.pointer (some ⟨g, 0, none⟩), .int .i64 0]) ∧ w.heap.size ≤ g ∧ FK w' g p (chooseF (D.readOf 0) (D.readOf 1)).1 (chooseF (D.readOf 0) (D.readOf 1)).1.ma (D.epoch + 1)) ∧ ((opnF D).2 ≠ 0 → e = .returned (.tuple #[.pointer none, .int .i64 (opnF D).2])) ∧ DA w' base F p (opnF D).1 ∧ Fr F w w' := by
 unfold opnF
 by_cases hp0 : D.power = false
 · have hpw := hp0
   rw [if_pos hp0]
   refine (Open_off w base F p D h hpw).mono ?_
   rintro e w' ⟨rfl, hb⟩; exact ⟨fun c => absurd (show (2 : Int) = 0 from c) (by decide), fun _ => rfl, h.below hb, Fr.of_below hb⟩
 · have hpw : D.power = true := by simpa using hp0
   rw [if_neg hp0]
   by_cases hc : (chooseF (D.readOf 0) (D.readOf 1)).2 = 0
   · rw [if_neg (fun c => c hc)]
     have hs : chooseF (D.readOf 0) (D.readOf 1) = ((chooseF (D.readOf 0) (D.readOf 1)).1, 0) := by rw [← hc]
     by_cases hpg : (chooseF (D.readOf 0) (D.readOf 1)).1.pg = (D.np : Int)
     · rw [if_neg (fun c => c hpg)]
       refine (Open_ok w base F p D h hpw hr hep _ hs hpg).mono ?_
       rintro e w' ⟨g, rfl, h1, h2, h3, h4⟩
       exact ⟨fun _ => ⟨g, rfl, h1, h2⟩, fun c => absurd rfl c, h3, h4⟩
     · rw [if_pos hpg]
       refine (Open_pages w base F p D h hpw hr _ hs hpg).mono ?_
       rintro e w' ⟨rfl, h3, h4⟩
       exact ⟨fun c => absurd (show (4 : Int) = 0 from c) (by decide), fun _ => rfl, h3, h4⟩
   · rw [if_pos hc]
     refine (Open_bad w base F p D h hpw hr _ rfl hc).mono ?_
     rintro e w' ⟨rfl, h3, h4⟩
     exact ⟨fun c => absurd c hc, fun _ => rfl, h3, h4⟩
theorem buildS (a b c d e : Int) (w : World) : (Instr.build 39 #[(0, .int .i64 a), (1, .int .i64 b), (2, .int .i64 c), (3, .int .i64 d), (4, .int .i64 e)]).run Tryz.prog w = .ok (.agg #[.int .i64 a, .int .i64 b, .int .i64 c, .int .i64 d, .int .i64 e]) w := by kernel_rfl
theorem xFormat_nil (w : World) (wd : Int) : Calls Tryz.prog 15 #[.pointer none, .int .i64 wd] w fun e w' => e = .returned (.int .i64 1) ∧ w = w' := by
 go_enter Tryz.func15, Tryz.ntmps15
 go_wp2
 go_ret
 exact ⟨rfl, rfl⟩
theorem xOpen_nil (w : World) : Calls Tryz.prog 16 #[.pointer none] w fun e w' => e = .returned (.tuple #[.pointer none, .int .i64 1]) ∧ w = w' := by
 go_enter Tryz.func16, Tryz.ntmps16
 go_wp2
 go_ret2
 exact ⟨rfl, rfl⟩
theorem xFormat_no (w : World) (base : Nat) (F : List Nat) (p m : Nat) (D : DS) (h : RD w base F p m D) (wd x : Int) (hx : (D.power = false ∧ x = 2) ∨ (D.power = true ∧ ¬ (1 ≤ wd ∧ wd ≤ 32) ∧ x = 1)) :
   Calls Tryz.prog 15 #[.pointer (some ⟨p, 0, none⟩), .int .i64 wd] w fun e w' => e = .returned (.int .i64 x) ∧ w = w' := by
 have HPW := hid (rPower_any w base F p m D h)
 clear h
 rcases hx with ⟨hp, rfl⟩ | ⟨hp, hwd, rfl⟩
 · rw [hp] at HPW
   go_enter Tryz.func15, Tryz.ntmps15
   go_wp2_with (first | (go_at_call 30; refine HPW.out.mono ?_; rintro e w0 ⟨rfl, rfl⟩))
   go_ret
   exact ⟨rfl, rfl⟩
 · rw [hp] at HPW
   by_cases c : wd < 1
   · clear hwd
     go_enter Tryz.func15, Tryz.ntmps15
     go_wp2_with (first | (go_at_call 30; refine HPW.out.mono ?_; rintro e w0 ⟨rfl, rfl⟩))
     go_ret
     exact ⟨rfl, rfl⟩
   · have c2 : 32 < wd := by omega
     clear hwd
     go_enter Tryz.func15, Tryz.ntmps15
     go_wp2_with (first | (go_at_call 30; refine HPW.out.mono ?_; rintro e w0 ⟨rfl, rfl⟩))
     go_ret
     exact ⟨rfl, rfl⟩
theorem xchoose (w : World) (hG : Gl w) (base : Nat) (hb0 : 0 < base) (F : List Nat) (p m : Nat) (D : DS) (h : RD w base F p m D) (w1 : World) (hf : Fr F w w1) (a b : Option Addr) (ca cb : Nat) (ha : Src w1 a ca (D.readOf 0)) (hb : Src w1 b cb (D.readOf 1)) (S : Sup) (E : Int) (hSE : chooseF (D.readOf 0) (D.readOf 1) = (S, E)) :
   Calls Tryz.prog 32 #[.slice a 256 ca, .slice b 256 cb] w1 fun e w' => e = .returned (.tuple #[.agg (supC S), .int .i64 E]) ∧ Below w1.heap.size w1 w' := by
 have hnp := h.ok.np
 have f0 := readOf_fine h.ok 0 (by omega)
 have f1 := readOf_fine h.ok 1 (by omega)
 have := qChoose_any w1 (hG.fr hf (fun k hk => (h.lt k hk).1) hb0) (D.readOf 0) (D.readOf 1) f0.2 f1.2 a b ca cb ha hb
 rw [f0.1, f1.1, hSE] at this
 exact this
def FmtAt (n : Nat) (wd : Int) (D2 : DS) : Nat → DS → Prop
 | 0, D => D = D2
 | k + 1, D => ∃ D', FmtAt n wd D2 k D' ∧ fmtStep n wd D' k = (D, 0)
theorem actE_not {D : DS} (h : D.actE ≠ 0) : D.actE = 2 := by unfold DS.actE at h ⊢; split <;> simp_all
theorem wr_np {D : DS} (o : OW) : (D.wr o).np = D.np := by
 have e := acted_same ({ D.pushed o with writes := D.writes + 1 } : DS)
 unfold DS.wr DS.np
 rw [e.1]; rfl
theorem wr_pw {D : DS} (o : OW) (h : D.actE = 0) : (D.wr o).power = D.power := by
 have c : D.armed ≠ 1 := by intro c; unfold DS.actE at h; rw [if_pos c] at h; exact absurd h (by decide)
 unfold DS.wr
 rw [acted_pw (D := { D.pushed o with writes := D.writes + 1 }) c]; rfl
theorem sy_pw {D : DS} (h : (sy D).2 = 0) : (sy D).1.power = D.power := by
 unfold sy at h ⊢
 by_cases c : D.armed = 1
 · rw [if_pos c] at h; exact absurd (show (2 : Int) = 0 from h) (by decide)
 · rw [if_neg c]; exact acted_pw c
theorem sy_np {D : DS} (hok : DsOk D) : (sy D).1.np = D.np := by
 have e := acted_same D
 unfold sy
 split
 · unfold DS.np; rw [e.1]
 · show (layTo D.img D.ops D.ops.length).length / 256 = D.img.length / 256
   rw [layTo_len hok.np.2.2.1 hok.np.2.2.2 _ (Nat.le_refl _), hok.np.2.2.1]
theorem fmt_stop {D D2 : DS} {n : Nat} {wd : Int} {k : Nat} {Dk : DS} (h : FmtAt n wd D2 k Dk) (hk : k < 2) (he : (fmtStep n wd Dk k).2 ≠ 0) (hf : fmtF D wd = if (fmtStep n wd D2 0).2 = 0 then fmtStep n wd (fmtStep n wd D2 0).1 1 else fmtStep n wd D2 0) : fmtF D wd = fmtStep n wd Dk k := by
 rw [hf]
 rcases k with _ | _ | k
 · obtain rfl : Dk = D2 := h
   rw [if_neg he]
 · obtain ⟨D', e1, e2⟩ := h
   obtain rfl : D' = D2 := e1
   rw [e2, if_pos rfl]
 · omega
theorem fmt_end {D D2 : DS} {n : Nat} {wd : Int} {Dk : DS} (h : FmtAt n wd D2 2 Dk) (hf : fmtF D wd = if (fmtStep n wd D2 0).2 = 0 then fmtStep n wd (fmtStep n wd D2 0).1 1 else fmtStep n wd D2 0) : fmtF D wd = (Dk, 0) := by
 obtain ⟨D', ⟨D'', e0, e1⟩, e2⟩ := h
 obtain rfl : D'' = D2 := e0
 rw [hf, e1, if_pos rfl, e2]
theorem xFormat_in (w : World) (hG : Gl w) (base : Nat) (hb0 : 0 < base) (F : List Nat) (p m : Nat) (hm : m + 8 < 400000000000) (hbw : base ≤ w.heap.size) (D : DS) (h : RD w base F p m D) (hpw : D.power = true) (wd : Int) (hwd : 1 ≤ wd ∧ wd ≤ 32) :
   Calls Tryz.prog 15 #[.pointer (some ⟨p, 0, none⟩), .int .i64 wd] w fun e w' => e = .returned (.int .i64 (fmtF D wd).2) ∧ RX base F p w (m + 6) (fmtF D wd).1 w' := by
 have hpx := rPower_any w base F p m D h
 rw [hpw] at hpx
 have HPW := hid hpx
 have HSL := hid (xslots_any w base F p m (by omega) hbw D h hpw)
 obtain ⟨S, hS⟩ : ∃ S, S = (chooseF (D.readOf 0) (D.readOf 1)).1 := ⟨_, rfl⟩
 obtain ⟨E, hE0⟩ : ∃ E, E = (chooseF (D.readOf 0) (D.readOf 1)).2 := ⟨_, rfl⟩
 have HCH := hid (fun (w1 : World) (hf : Fr F w w1) (a b : Option Addr) (ca cb : Nat) (ha : Src w1 a ca (D.readOf 0)) (hb : Src w1 b cb (D.readOf 1)) => xchoose w hG base hb0 F p m D h w1 hf a b ca cb ha hb S E (by rw [hS, hE0]))
 obtain ⟨i1, i2⟩ := hwd
 have hnp := h.ok.np
 have HNP := hid hnp
 have HLT := hid h.lt
 have HGL := hid (fun (w1 : World) (hf1 : Fr F w w1) => hG.fr hf1 (fun k hk => (h.lt k hk).1) hb0)
 have HV := hid (fun (k : Int) (hk : 0 ≤ k ∧ k ≤ 1) => fS_valid (n := D.np) (wd := wd) (g := k) hnp.1 hnp.2.1 ⟨i1, i2⟩ hk)
 have HFM := hid (show fmtF D wd = if E ≠ 55 then ({ D with reads := D.reads + 2 }, 60)
 else if (fmtStep D.np wd { D with reads := D.reads + 2 } 0).2 = 0 then fmtStep D.np wd (fmtStep D.np wd { D with reads := D.reads + 2 } 0).1 1
 else fmtStep D.np wd { D with reads := D.reads + 2 } 0 by unfold fmtF; rw [if_neg (by rw [hpw]; decide), if_neg (fun c => c ⟨i1, i2⟩), hE0])
 have HPP := hid hpw
 have bS := buildS
 clear hpx h hG hnp hpw hS hE0
 by_cases hE : E = 55
 · subst hE
   have HFM2 := hid (show fmtF D wd = if (fmtStep D.np wd { D with reads := D.reads + 2 } 0).2 = 0 then fmtStep D.np wd (fmtStep D.np wd { D with reads := D.reads + 2 } 0).1 1
 else fmtStep D.np wd { D with reads := D.reads + 2 } 0 by rw [HFM.out, if_neg (fun c => c rfl)])
   clear HFM
   go_enter Tryz.func15, Tryz.ntmps15
   go_wp2_with (first
     | (go_at_call 30; refine HPW.out.mono ?_; rintro e w0 ⟨rfl, rfl⟩)
     | (go_at_call 31; refine HSL.out.mono ?_; rintro e w1 ⟨a, b, ca, cb, rfl, hSa, hSb, hD1, hF1⟩; have HSa := hid hSa; have HSb := hid hSb; have HD1 := hid hD1; have HF1 := hid hF1; clear hSa hSb hD1 hF1)
     | (go_at_call 32; refine (HCH.out w1 HF1.out a b ca cb HSa.out HSb.out).mono ?_; rintro e w2 ⟨rfl, hb2⟩; have HD2 := hid (HD1.out.below hb2); have HF2 := hid (HF1.out.tail (F' := F) hb2); clear hb2)
     | (refine wpList_store_row (by rfl) 39 (.tmp 8) (.tmp 34) (by rfl) w2.heap.size (supC S) (by rfl) (by rfl) 39 _ (by exact hnew _ _) (supN S) (supZ S) (supO S) ?_; rw [setRow_alloc]; have HD3 := hid (HD2.out.below (below_new w2 (.cells (supC S) 39))); have HF3 := hid (HF2.out.tail (F' := F) (below_new w2 (.cells (supC S) 39))); generalize w2.alloc (.cells (supC S) 39) = w3 at *))
   go_loopw [9, 10] (fun ev iv wr => ∃ k : Nat, k ≤ 2 ∧ iv = .int .i64 k ∧ ∃ Dk F', FmtAt D.np wd { D with reads := D.reads + 2 } k Dk ∧ RD wr base F' p (m + 2 + 2 * k) Dk ∧ Fr F w wr ∧ Gr w F F' ∧ Dk.power = true ∧ Dk.np = D.np) (fun _ iv _ => 2 - (intOf iv).toNat)
   case atStart => exact ⟨0, by omega, rfl, _, F, rfl, HD3.out, HF3.out, Gr.refl _ _, HPP.out, rfl⟩
   case round =>
     obtain ⟨k, hk, rfl, Dk, F', hAt, hD, hF, hGr, hpk, hnk⟩ := hrel
     have HAt := hid hAt
     have HD := hid hD
     have HF := hid hF
     have HGr := hid hGr
     by_cases hlk : k < 2
     · have ik : (k : Int) < 2 := by omega
       have HPA := hid (rPages_any wr base F' p _ Dk hD)
       rw [hnk] at HPA
       obtain ⟨s, hs⟩ : ∃ s, s = fS D.np wd (k : Int) := ⟨_, rfl⟩
       have hv : validS s = true := by rw [hs]; exact HV.out k ⟨by omega, by omega⟩
       have hsC : (#[.int .i64 wd, .int .i64 (k : Int), .int .i64 2, .int .i64 0, .int .i64 (D.np : Nat)] : Array Value) = supC s := by rw [hs]; rfl
       have HQS := hid (fun (w4 : World) (hf : Fr F w w4) => qSuper_any w4 (HGL.out w4 hf) s hv)
       have HSL2 := hid (show (secS s ++ List.replicate 192 0).length = 256 from secP_len s)
       have HWR := hid (fun (w4 : World) (hbb : base ≤ w4.heap.size) (hd4 : RD w4 base F' p (m + 2 + 2 * k) Dk) (su : Option Addr) (cu : Nat) (hSu : Src w4 su cu (secS s ++ List.replicate 192 0)) (hn : su = none → cu = 0) => rWrite_any w4 base F' p (m + 2 + 2 * k) (by omega) hbb Dk hd4 hpk k (by rw [hnk]; have := HNP.out.1; omega) (secS s ++ List.replicate 192 0) (secP_len s) (secP_byts hv) su cu hSu hn)
       have HS := hid hs
       have HFS := hid (show fmtStep D.np wd Dk k = if Dk.actE = 0 then sy (Dk.wr ⟨k, secS s ++ List.replicate 192 0⟩) else (Dk.wr ⟨k, secS s ++ List.replicate 192 0⟩, Dk.actE) by rw [hs]; rfl)
       have HPK := hid hpk
       have HNK := hid hnk
       clear hAt hD hF hGr hs hv hpk hnk
       have HWY := hid (wr_pw (D := Dk) ⟨k, secS s ++ List.replicate 192 0⟩)
       obtain ⟨Y, hYd⟩ : ∃ Y, Y = Dk.wr ⟨k, secS s ++ List.replicate 192 0⟩ := ⟨_, rfl⟩
       rw [← hYd] at HFS HWY HWR
       have HYN := hid (show Y.np = Dk.np by rw [hYd]; exact wr_np _)
       have HYO := hid (fun (w4 : World) (F4 : List Nat) (j : Nat) (hd : RD w4 base F4 p j Y) => hd.ok)
       clear hYd
       by_cases hA : Dk.actE = 0
       · rw [if_pos hA] at HFS
         rw [hA] at HWR
         have HSY := hid (fun (w4 : World) (F4 : List Nat) (hbb : base ≤ w4.heap.size) (hd : RD w4 base F4 p (m + 2 + 2 * k + 1) Y) => rSync_any w4 base F4 p (m + 2 + 2 * k + 1) (by omega) hbb Y hd ((HWY.out hA).trans HPK.out))
         have HA := hid hA
         clear hA
         by_cases hB : (sy Y).2 = 0
         · rw [hB] at HSY
           have HB := hid hB
           clear hB
           go_wp2_with (first
             | (go_at_call 33; refine HPA.out.mono ?_; rintro e w0 ⟨rfl, rfl⟩)
             | (refine wpList_store_row (by rfl) 39 (.tmp 11) (.tmp 46) (by rfl) wr.heap.size (supC s) (by rfl) (by first | rfl | (rw [← hsC]; rfl)) 39 _ (by exact hnew _ _) (supN s) (supZ s) (supO s) ?_; rw [setRow_alloc]; have R4 := hid (hnew wr (.cells (supC s) 39)); have b4 := below_new wr (.cells (supC s) 39); have HD4 := hid (HD.out.below b4); have HF4 := hid (HF.out.tail (F' := F') b4); clear b4; generalize hG4 : wr.heap.size = G4 at *; generalize wr.alloc (.cells (supC s) 39) = w4 at *)
             | (refine wpList_load_row_w (by rfl) 39 (.tmp 11) (by rfl) G4 (by rfl) 39 (supC s) (0, 0) _ (by exact R4.out) Tryz.underlying39 rfl (supN s) ?_)
             | (go_at_call 34; refine (HQS.out w4 HF4.out).mono ?_; rintro e w5 ⟨u, rfl, hO5, hb5⟩; obtain ⟨su, cu, hu, hSu, hnu⟩ := hO5.form; rw [HSL2.out] at hu; subst hu; have HSU := hid hSu; have HNU := hid hnu; have HD5 := hid (HD4.out.below hb5); have HF5 := hid (HF4.out.tail (F' := F') hb5); clear hO5 hb5 hSu hnu)
             | (go_at_call 35; refine (HWR.out w5 (Nat.le_trans hbw HF5.out.size) HD5.out su cu HSU.out HNU.out).mono ?_; rintro e w6 ⟨rfl, F6, hD6, hF6, hG6⟩; have HD6 := hid hD6; have HW6 := hid (And.intro (HF5.out.trans hF6 HGr.out) (HGr.out.trans hG6 HF5.out.size)); clear hD6 hF6 hG6)
             | (go_at_call 36; refine (HSY.out w6 F6 (Nat.le_trans hbw HW6.out.1.size) HD6.out).mono ?_; rintro e w7 ⟨rfl, F7, hD7, hF7, hG7⟩; have HD7 := hid hD7; have HW7 := hid (And.intro (HW6.out.1.trans hF7 HW6.out.2) (HW6.out.2.trans hG7 HW6.out.1.size)); clear hD7 hF7 hG7))
           go_roundw
           case rel => exact ⟨k + 1, by omega, by go_num, _, F7, ⟨Dk, HAt.out, by rw [HFS.out, ← HB.out]⟩, HD7.out, HW7.out.1, HW7.out.2, (sy_pw HB.out).trans ((HWY.out HA.out).trans HPK.out), (sy_np (HYO.out _ _ _ HD6.out)).trans (HYN.out.trans HNK.out)⟩
           case measure => simp [intOf]; omega
         · have HRES := hid (fmt_stop HAt.out hlk (by rw [HFS.out]; exact hB) HFM2.out)
           rw [HFS.out] at HRES
           have hB2 : ((sy Y).2 != 0) = true := by simpa using hB
           clear hB
           generalize (sy Y) = Z at *
           go_wp2_with (first
             | (go_at_call 33; refine HPA.out.mono ?_; rintro e w0 ⟨rfl, rfl⟩)
             | (refine wpList_store_row (by rfl) 39 (.tmp 11) (.tmp 46) (by rfl) wr.heap.size (supC s) (by rfl) (by first | rfl | (rw [← hsC]; rfl)) 39 _ (by exact hnew _ _) (supN s) (supZ s) (supO s) ?_; rw [setRow_alloc]; have R4 := hid (hnew wr (.cells (supC s) 39)); have b4 := below_new wr (.cells (supC s) 39); have HD4 := hid (HD.out.below b4); have HF4 := hid (HF.out.tail (F' := F') b4); clear b4; generalize hG4 : wr.heap.size = G4 at *; generalize wr.alloc (.cells (supC s) 39) = w4 at *)
             | (refine wpList_load_row_w (by rfl) 39 (.tmp 11) (by rfl) G4 (by rfl) 39 (supC s) (0, 0) _ (by exact R4.out) Tryz.underlying39 rfl (supN s) ?_)
             | (go_at_call 34; refine (HQS.out w4 HF4.out).mono ?_; rintro e w5 ⟨u, rfl, hO5, hb5⟩; obtain ⟨su, cu, hu, hSu, hnu⟩ := hO5.form; rw [HSL2.out] at hu; subst hu; have HSU := hid hSu; have HNU := hid hnu; have HD5 := hid (HD4.out.below hb5); have HF5 := hid (HF4.out.tail (F' := F') hb5); clear hO5 hb5 hSu hnu)
             | (go_at_call 35; refine (HWR.out w5 (Nat.le_trans hbw HF5.out.size) HD5.out su cu HSU.out HNU.out).mono ?_; rintro e w6 ⟨rfl, F6, hD6, hF6, hG6⟩; have HD6 := hid hD6; have HW6 := hid (And.intro (HF5.out.trans hF6 HGr.out) (HGr.out.trans hG6 HF5.out.size)); clear hD6 hF6 hG6)
             | (go_at_call 36; refine (HSY.out w6 F6 (Nat.le_trans hbw HW6.out.1.size) HD6.out).mono ?_; rintro e w7 ⟨rfl, F7, hD7, hF7, hG7⟩; have HD7 := hid hD7; have HW7 := hid (And.intro (HW6.out.1.trans hF7 HW6.out.2) (HW6.out.2.trans hG7 HW6.out.1.size)); clear hD7 hF7 hG7))
           go_ret
           rw [HRES.out]
           exact ⟨rfl, F7, HD7.out.more (by omega), HW7.out.1, HW7.out.2⟩
       · have hA2 := actE_not hA
         have HRES := hid (fmt_stop HAt.out hlk (by rw [HFS.out, if_neg hA]; exact hA) HFM2.out)
         rw [HFS.out, if_neg hA, hA2] at HRES
         rw [hA2] at HWR
         clear hA hA2
         go_wp2_with (first
           | (go_at_call 33; refine HPA.out.mono ?_; rintro e w0 ⟨rfl, rfl⟩)
           | (refine wpList_store_row (by rfl) 39 (.tmp 11) (.tmp 46) (by rfl) wr.heap.size (supC s) (by rfl) (by first | rfl | (rw [← hsC]; rfl)) 39 _ (by exact hnew _ _) (supN s) (supZ s) (supO s) ?_; rw [setRow_alloc]; have R4 := hid (hnew wr (.cells (supC s) 39)); have b4 := below_new wr (.cells (supC s) 39); have HD4 := hid (HD.out.below b4); have HF4 := hid (HF.out.tail (F' := F') b4); clear b4; generalize hG4 : wr.heap.size = G4 at *; generalize wr.alloc (.cells (supC s) 39) = w4 at *)
           | (refine wpList_load_row_w (by rfl) 39 (.tmp 11) (by rfl) G4 (by rfl) 39 (supC s) (0, 0) _ (by exact R4.out) Tryz.underlying39 rfl (supN s) ?_)
           | (go_at_call 34; refine (HQS.out w4 HF4.out).mono ?_; rintro e w5 ⟨u, rfl, hO5, hb5⟩; obtain ⟨su, cu, hu, hSu, hnu⟩ := hO5.form; rw [HSL2.out] at hu; subst hu; have HSU := hid hSu; have HNU := hid hnu; have HD5 := hid (HD4.out.below hb5); have HF5 := hid (HF4.out.tail (F' := F') hb5); clear hO5 hb5 hSu hnu)
           | (go_at_call 35; refine (HWR.out w5 (Nat.le_trans hbw HF5.out.size) HD5.out su cu HSU.out HNU.out).mono ?_; rintro e w6 ⟨rfl, F6, hD6, hF6, hG6⟩; have HD6 := hid hD6; have HW6 := hid (And.intro (HF5.out.trans hF6 HGr.out) (HGr.out.trans hG6 HF5.out.size)); clear hD6 hF6 hG6)
           | (go_at_call 36; refine (HSY.out w6 F6 (Nat.le_trans hbw HW6.out.1.size) HD6.out).mono ?_; rintro e w7 ⟨rfl, F7, hD7, hF7, hG7⟩; have HD7 := hid hD7; have HW7 := hid (And.intro (HW6.out.1.trans hF7 HW6.out.2) (HW6.out.2.trans hG7 HW6.out.1.size)); clear hD7 hF7 hG7))
         go_ret
         rw [HRES.out]
         exact ⟨rfl, F6, HD6.out.more (by omega), HW6.out.1, HW6.out.2⟩
     · obtain rfl : k = 2 := by omega
       have HRES := hid (fmt_end HAt.out HFM2.out)
       clear hlk hAt hD hF hGr
       go_wp2
       go_ret
       rw [HRES.out]
       exact ⟨rfl, F', HD.out.more (by omega), HF.out, HGr.out⟩
 · have hz : (E != 55) = true := by simpa using hE
   have HRES := hid (show fmtF D wd = ({ D with reads := D.reads + 2 }, 60) by rw [HFM.out, if_pos hE])
   clear HFM
   go_enter Tryz.func15, Tryz.ntmps15
   go_wp2_with (first
     | (go_at_call 30; refine HPW.out.mono ?_; rintro e w0 ⟨rfl, rfl⟩)
     | (go_at_call 31; refine HSL.out.mono ?_; rintro e w1 ⟨a, b, ca, cb, rfl, hSa, hSb, hD1, hF1⟩; have HSa := hid hSa; have HSb := hid hSb; have HD1 := hid hD1; have HF1 := hid hF1; clear hSa hSb hD1 hF1)
     | (go_at_call 32; refine (HCH.out w1 HF1.out a b ca cb HSa.out HSb.out).mono ?_; rintro e w2 ⟨rfl, hb2⟩; have HD2 := hid (HD1.out.below hb2); have HF2 := hid (HF1.out.tail (F' := F) hb2); clear hb2)
     | (refine wpList_store_row (by rfl) 39 (.tmp 8) (.tmp 34) (by rfl) w2.heap.size (supC S) (by rfl) (by rfl) 39 _ (by exact hnew _ _) (supN S) (supZ S) (supO S) ?_; rw [setRow_alloc]; have HD3 := hid (HD2.out.below (below_new w2 (.cells (supC S) 39))); have HF3 := hid (HF2.out.tail (F' := F) (below_new w2 (.cells (supC S) 39))); generalize w2.alloc (.cells (supC S) 39) = w3 at *))
   go_ret
   rw [HRES.out]
   exact ⟨rfl, F, HD3.out.more (by omega), HF3.out, Gr.refl _ _⟩
theorem xFormat_any (w : World) (hG : Gl w) (base : Nat) (hb0 : 0 < base) (F : List Nat) (p m : Nat) (hm : m + 8 < 400000000000) (hbw : base ≤ w.heap.size) (D : DS) (h : RD w base F p m D) (wd : Int) :
   Calls Tryz.prog 15 #[.pointer (some ⟨p, 0, none⟩), .int .i64 wd] w fun e w' => e = .returned (.int .i64 (fmtF D wd).2) ∧ RX base F p w (m + 6) (fmtF D wd).1 w' := by
 cases hpw : D.power with
 | false =>
   have e : fmtF D wd = (D, 2) := by unfold fmtF; rw [if_pos hpw]
   rw [e]
   refine (xFormat_no w base F p m D h wd 2 (Or.inl ⟨hpw, rfl⟩)).mono ?_
   rintro e w' ⟨rfl, rfl⟩; exact ⟨rfl, F, h.more (by omega), Fr.refl _ _, Gr.refl _ _⟩
 | true =>
   by_cases hwd : 1 ≤ wd ∧ wd ≤ 32
   · exact xFormat_in w hG base hb0 F p m hm hbw D h hpw wd hwd
   · have e : fmtF D wd = (D, 1) := by unfold fmtF; rw [if_neg (by rw [hpw]; decide), if_pos hwd]
     rw [e]
     refine (xFormat_no w base F p m D h wd 1 (Or.inr ⟨hpw, hwd, rfl⟩)).mono ?_
     rintro e w' ⟨rfl, rfl⟩; exact ⟨rfl, F, h.more (by omega), Fr.refl _ _, Gr.refl _ _⟩
end
end Go.Proofs.YtjhocjjecfdphaaGreatDoor
