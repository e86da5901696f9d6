import Derived.Test.YtjhocjjecfdphaaGreatDoorQ30
namespace Go.Proofs.YtjhocjjecfdphaaGreatDoor
set_option linter.unusedVariables false
set_option linter.unusedSimpArgs false
set_option maxRecDepth 100000
set_option maxHeartbeats 4000000
section
open Go.RowKit
attribute [local go_sem ↓] Go.wp_at_zero Go.wp_at_succ
theorem rClaim_same (w : World) (base : Nat) (F : List Nat) (p m : Nat) (hm : m < 400000000000) (D : DS) (h : RD w base F p m D) :
   Calls Tryz.prog 37 #[.pointer (some ⟨p, 0, none⟩)] w fun e w' => e = .returned (.int .i64 (D.epoch + 1)) ∧ RD w' base F p (m + 1) { D with epoch := D.epoch + 1 } ∧ Fr F w w' := by
 obtain ⟨Q, R, rfl, rfl, hk, hd, hok⟩ := h
 have he := hd.em
 have := hok.epoch
 refine (rClaim_in w base Q R hk (by rw [hd.ag]; omega)).mono ?_
 rintro e w' ⟨rfl, h1, h2⟩
 exact ⟨by rw [hd.ag], ⟨Q, _, rfl, rfl, h1, hd.claim.self, claim_ok hok (by omega)⟩, h2⟩
theorem build_xfile (p : Nat) (s : Sup) (nx ep : Int) (w : World) : (Instr.build 67 #[(0, .pointer (some ⟨p, 0, none⟩)), (1, .agg (supC s)), (2, .int .i64 nx), (3, .int .i64 ep)]).run Tryz.prog w = .ok (.agg (fcells p s nx ep)) w := by kernel_rfl
theorem box_xfile (p : Nat) (s : Sup) (nx ep : Int) (w : World) : (Instr.box 67 (.agg (fcells p s nx ep))).run Tryz.prog w = .ok (.pointer (some ⟨w.heap.size, 0, none⟩)) (w.alloc (.cells (fcells p s nx ep) 67)) := by kernel_rfl
theorem wpList_build_xfile {w : World} {ops : Array Oper} {rest : List Oper} {o : Oper} {a : Act} {Q : Exit → Act → World → Prop} (hg : o.guard = none) (x y z u : Operand) (ho : o.op = .build 67 #[(0, x), (1, y), (2, z), (3, u)]) (p : Nat) (s : Sup) (nx ep : Int) (hx : a.eval x = .pointer (some ⟨p, 0, none⟩)) (hy : a.eval y = .agg (supC s)) (hz : a.eval z = .int .i64 nx) (hu : a.eval u = .int .i64 ep)
   (h : wpList Tryz.prog ops Q rest (a.put o.dst (.agg (fcells p s nx ep))) w) : wpList Tryz.prog ops Q (o :: rest) a w := by
 refine wpList_plain hg fun K hK => ?_
 unfold Oper.wp execOp
 simp only [ho, List.map_toArray, List.map_cons, List.map_nil, hx, hy, hz, hu, Sem.run_bind, build_xfile, Result.andThen_ok, Sem.run_pure]
 exact hK _ _ h
theorem wpList_box_xfile {w : World} {ops : Array Oper} {rest : List Oper} {o : Oper} {a : Act} {Q : Exit → Act → World → Prop} (hg : o.guard = none) (x : Operand) (ho : o.op = .box 67 x) (p : Nat) (s : Sup) (nx ep : Int) (hx : a.eval x = .agg (fcells p s nx ep))
   (h : wpList Tryz.prog ops Q rest (a.put o.dst (.pointer (some ⟨w.heap.size, 0, none⟩))) (w.alloc (.cells (fcells p s nx ep) 67))) : wpList Tryz.prog ops Q (o :: rest) a w := by
 refine wpList_plain hg fun K hK => ?_
 unfold Oper.wp execOp
 simp only [ho, hx, Sem.run_bind, box_xfile, Result.andThen_ok, Sem.run_pure]
 exact hK _ _ h
theorem xOpen_off (w : World) (base : Nat) (F : List Nat) (p m : Nat) (D : DS) (h : RD w base F p m D) (hp : D.power = false) :
   Calls Tryz.prog 16 #[.pointer (some ⟨p, 0, none⟩)] w fun e w' => e = .returned (.tuple #[.pointer none, .int .i64 2]) ∧ w = w' := by
 have HPW := hid (rPower_any w base F p m D h)
 rw [hp] at HPW
 clear h hp
 go_enter Tryz.func16, Tryz.ntmps16
 go_wp2_with (first | (go_at_call 30; refine HPW.out.mono ?_; rintro e w0 ⟨rfl, rfl⟩))
 go_ret2
 exact ⟨rfl, rfl⟩
theorem xOpen_in (w : World) (hG : Gl w) (base : Nat) (hb0 : 0 < base) (F : List Nat) (p m : Nat) (hm : m + 8 < 400000000000) (hbw : base ≤ w.heap.size) (D : DS) (h : RD w base F p m D) (hpw : D.power = true) (S : Sup) (E : Int) (hSE : chooseF (D.readOf 0) (D.readOf 1) = (S, E)) :
   Calls Tryz.prog 16 #[.pointer (some ⟨p, 0, none⟩)] w fun e w' => Hid (E = 0 → S.pg = (D.np : Int) → ∃ g, e = .returned (.tuple #[.pointer (some ⟨g, 0, none⟩), .int .i64 0]) ∧ w.heap.size ≤ g ∧ XK w' g p S S.ma (D.epoch + 1) ∧ RD w' base F p (m + 3) { D with reads := D.reads + 2, epoch := D.epoch + 1 } ∧ Fr F w w') ∧ Hid (E = 0 → S.pg ≠ (D.np : Int) → e = .returned (.tuple #[.pointer none, .int .i64 4]) ∧ RD w' base F p (m + 2) { D with reads := D.reads + 2 } ∧ Fr F w w') ∧ Hid (E ≠ 0 → e = .returned (.tuple #[.pointer none, .int .i64 E]) ∧ RD w' base F p (m + 2) { D with reads := D.reads + 2 } ∧ Fr F w w') := by
 have hpx := rPower_any w base F p m D h
 rw [hpw] at hpx
 have HPW := hid hpx
 have HSL := hid (xslots_any w base F p m (by omega) hbw D h hpw)
 have HCH := hid (fun (w1 : World) (hf : Fr F w w1) (a b : Option Addr) (ca cb : Nat) (ha : Src w1 a ca (D.readOf 0)) (hb : Src w1 b cb (D.readOf 1)) => xchoose w hG base hb0 F p m D h w1 hf a b ca cb ha hb S E hSE)
 have HPG := hid (fun (w1 : World) (hd : RD w1 base F p (m + 2) { D with reads := D.reads + 2 }) => rPages_any w1 base F p (m + 2) _ hd)
 have HCL := hid (fun (w1 : World) (hd : RD w1 base F p (m + 2) { D with reads := D.reads + 2 }) => rClaim_same w1 base F p (m + 2) (by omega) _ hd)
 have HLT := hid h.lt
 clear hpx h hG hpw hSE
 by_cases hE : E = 0
 · subst hE
   by_cases hpg : S.pg = (D.np : Int)
   · have HPE := hid hpg
     have hpq : (S.pg != (D.np : Int)) = false := by simpa using hpg
     clear hpg
     go_enter Tryz.func16, Tryz.ntmps16
     go_wp2_with (first
       | refine wpList_build_xfile rfl (.tmp 39) (.tmp 40) (.tmp 42) (.tmp 43) rfl p S S.ma (D.epoch + 1) rfl rfl rfl rfl ?_
       | refine wpList_box_xfile rfl (.tmp 44) rfl p S S.ma (D.epoch + 1) rfl ?_
       | (go_at_call 30; refine HPW.out.mono ?_; rintro e w0 ⟨rfl, rfl⟩)
       | (go_at_call 31; refine HSL.out.mono ?_; rintro e w1 ⟨a, b, ca, cb, rfl, hSa, hSb, hD1, hF1⟩; have HSa := hid hSa; have HSb := hid hSb; have HD1 := hid hD1; have HF1 := hid hF1; clear hSa hSb hD1 hF1)
       | (go_at_call 32; refine (HCH.out w1 HF1.out a b ca cb HSa.out HSb.out).mono ?_; rintro e w2 ⟨rfl, hb2⟩; have HD2 := hid (HD1.out.below hb2); have HF2 := hid (HF1.out.tail (F' := F) hb2); clear hb2)
       | (refine wpList_store_row (by rfl) 39 (.tmp 7) (.tmp 26) (by rfl) w2.heap.size (supC S) (by rfl) (by rfl) 39 _ (by exact hnew _ _) (supN S) (supZ S) (supO S) ?_; rw [setRow_alloc]; have R7 := hid (hnew w2 (.cells (supC S) 39)); have k4 := cell_sup4 (hnew w2 (.cells (supC S) 39)); have k2 := cell_sup2 (hnew w2 (.cells (supC S) 39)); have HD3 := hid (HD2.out.below (below_new w2 (.cells (supC S) 39))); have HF3 := hid (HF2.out.tail (F' := F) (below_new w2 (.cells (supC S) 39))); have HGS := hid HF2.out.size; generalize hG7 : w2.heap.size = G7 at *; generalize w2.alloc (.cells (supC S) 39) = w3 at *)
       | (go_at_call 33; refine (HPG.out w3 HD3.out).mono ?_; rintro e w0 ⟨rfl, rfl⟩; rw [show (({ D with reads := D.reads + 2 } : DS).np) = D.np from rfl])
       | (go_at_call 37; refine (HCL.out w3 HD3.out).mono ?_; rintro e w4 ⟨rfl, hD4, hF4⟩; have HD5 := hid hD4; have HF5 := hid (HF3.out.trans hF4 (Gr.refl _ _)); have HF4 := hid (HF3.out.trans hF4 (Gr.refl _ _)); have nG : G7 ∉ F := fun e => by { have := (HLT.out G7 e).2; have := HGS.out; omega }; have R8 := hid (hF4.keep R7.out nG); have k2b := cell_sup2 R8.out; clear hD4 hF4 nG)
       | (refine wpList_load_row_w (by rfl) 39 (.tmp 7) (by rfl) G7 (by rfl) 39 (supC S) (0, 0) _ (by exact R8.out) Tryz.underlying39 rfl (supN S) ?_))
     go_ret2
     exact ⟨hid fun _ _ => ⟨w4.heap.size, rfl, HF4.out.size, hnew _ _, HD5.out.below (below_new _ _), HF5.out.tail (F' := F) (below_new _ _)⟩, hid fun _ c => absurd HPE.out c, hid fun c => absurd rfl c⟩
   · have HPE := hid hpg
     have hpq : (S.pg != (D.np : Int)) = true := by simpa using hpg
     clear hpg
     go_enter Tryz.func16, Tryz.ntmps16
     go_wp2_with (first
       | refine wpList_build_xfile rfl (.tmp 39) (.tmp 40) (.tmp 42) (.tmp 43) rfl p S S.ma (D.epoch + 1) rfl rfl rfl rfl ?_
       | refine wpList_box_xfile rfl (.tmp 44) rfl p S S.ma (D.epoch + 1) rfl ?_
       | (go_at_call 30; refine HPW.out.mono ?_; rintro e w0 ⟨rfl, rfl⟩)
       | (go_at_call 31; refine HSL.out.mono ?_; rintro e w1 ⟨a, b, ca, cb, rfl, hSa, hSb, hD1, hF1⟩; have HSa := hid hSa; have HSb := hid hSb; have HD1 := hid hD1; have HF1 := hid hF1; clear hSa hSb hD1 hF1)
       | (go_at_call 32; refine (HCH.out w1 HF1.out a b ca cb HSa.out HSb.out).mono ?_; rintro e w2 ⟨rfl, hb2⟩; have HD2 := hid (HD1.out.below hb2); have HF2 := hid (HF1.out.tail (F' := F) hb2); clear hb2)
       | (refine wpList_store_row (by rfl) 39 (.tmp 7) (.tmp 26) (by rfl) w2.heap.size (supC S) (by rfl) (by rfl) 39 _ (by exact hnew _ _) (supN S) (supZ S) (supO S) ?_; rw [setRow_alloc]; have R7 := hid (hnew w2 (.cells (supC S) 39)); have k4 := cell_sup4 (hnew w2 (.cells (supC S) 39)); have k2 := cell_sup2 (hnew w2 (.cells (supC S) 39)); have HD3 := hid (HD2.out.below (below_new w2 (.cells (supC S) 39))); have HF3 := hid (HF2.out.tail (F' := F) (below_new w2 (.cells (supC S) 39))); have HGS := hid HF2.out.size; generalize hG7 : w2.heap.size = G7 at *; generalize w2.alloc (.cells (supC S) 39) = w3 at *)
       | (go_at_call 33; refine (HPG.out w3 HD3.out).mono ?_; rintro e w0 ⟨rfl, rfl⟩; rw [show (({ D with reads := D.reads + 2 } : DS).np) = D.np from rfl])
       | (go_at_call 37; refine (HCL.out w3 HD3.out).mono ?_; rintro e w4 ⟨rfl, hD4, hF4⟩; have HD5 := hid hD4; have HF5 := hid (HF3.out.trans hF4 (Gr.refl _ _)); have HF4 := hid (HF3.out.trans hF4 (Gr.refl _ _)); have nG : G7 ∉ F := fun e => by { have := (HLT.out G7 e).2; have := HGS.out; omega }; have R8 := hid (hF4.keep R7.out nG); have k2b := cell_sup2 R8.out; clear hD4 hF4 nG)
       | (refine wpList_load_row_w (by rfl) 39 (.tmp 7) (by rfl) G7 (by rfl) 39 (supC S) (0, 0) _ (by exact R8.out) Tryz.underlying39 rfl (supN S) ?_))
     go_ret2
     exact ⟨hid fun _ c => absurd c HPE.out, hid fun _ _ => ⟨rfl, HD3.out, HF3.out⟩, hid fun c => absurd rfl c⟩
 · have HPE := hid hE
   have hz : (E != 0) = true := by simpa using hE
   clear hE
   go_enter Tryz.func16, Tryz.ntmps16
   go_wp2_with (first
     | refine wpList_build_xfile rfl (.tmp 39) (.tmp 40) (.tmp 42) (.tmp 43) rfl p S S.ma (D.epoch + 1) rfl rfl rfl rfl ?_
     | refine wpList_box_xfile rfl (.tmp 44) rfl p S S.ma (D.epoch + 1) rfl ?_
     | (go_at_call 30; refine HPW.out.mono ?_; rintro e w0 ⟨rfl, rfl⟩)
     | (go_at_call 31; refine HSL.out.mono ?_; rintro e w1 ⟨a, b, ca, cb, rfl, hSa, hSb, hD1, hF1⟩; have HSa := hid hSa; have HSb := hid hSb; have HD1 := hid hD1; have HF1 := hid hF1; clear hSa hSb hD1 hF1)
     | (go_at_call 32; refine (HCH.out w1 HF1.out a b ca cb HSa.out HSb.out).mono ?_; rintro e w2 ⟨rfl, hb2⟩; have HD2 := hid (HD1.out.below hb2); have HF2 := hid (HF1.out.tail (F' := F) hb2); clear hb2)
     | (refine wpList_store_row (by rfl) 39 (.tmp 7) (.tmp 26) (by rfl) w2.heap.size (supC S) (by rfl) (by rfl) 39 _ (by exact hnew _ _) (supN S) (supZ S) (supO S) ?_; rw [setRow_alloc]; have R7 := hid (hnew w2 (.cells (supC S) 39)); have k4 := cell_sup4 (hnew w2 (.cells (supC S) 39)); have k2 := cell_sup2 (hnew w2 (.cells (supC S) 39)); have HD3 := hid (HD2.out.below (below_new w2 (.cells (supC S) 39))); have HF3 := hid (HF2.out.tail (F' := F) (below_new w2 (.cells (supC S) 39))); have HGS := hid HF2.out.size; generalize hG7 : w2.heap.size = G7 at *; generalize w2.alloc (.cells (supC S) 39) = w3 at *)
     | (go_at_call 33; refine (HPG.out w3 HD3.out).mono ?_; rintro e w0 ⟨rfl, rfl⟩; rw [show (({ D with reads := D.reads + 2 } : DS).np) = D.np from rfl])
     | (go_at_call 37; refine (HCL.out w3 HD3.out).mono ?_; rintro e w4 ⟨rfl, hD4, hF4⟩; have HD5 := hid hD4; have HF5 := hid (HF3.out.trans hF4 (Gr.refl _ _)); have HF4 := hid (HF3.out.trans hF4 (Gr.refl _ _)); have nG : G7 ∉ F := fun e => by { have := (HLT.out G7 e).2; have := HGS.out; omega }; have R8 := hid (hF4.keep R7.out nG); have k2b := cell_sup2 R8.out; clear hD4 hF4 nG)
     | (refine wpList_load_row_w (by rfl) 39 (.tmp 7) (by rfl) G7 (by rfl) 39 (supC S) (0, 0) _ (by exact R8.out) Tryz.underlying39 rfl (supN S) ?_))
   go_ret2
   exact ⟨hid fun c => absurd c HPE.out, hid fun c => absurd c HPE.out, hid fun _ => ⟨rfl, HD3.out, HF3.out⟩⟩
theorem xOpen_any (w : World) (hG : Gl w) (base : Nat) (hb0 : 0 < base) (F : List Nat) (p m : Nat) (hm : m + 8 < 400000000000) (hbw : base ≤ w.heap.size) (D : DS) (h : RD w base F p m D) :
   Calls Tryz.prog 16 #[.pointer (some ⟨p, 0, none⟩)] w fun e w' => ((opnF D).2 = 0 → ∃ g, e = .returned (.tuple #[.pointer (some ⟨g, 0, none⟩), .int .i64 0]) ∧ w.heap.size ≤ g ∧ XK w' g p (chooseF (D.readOf 0) (D.readOf 1)).1 (chooseF (D.readOf 0) (D.readOf 1)).1.ma (D.epoch + 1)) ∧ ((opnF D).2 ≠ 0 → e = .returned (.tuple #[.pointer none, .int .i64 (opnF D).2])) ∧ RD w' base F p (m + 3) (opnF D).1 ∧ Fr F w w' := by
 unfold opnF
 by_cases hp0 : D.power = false
 · rw [if_pos hp0]
   refine (xOpen_off w base F p m D h hp0).mono ?_
   rintro e w' ⟨rfl, rfl⟩
   exact ⟨fun c => absurd (show (2 : Int) = 0 from c) (by decide), fun _ => rfl, h.more (by omega), Fr.refl _ _⟩
 · have hpw : D.power = true := by simpa using hp0
   rw [if_neg hp0]
   refine (xOpen_in w hG base hb0 F p m hm hbw D h hpw _ _ rfl).mono ?_
   rintro e w' ⟨h1, h2, h3⟩
   by_cases hc : (chooseF (D.readOf 0) (D.readOf 1)).2 = 0
   · rw [if_neg (fun c => c hc)]
     by_cases hpg : (chooseF (D.readOf 0) (D.readOf 1)).1.pg = (D.np : Int)
     · rw [if_neg (fun c => c hpg)]
       obtain ⟨g, q1, q2, q3, q4, q5⟩ := h1.out hc hpg
       exact ⟨fun _ => ⟨g, q1, q2, q3⟩, fun c => absurd rfl c, q4, q5⟩
     · rw [if_pos hpg]
       obtain ⟨q1, q2, q3⟩ := h2.out hc hpg
       exact ⟨fun c => absurd (show (4 : Int) = 0 from c) (by decide), fun _ => q1, q2.more (by omega), q3⟩
   · rw [if_pos hc]
     obtain ⟨q1, q2, q3⟩ := h3.out hc
     exact ⟨fun c => absurd c hc, fun _ => q1, q2.more (by omega), q3⟩
theorem setCells_other (w : World) (g : Nat) (s2 : Sup) (k : Nat) (h : k ≠ g) : (w.setCells g 1 (supC s2).toList).heap[k]? = w.heap[k]? := by
 have e : ∀ (w : World) (j : Nat) (v : Value), (w.setCell ⟨g, j, none⟩ v).heap[k]? = w.heap[k]? := fun w j v => heap_setCell_other w ⟨g, j, none⟩ k v h
 show (((((w.setCell ⟨g, 1, none⟩ (.int .i64 s2.wd)).setCell ⟨g, 2, none⟩ (.int .i64 s2.ge)).setCell ⟨g, 3, none⟩ (.int .i64 s2.ma)).setCell ⟨g, 4, none⟩ (.int .i64 s2.hd)).setCell ⟨g, 5, none⟩ (.int .i64 s2.pg)).heap[k]? = _
 rw [e, e, e, e, e]
theorem xPublish_no (w : World) (base : Nat) (F : List Nat) (p m : Nat) (D : DS) (h : RD w base F p m D) (g : Nat) (s : Sup) (nx ep : Int) (hf : XK w g p s nx ep) (hd x : Int) (hx : (liveF D ep = x ∧ x ≠ 0) ∨ (liveF D ep = 0 ∧ hd ≠ 0 ∧ ¬ (2 ≤ hd ∧ hd < nx) ∧ x = 41) ∨ (liveF D ep = 0 ∧ (hd = 0 ∨ (2 ≤ hd ∧ hd < nx)) ∧ 1099511627776 ≤ s.ge ∧ x = 5)) :
   Calls Tryz.prog 42 #[.pointer (some ⟨g, 0, none⟩), .int .i64 hd] w fun e w' => e = .returned (.int .i64 x) ∧ w = w' := by
 have HL := hid (xLive_any w base F p m D h g s nx ep hf)
 have c6 := hf.c6
 have c2 : w.cell? ⟨g, 2, none⟩ = some (.int .i64 s.ge) := hf.cell 2
 clear h hf
 rcases hx with ⟨hl, hx⟩ | ⟨hl, h0, hh, rfl⟩ | ⟨hl, hh, hg, rfl⟩
 · rw [hl] at HL
   have hz : (x != 0) = true := by simpa using hx
   clear hx hl
   go_enter Tryz.func42, Tryz.ntmps42
   go_wp2_with (first | (go_at_call 38; refine HL.out.mono ?_; rintro e w1 ⟨rfl, rfl⟩))
   go_ret
   exact ⟨rfl, rfl⟩
 · rw [hl] at HL
   have hz : (hd != 0) = true := by simpa using h0
   clear hl h0
   by_cases c : hd < 2
   · clear hh
     go_enter Tryz.func42, Tryz.ntmps42
     go_wp2_with (first | (go_at_call 38; refine HL.out.mono ?_; rintro e w1 ⟨rfl, rfl⟩))
     go_ret
     exact ⟨rfl, rfl⟩
   · have c2 : nx ≤ hd := by omega
     clear hh
     go_enter Tryz.func42, Tryz.ntmps42
     go_wp2_with (first | (go_at_call 38; refine HL.out.mono ?_; rintro e w1 ⟨rfl, rfl⟩))
     go_ret
     exact ⟨rfl, rfl⟩
 · rw [hl] at HL
   clear hl
   rcases hh with rfl | ⟨h2, h3⟩
   · go_enter Tryz.func42, Tryz.ntmps42
     go_wp2_with (first | (go_at_call 38; refine HL.out.mono ?_; rintro e w1 ⟨rfl, rfl⟩))
     go_ret
     exact ⟨rfl, rfl⟩
   · have hz : (hd != 0) = true := by simp; omega
     go_enter Tryz.func42, Tryz.ntmps42
     go_wp2_with (first | (go_at_call 38; refine HL.out.mono ?_; rintro e w1 ⟨rfl, rfl⟩))
     go_ret
     exact ⟨rfl, rfl⟩
theorem run_pub (D : DS) (s2 : Sup) : runS D [.sync, .lay s2 0 0, .sync] = if (sy D).2 = 0 then (if (sy D).1.actE = 0 then sy ((sy D).1.wr ⟨(s2.ge % 2).toNat, secP s2⟩) else ((sy D).1.wr ⟨(s2.ge % 2).toNat, secP s2⟩, (sy D).1.actE)) else sy D := by
 show (if (sy D).2 = 0 then (if (sy D).1.actE = 0 then (if (sy ((sy D).1.wr ⟨(s2.ge % 2).toNat, secP s2⟩)).2 = 0 then ((sy ((sy D).1.wr ⟨(s2.ge % 2).toNat, secP s2⟩)).1, (0 : Int)) else sy ((sy D).1.wr ⟨(s2.ge % 2).toNat, secP s2⟩)) else ((sy D).1.wr ⟨(s2.ge % 2).toNat, secP s2⟩, (sy D).1.actE)) else sy D) = _
 by_cases c : (sy ((sy D).1.wr ⟨(s2.ge % 2).toNat, secP s2⟩)).2 = 0
 · rw [if_pos c, ← c]
 · rw [if_neg c]
theorem sy_2 (D : DS) (h : (sy D).2 ≠ 0) : (sy D).2 = 2 := by unfold sy at h ⊢; split <;> simp_all
theorem xPublish_in (w : World) (hG : Gl w) (base : Nat) (hb0 : 0 < base) (F : List Nat) (p m : Nat) (hm : m + 8 < 400000000000) (hbw : base ≤ w.heap.size) (D : DS) (h : RD w base F p m D) (g : Nat) (s : Sup) (nx ep : Int) (hf : XK w g p s nx ep) (hlv : liveF D ep = 0) (hd : Int) (hh : hd = 0 ∨ (2 ≤ hd ∧ hd < nx)) (hg : 0 ≤ s.ge ∧ s.ge < 1099511627776) (s2 : Sup) (hs2 : s2 = ⟨s.wd, s.ge + 1, nx, hd, s.pg⟩) (hv : validS s2 = true) :
   Calls Tryz.prog 42 #[.pointer (some ⟨g, 0, none⟩), .int .i64 hd] w fun e w2 => e = .returned (.int .i64 (runS D [.sync, .lay s2 0 0, .sync]).2) ∧ RNF base F p g w (m + 3) (runS D [.sync, .lay s2 0 0, .sync]).1 (if (runS D [.sync, .lay s2 0 0, .sync]).2 = 0 then s2 else s) nx ep w2 := by
 have HL := hid (xLive_any w base F p m D h g s nx ep hf)
 rw [hlv] at HL
 have hpw := (live_0 hlv).2
 have HLT := hid h.lt
 have hgl : g < w.heap.size := hlt_ hf
 have c6' := hf.c6
 have c6 := hid hf.c6
 have c2' : w.cell? ⟨g, 2, none⟩ = some (.int .i64 s.ge) := hf.cell 2
 have c1 := hid (show w.cell? ⟨g, 1, none⟩ = some (.int .i64 s.wd) from hf.cell 1)
 have c2 := hid (show w.cell? ⟨g, 2, none⟩ = some (.int .i64 s.ge) from hf.cell 2)
 have c5 := hid (show w.cell? ⟨g, 5, none⟩ = some (.int .i64 s.pg) from hf.cell 5)
 have HGL := hid (fun (w1 : World) (hf1 : Fr F w w1) => hG.fr hf1 (fun k hk => (h.lt k hk).1) hb0)
 have HQS := hid (fun (w4 : World) (hf4 : Fr F w w4) => qSuper_any w4 (HGL.out w4 hf4) s2 hv)
 have HSL := hid (show (secS s2 ++ List.replicate 192 0).length = 256 from secP_len s2)
 have BS := hid buildS
 have HSC := hid (show (#[.int .i64 s.wd, .int .i64 (s.ge + 1), .int .i64 nx, .int .i64 hd, .int .i64 s.pg] : Array Value) = supC s2 by rw [hs2]; rfl)
 have HSY1 := hid (fun (w1 : World) (hbb : base ≤ w1.heap.size) (hd1 : RD w1 base F p m D) => rSync_any w1 base F p m (by omega) hbb D hd1 hpw)
 obtain ⟨q, hq⟩ : ∃ q : Nat, q = (s2.ge % 2).toNat := ⟨_, rfl⟩
 have hge2 : 0 ≤ s2.ge := by rw [hs2]; show 0 ≤ s.ge + 1; omega
 have HQ2 := hid (show s2.ge.tmod 2 = (q : Int) by rw [hq, Int.tmod_eq_emod_of_nonneg hge2]; omega)
 have hnp := h.ok.np
 have HOK := hid h.ok
 have HWR0 := hid (fun (w1 : World) (F1 : List Nat) (hbb : base ≤ w1.heap.size) (hd1 : RD w1 base F1 p (m + 1) (sy D).1) (hp1 : (sy D).1.power = true) (hn1 : (sy D).1.np = D.np) (su : Option Addr) (cu : Nat) (hSu : Src w1 su cu (secS s2 ++ List.replicate 192 0)) (hn : su = none → cu = 0) => rWrite_any w1 base F1 p (m + 1) (by omega) hbb (sy D).1 hd1 hp1 q (by rw [hn1]; omega) (secS s2 ++ List.replicate 192 0) (secP_len s2) (secP_byts hv) su cu hSu hn)
 have HRP := hid (run_pub D s2)
 rw [← hq, show secP s2 = secS s2 ++ List.replicate 192 0 from rfl] at HRP
 obtain ⟨RR, hRR⟩ : ∃ RR, RR = runS D [.sync, .lay s2 0 0, .sync] := ⟨_, rfl⟩
 rw [← hRR] at HRP ⊢
 obtain ⟨SF, hSF⟩ : ∃ SF, SF = (if RR.2 = 0 then s2 else s) := ⟨_, rfl⟩
 rw [← hSF]
 have HSF := hid hSF
 clear hSF
 have i1 := hg.1
 have i2 := hg.2
 have HF := hid hf
 have HD := hid h
 have HPW := hid hpw
 clear h hf hlv hg hG hnp hs2 hv hq hge2 hRR hpw
 obtain ⟨D1, hD1⟩ : ∃ D1, D1 = (sy D).1 := ⟨_, rfl⟩
 by_cases hA : (sy D).2 = 0
 have HWR1 := hid (fun (w1 : World) (F1 : List Nat) (hbb : base ≤ w1.heap.size) (hd1 : RD w1 base F1 p (m + 1) (sy D).1) => HWR0.out w1 F1 hbb hd1 ((sy_pw hA).trans HPW.out) (sy_np HOK.out))
 have HP1 := hid (show (sy D).1.power = true from (sy_pw hA).trans HPW.out)
 rw [hA] at HSY1
 rw [if_pos hA] at HRP
 rw [← hD1] at HSY1 HRP HWR1 HP1
 clear HWR0 hA hD1
 obtain ⟨Y, hY⟩ : ∃ Y, Y = D1.wr ⟨q, secS s2 ++ List.replicate 192 0⟩ := ⟨_, rfl⟩
 have HYP := hid (show D1.actE = 0 → Y.power = true by intro h0; rw [hY, wr_pw _ h0]; exact HP1.out)
 rw [← hY] at HRP HWR1
 clear hY
 by_cases hB : D1.actE = 0
 rw [if_pos hB] at HRP
 have HSY2 := hid (fun (w1 : World) (F1 : List Nat) (hbb : base ≤ w1.heap.size) (hd1 : RD w1 base F1 p (m + 1 + 1) Y) => rSync_any w1 base F1 p (m + 1 + 1) (by omega) hbb Y hd1 (HYP.out hB))
 have HWR := HWR1
 rw [hB] at HWR
 clear HWR1 hB HYP
 by_cases hC : (sy Y).2 = 0
 rw [hC] at HSY2
 have HRES := hid (show RR = ((sy Y).1, 0) by rw [HRP.out, ← hC])
 clear HRP hC
 generalize (sy Y).1 = Z at *
 rotate_left
 have hC2 := sy_2 Y hC
 rw [hC2] at HSY2
 have HRES := hid (show RR = ((sy Y).1, 2) by rw [HRP.out, ← hC2])
 clear HRP hC hC2
 generalize (sy Y).1 = Z at *
 rotate_left
 have hB2 := actE_not hB
 have HWR := HWR1
 rw [if_neg hB, hB2] at HRP
 rw [hB2] at HWR
 have HRES := HRP
 clear HRP HWR1 hB hB2 HYP
 rotate_left
 have hA2 := sy_2 D hA
 rw [if_neg hA] at HRP
 have HRES := hid (show RR = (D1, 2) by rw [HRP.out, hD1, ← hA2])
 rw [hA2, ← hD1] at HSY1
 clear HRP HWR0 hA hA2 hD1
 all_goals
   have hz : (hd != 0) = false ∨ ((hd != 0) = true ∧ 2 ≤ hd ∧ hd < nx) := by
     rcases hh with rfl | ⟨h2, h3⟩
     · exact Or.inl rfl
     · exact Or.inr ⟨by simp; omega, h2, h3⟩
   clear hh
   rcases hz with hz | ⟨hz, h2, h3⟩
 all_goals
   go_enter Tryz.func42, Tryz.ntmps42
   go_wp2_with (first | (go_at_call 38; refine HL.out.mono ?_; rintro e w1 ⟨rfl, rfl⟩))
   refine rgA (fun w' => Below w.heap.size w w') (Below.refl _ _).drew (fun hq0 => ?_)
   refine tkA 0 (.pointer (some ⟨g, 0, none⟩)) rfl hq0 ?_
   go_frame
   refine tkA 5 (.pointer (some ⟨g, 0, none⟩)) rfl hq0 ?_
   go_frame
   refine tkA 11 (.pointer (some ⟨g, 0, none⟩)) rfl hq0 ?_
   go_frame
   refine tkA 15 (.int .i64 hd) rfl hq0 ?_
   go_frame
   refine tkA 16 (.pointer (some ⟨g, 0, none⟩)) rfl hq0 ?_
   go_frame
   refine tkA 1 (.pointer (some ⟨g, 0, none⟩)) rfl hq0 ?_
   go_frame
   refine tkA 6 (.pointer (some ⟨g, 0, none⟩)) rfl hq0 ?_
   go_frame
   refine tkA 12 (.pointer (some ⟨g, 0, none⟩)) rfl hq0 ?_
   go_frame
   refine tkA 17 (.pointer (some ⟨g, 0, none⟩)) rfl hq0 ?_
   go_frame
   refine tkA 2 (.pointer (some ⟨g, 1, none⟩)) rfl hq0 ?_
   go_frame
   refine tkA 7 (.pointer (some ⟨g, 1, none⟩)) rfl hq0 ?_
   go_frame
   refine tkA 13 (.pointer (some ⟨g, 6, none⟩)) rfl hq0 ?_
   go_frame
   refine tkA 18 (.pointer (some ⟨g, 1, none⟩)) rfl hq0 ?_
   go_frame
   refine tkA 3 (.pointer (some ⟨g, 1, none⟩)) rfl hq0 ?_
   go_frame
   refine tkA 8 (.pointer (some ⟨g, 2, none⟩)) rfl hq0 ?_
   go_frame
   refine tqA 14 (.int .i64 nx) rfl (yA (by intro w hS; have hc := (hS.cell (p := ⟨g, 6, none⟩) hgl).trans c6.out; go_simp)) hq0 ?_
   go_frame
   refine tkA 19 (.pointer (some ⟨g, 5, none⟩)) rfl hq0 ?_
   go_frame
   refine tqA 4 (.int .i64 s.wd) rfl (yA (by intro w hS; have hc := (hS.cell (p := ⟨g, 1, none⟩) hgl).trans c1.out; go_simp)) hq0 ?_
   go_frame
   refine tqA 9 (.int .i64 s.ge) rfl (yA (by intro w hS; have hc := (hS.cell (p := ⟨g, 2, none⟩) hgl).trans c2.out; go_simp)) hq0 ?_
   go_frame
   refine tqA 20 (.int .i64 s.pg) rfl (yA (by intro w hS; have hc := (hS.cell (p := ⟨g, 5, none⟩) hgl).trans c5.out; go_simp)) hq0 ?_
   go_frame
   refine tqA 10 (.int .i64 (s.ge + 1)) rfl (yA (by intro w hS; (go_simp; all_goals exact wrap_i64_id _ (by omega) (by omega)))) hq0 ?_
   go_frame
   refine tqA 21 (.agg (supC s2)) rfl (yA (by intro w hS; (have hb := BS.out; have he := HSC.out; go_simp; all_goals rw [he]))) hq0 ?_
   go_frame
   refine rdA 22 rfl (fun K hK => ?_)
   refine step_allocS (by rfl) (by rfl) ?_
   intro G6 w5 r6 b6 lo6
   have hH2 := hq0.trans (b6.mono hq0.size)
   have LO6 := hid (Nat.le_trans hq0.size lo6)
   clear b6 lo6
   refine hK.out _ _ (hH2) ?_
   clear hK K hq0
   intro hq0
   try go_frame
   refine rdA 23 rfl (fun K hK => ?_)
   refine step_storeRowC rfl 39 (.tmp 6) (.tmp 54) rfl G6 (supC s2) rfl rfl 39 (supC sup0) r6 (supN s2) (supS _ _) (supO s2) ?_
   have R6 := hid (setRow_heap _ G6 _ (supC s2) _ _ r6)
   have hH3 := below_setRow hq0 LO6.out (supC s2)
   refine hK.out _ _ (hH3) ?_
   clear hK K hq0
   intro hq0
   try go_frame
   refine wdA ?_
   have HB8 := hid hq0
   have HX8 := hid (HF.out.below hq0)
   have HD8 := hid (HD.out.below hq0)
   have c08 := HX8.out.c0
   have HNG0 := hid (show G6 ∉ F from fun e => by have := (HLT.out G6 e).2; have := LO6.out; omega)
   clear hq0 r6 hH2 hH3
   go_wp2_with (first
     | (go_at_call 36; refine (HSY1.out _ (Nat.le_trans hbw HB8.out.size) HD8.out).mono ?_; rintro e w9 ⟨rfl, F9, hD9, hF9, hG9⟩; have HX9 := hid (HX8.out.other HD8.out hF9); have R9 := hid (hF9.keep R6.out HNG0.out); have HD9 := hid hD9; have HW9 := hid (And.intro ((Fr.of_below (F := F) HB8.out).trans hF9 (Gr.refl _ _)) (show Gr w F F9 from fun k hk => (hG9 k hk).imp id (fun x => Nat.le_trans HB8.out.size x))); clear hD9 hF9 hG9)
     | (refine wpList_load_row_w (by rfl) 39 (.tmp 6) (by rfl) G6 (by rfl) 39 (supC s2) (0, 0) _ (by exact R9.out) Tryz.underlying39 rfl (supN s2) ?_)
     | (go_at_call 34; refine (HQS.out w9 HW9.out.1).mono ?_; rintro e wA ⟨u, rfl, hOA, hbA⟩; obtain ⟨su, cu, hu, hSu, hnu⟩ := hOA.form; rw [HSL.out] at hu; subst hu; have HSU := hid hSu; have HNU := hid hnu; have HDA := hid (HD9.out.below hbA); have HXA := hid (HX9.out.below hbA); have RA := hid ((hbA.block G6 (hlt_ R9.out)).trans R9.out); have HWA := hid (And.intro (HW9.out.1.tail (F' := F9) hbA) HW9.out.2); have HNG := hid (show G6 ∉ F9 from HD9.out.not_in R9.out (by decide) (by decide) (by decide)); clear hOA hbA hSu hnu))
 iterate 2
   focus
     go_ret
     have hsf : SF = s := by rw [HSF.out, HRES.out]; exact if_neg (show ¬ (2 : Int) = 0 by decide)
     rw [HRES.out, hsf]
     exact ⟨rfl, F9, HD9.out.more (by omega), HX9.out, HW9.out.1.wide g, HW9.out.2⟩
 all_goals
   refine rgA (fun w' => XK w' g p s nx ep ∧ w'.heap[G6]? = some (.cells (supC s2) 39 (0, 0))) ⟨HXA.out.drew, RA.out⟩ (fun hq0 => ?_)
   refine tkA 0 (.pointer (some ⟨g, 0, none⟩)) rfl hq0 ?_
   go_frame
   refine tkA 4 (.pointer (some ⟨G6, 1, none⟩)) rfl hq0 ?_
   go_frame
   refine tkA 7 (.slice su 256 cu) rfl hq0 ?_
   go_frame
   refine tkA 1 (.pointer (some ⟨g, 0, none⟩)) rfl hq0 ?_
   go_frame
   refine tqA 5 (.int .i64 s2.ge) rfl (yA (by intro w hS; have hc := cell_sup1 hS.2; go_simp)) hq0 ?_
   go_frame
   refine tkA 2 (.pointer (some ⟨g, 0, none⟩)) rfl hq0 ?_
   go_frame
   refine tqA 6 (.int .i64 q) rfl (yA (by intro w hS; (have hq2 := HQ2.out; go_simp))) hq0 ?_
   go_frame
   refine tqA 3 (.pointer (some ⟨p, 0, none⟩)) rfl (yA (by intro w hS; have hc := XK.c0 hS.1; go_simp)) hq0 ?_
   go_frame
   refine rdA 8 rfl (fun K hK => ?_)
   go_simp
   go_at_call 35
   refine (HWR.out wA.drew F9 (Nat.le_trans hbw HWA.out.1.size) HDA.out.drew su cu (HSU.out.below (Below.refl _ wA).drew (Nat.le_refl _)) HNU.out).mono ?_
   rintro e w3 ⟨rfl, F3, hD3, hF3, hG3⟩
   go_wp2_with fail
   refine hK.out _ _ (⟨XK.other (show XK wA.drew g p s nx ep from hq0.1) HDA.out.drew hF3, hF3.keep hq0.2 HNG.out⟩) ?_
   clear hK K hq0
   intro hq0
   try go_frame
 rotate_right 2
 iterate 2
   focus
     refine tkA 9 (.int .i64 2) rfl hq0 ?_
     go_frame
     refine wdA ?_
     have HD3 := hid hD3
     have HX3 := hid hq0.1
     have R3 := hid hq0.2
     have HW3 := hid (And.intro (HWA.out.1.drew.trans hF3 HWA.out.2) (HWA.out.2.trans hG3 HWA.out.1.size))
     have c03 := HX3.out.c0
     clear hD3 hF3 hG3 hq0
     go_wp2_with (first
       | (go_at_call 36; refine (HSY2.out w3 F3 (Nat.le_trans hbw HW3.out.1.size) HD3.out).mono ?_; rintro e w5 ⟨rfl, F5, hD5, hF5, hG5⟩; have HX5 := hid (HX3.out.other HD3.out hF5); have R5 := hid (hF5.keep R3.out (HD3.out.not_in R3.out (by decide) (by decide) (by decide))); have HD5 := hid hD5; have HW5 := hid (And.intro (HW3.out.1.trans hF5 HW3.out.2) (HW3.out.2.trans hG5 HW3.out.1.size)); clear hD5 hF5 hG5)
       | (refine wpList_load_row_w (by rfl) 39 (.tmp 6) (by rfl) G6 (by rfl) 39 (supC s2) (0, 0) _ (by exact R5.out) Tryz.underlying39 rfl (supN s2) ?_)
       | (refine wpList_store_mid (by rfl) 39 (.tmp 88) (.tmp 86) (by rfl) g 1 (supC s2) (by rfl) (by rfl) (by exact HX5.out.there) (supN s2) (supO s2) ?_; generalize hw6 : w5.setCells g 1 (supC s2).toList = w6 at *))
     go_ret
     have hsf : SF = s := by rw [HSF.out, HRES.out]; exact if_neg (show ¬ (2 : Int) = 0 by decide)
     rw [HRES.out, hsf]
     exact ⟨rfl, F3, HD3.out.more (by omega), HX3.out, HW3.out.1.wide g, HW3.out.2⟩
 all_goals
   refine tkA 9 (.int .i64 0) rfl hq0 ?_
   go_frame
   refine wdA ?_
   have HD3 := hid hD3
   have HX3 := hid hq0.1
   have R3 := hid hq0.2
   have HW3 := hid (And.intro (HWA.out.1.drew.trans hF3 HWA.out.2) (HWA.out.2.trans hG3 HWA.out.1.size))
   have c03 := HX3.out.c0
   clear hD3 hF3 hG3 hq0
   go_wp2_with (first
     | (go_at_call 36; refine (HSY2.out w3 F3 (Nat.le_trans hbw HW3.out.1.size) HD3.out).mono ?_; rintro e w5 ⟨rfl, F5, hD5, hF5, hG5⟩; have HX5 := hid (HX3.out.other HD3.out hF5); have R5 := hid (hF5.keep R3.out (HD3.out.not_in R3.out (by decide) (by decide) (by decide))); have HD5 := hid hD5; have HW5 := hid (And.intro (HW3.out.1.trans hF5 HW3.out.2) (HW3.out.2.trans hG5 HW3.out.1.size)); clear hD5 hF5 hG5)
     | (refine wpList_load_row_w (by rfl) 39 (.tmp 6) (by rfl) G6 (by rfl) 39 (supC s2) (0, 0) _ (by exact R5.out) Tryz.underlying39 rfl (supN s2) ?_)
     | (refine wpList_store_mid (by rfl) 39 (.tmp 88) (.tmp 86) (by rfl) g 1 (supC s2) (by rfl) (by rfl) (by exact HX5.out.there) (supN s2) (supO s2) ?_; generalize hw6 : w5.setCells g 1 (supC s2).toList = w6 at *))
   go_ret
 iterate 2
   focus
     have hsf : SF = s2 := by rw [HSF.out, HRES.out]; exact if_pos rfl
     rw [HRES.out, hsf]
     refine ⟨rfl, F5, ?_, ?_, ?_, HW5.out.2⟩
     · rw [← hw6]; exact HD5.out.of_heap fun k hk => setCells_other _ _ _ _ (fun e => HX5.out.not HD5.out (e ▸ hk))
     · rw [← hw6]; exact HX5.out.setSup s2
     · rw [← hw6]; exact (HW5.out.1.wide g).setCells List.mem_cons_self s2
 iterate 2
   focus
     have hsf : SF = s := by rw [HSF.out, HRES.out]; exact if_neg (show ¬ (2 : Int) = 0 by decide)
     rw [HRES.out, hsf]
     exact ⟨rfl, F5, HD5.out.more (by omega), HX5.out, HW5.out.1.wide g, HW5.out.2⟩
theorem xPublish_any (w : World) (hG : Gl w) (base : Nat) (hb0 : 0 < base) (F : List Nat) (p m : Nat) (hm : m + 8 < 400000000000) (hbw : base ≤ w.heap.size) (D : DS) (h : RD w base F p m D) (g : Nat) (s : Sup) (nx ep : Int) (hf : XK w g p s nx ep) (hv : validS s = true) (hn : s.ma ≤ nx ∧ nx ≤ s.pg) (hd : Int) :
   Calls Tryz.prog 42 #[.pointer (some ⟨g, 0, none⟩), .int .i64 hd] w fun e w' => e = .returned (.int .i64 (pubF D s nx ep hd).2.2) ∧ RNF base F p g w (m + 3) (pubF D s nx ep hd).1 (pubF D s nx ep hd).2.1 nx ep w' := by
 have stay : ∀ x, Calls Tryz.prog 42 #[.pointer (some ⟨g, 0, none⟩), .int .i64 hd] w (fun e w' => e = .returned (.int .i64 x) ∧ w = w') → Calls Tryz.prog 42 #[.pointer (some ⟨g, 0, none⟩), .int .i64 hd] w fun e w' => e = .returned (.int .i64 x) ∧ RNF base F p g w (m + 3) D s nx ep w' := fun x hc => by
   refine hc.mono ?_
   rintro e w' ⟨rfl, rfl⟩
   exact ⟨rfl, F, h.more (by omega), hf, Fr.refl _ _, Gr.refl _ _⟩
 have hvi := (validS_iff s).1 hv
 unfold pubF
 by_cases hlv : liveF D ep = 0
 · rw [if_neg (fun c => c hlv)]
   by_cases hh : hd ≠ 0 ∧ ¬ (2 ≤ hd ∧ hd < nx)
   · rw [if_pos hh]
     exact stay 41 (xPublish_no w base F p m D h g s nx ep hf hd 41 (Or.inr (Or.inl ⟨hlv, hh.1, hh.2, rfl⟩)))
   · rw [if_neg hh]
     have hh2 : hd = 0 ∨ (2 ≤ hd ∧ hd < nx) := by
       by_cases c : hd = 0
       · exact Or.inl c
       · exact Or.inr (Classical.not_not.1 fun c2 => hh ⟨c, c2⟩)
     by_cases hg : 1099511627776 ≤ s.ge
     · rw [if_pos hg]
       exact stay 5 (xPublish_no w base F p m D h g s nx ep hf hd 5 (Or.inr (Or.inr ⟨hlv, hh2, hg, rfl⟩)))
     · rw [if_neg hg]
       exact xPublish_in w hG base hb0 F p m hm hbw D h g s nx ep hf hlv hd hh2 ⟨by omega, by omega⟩ _ rfl ((validS_iff _).2 (by simp only; omega))
 · rw [if_pos hlv]
   exact stay _ (xPublish_no w base F p m D h g s nx ep hf hd _ (Or.inl ⟨rfl, hlv⟩))
end
end Go.Proofs.YtjhocjjecfdphaaGreatDoor
