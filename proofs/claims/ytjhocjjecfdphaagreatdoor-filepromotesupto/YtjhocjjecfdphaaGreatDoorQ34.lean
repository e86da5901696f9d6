import Derived.Test.YtjhocjjecfdphaaGreatDoorQ33
namespace Go.Proofs.YtjhocjjecfdphaaGreatDoor
set_option linter.unusedVariables false
set_option linter.unusedSimpArgs false
set_option maxRecDepth 100000
set_option maxHeartbeats 4000000
section
open Go.RowKit
attribute [local go_sem ↓] Go.wp_at_zero Go.wp_at_succ
theorem Pro.endD {w w2 w3 : World} {o : OP} {rv : Value} (h : Pro w w2 o rv) {base : Nat} {F : List Nat} {p : Nat} {D : DS} (hF : ∀ k ∈ F, k < w.heap.size) (hx : Nx base F p w2 D w3) (cs : Array Value) : Nx base F p w D (w3.setRow (w.heap.size + 1) cs) := by
 obtain ⟨F', h1, h2, h3⟩ := hx
 have hs := h.sz
 refine ⟨F', h1.of_heap fun k hk => setRow_other _ _ _ _ (fun e => ?_), ⟨h2.os.trans h.bl.os, h2.tape.trans h.bl.tape, h2.output.trans h.bl.output, by rw [setRow_size]; exact Nat.le_trans h.bl.size h2.size, fun k hk hn => ?_⟩, fun k hk => (h3 k hk).imp id (fun q => by omega)⟩
 · rcases h3 k hk with q | q
   · have := hF k q; omega
   · omega
 · rw [setRow_other _ _ _ _ (by omega), h2.block k (by omega) hn, h.bl.block k hk]
structure Rm (D : DS) : Prop where
 ops : D.ops.length < 400000000000
 wr : D.writes < 4000000000000000000
 sy : D.syncs < 4000000000000000000
 rd : D.reads < 3999999999999999999
 ep : D.epoch < 4000000000000000000
theorem lyes_any (w : World) (b : Bool) : Calls Tryz.prog 70 #[.bool b] w fun e w' => e = .returned (.int .i64 (if b = true then 1 else 0)) ∧ w = w' := by
 cases b with
 | true =>
   go_enter Tryz.func70, Tryz.ntmps70
   go_wp2
   go_ret
   exact ⟨rfl, rfl⟩
 | false =>
   go_enter Tryz.func70, Tryz.ntmps70
   go_wp2
   go_ret
   exact ⟨rfl, rfl⟩
theorem Claim_any' (w : World) (base : Nat) (F : List Nat) (p : Nat) (D : DS) (h : DA w base F p D) (hep : D.epoch < 4000000000000000000) :
   Calls Tryz.prog 57 #[.pointer (some ⟨p, 0, none⟩)] w fun e w' => e = .returned (.int .i64 (D.epoch + 1)) ∧ Nx base F p w { D with epoch := D.epoch + 1 } w' := by
 refine (Claim_same w base F p D h hep).mono ?_
 rintro e w' ⟨rfl, h1, h2⟩
 exact ⟨rfl, F, h1, h2, Gr.refl _ _⟩
theorem crash_copied (w : World) (base : Nat) (F : List Nat) (p : Nat) (D : DS) (h : DA w base F p D) (hep : D.epoch < 4000000000000000000) (fs : List Int) (hfb : Bts fs) (B : Nat) (hB : ∀ k ∈ F, k < B) (v : Value) (hO : Own w B v fs) :
   Calls Tryz.prog 73 #[.pointer (some ⟨p, 0, none⟩), v] w fun e w' => e = .returned (.int .i64 D.ops.length) ∧ Nx base F p w (D.crashed fs) w' := by
 obtain ⟨sp, cap, rfl, hS, _⟩ := hO.form
 refine Crash_any w base F p D h hep fs hfb sp cap hS (fun a hl e hin => ?_)
 subst e
 have hbl := hO.block a.block (by rfl)
 have := hB _ hin
 omega
theorem byDisk_14 (w : World) (base : Nat) (F : List Nat) (p : Nat) (hbw : base ≤ w.heap.size) (D : DS) (hr : Rm D) (h : DA w base F p D) (o : OP) (hk : o.kd = 14) (sp : Option Addr) (cap : Nat) (ho : OpOk w o sp cap) :
   Calls Tryz.prog 23 #[.pointer (some ⟨p, 0, none⟩), .agg (o.C (.slice sp o.raw.length cap))] w fun e w' => Told w.heap.size w' (dskF D o).2 e ∧ Nx base F p w (dskF D o).1 w' := by
 have hE : dskF D o = (D, { an0 with n := if D.power = true then 1 else 0 }) := by unfold dskF; rw [if_neg (by rw [hk]; decide), if_neg (by rw [hk]; decide), if_neg (by rw [hk]; decide), if_neg (by rw [hk]; decide), if_pos hk]
 rw [hE]
 have hP := Pro.mk' w o (.slice sp o.raw.length cap)
 have hLT : ∀ k ∈ F, k < w.heap.size := fun k hk => (h.lt k hk).2
 have k0 := hP.cell 0
 obtain ⟨w2, hw2⟩ : ∃ w2, w2 = (w.alloc (.cells (o.C (.slice sp o.raw.length cap)) 37)).alloc (.cells zzA 43) := ⟨_, rfl⟩
 have hW2 := hid hw2
 rw [← hw2] at hP
 have h2 := h.below hP.bl
 have o2 := ho.below hP.bl
 have hb2 : base ≤ w2.heap.size := Nat.le_trans hbw hP.bl.size
 have HC := hid (Power_any w2 base F p D h2)
 have HY := hid (lyes_any w2 D.power)
 obtain ⟨yn, hyn⟩ : ∃ yn : Int, yn = (if D.power = true then 1 else 0) := ⟨_, rfl⟩
 rw [← hyn] at HY ⊢
 clear hyn
 have HP := hid hP
 have HLT := hid hLT
 have H2 := hid h2
 clear h ho h2 o2 hP hLT hE hw2
 replace k0 : ((w.alloc (.cells (o.C (.slice sp o.raw.length cap)) 37)).alloc (.cells zzA 43)).cell? ⟨w.heap.size, 0, none⟩ = some (.int .i64 14) := by rw [← hk]; exact k0
 clear hk hr
 go_enter Tryz.func23, Tryz.ntmps23
 go_wp2_with (first
   | refine wpList_box_op rfl (.tmp 1) rfl o sp o.raw.length cap rfl ?_
   | (go_at_call 51; rw [← hW2.out]; refine HC.out.mono ?_; rintro e w3 ⟨rfl, rfl⟩)
   | (go_at_call 70; refine HY.out.mono ?_; rintro e w4 ⟨rfl, rfl⟩)
   | refine wpA_1 rfl (.tmp 35) rfl yn rfl ?_
   | (refine wpList_store_row rfl 43 (.tmp 4) _ rfl (w.heap.size + 1) (ansC 0 yn (.slice none 0 0) sup0 0 0 0 0) (by first | rfl | simp [Act.eval]) rfl 43 zzA (HP.out.an) (ansN _ _ _ _ _ _ _ _) rfl (ansO _ _ _ _ _ _ _ _ _ _) ?_))
 refine bodyPost_ret (results_c1 Tryz.results23 _ _ (w.heap.size + 1) 43 _ _ _ (by first | rfl | simp) (setRow_heap _ _ _ _ _ _ (HP.out.an)) Tryz.underlying43 rfl (ansN _ _ _ _ _ _ _ _)) rfl ?_
 exact ⟨⟨.slice none 0 0, rfl, HP.out.own ((Own.nil _ _)) _⟩, HP.out.endD HLT.out (Nx.refl H2.out) _⟩
theorem byDisk_18 (w : World) (base : Nat) (F : List Nat) (p : Nat) (hbw : base ≤ w.heap.size) (D : DS) (hr : Rm D) (h : DA w base F p D) (o : OP) (hk : o.kd = 18) (sp : Option Addr) (cap : Nat) (ho : OpOk w o sp cap) :
   Calls Tryz.prog 23 #[.pointer (some ⟨p, 0, none⟩), .agg (o.C (.slice sp o.raw.length cap))] w fun e w' => Told w.heap.size w' (dskF D o).2 e ∧ Nx base F p w (dskF D o).1 w' := by
 have hE : dskF D o = (D.crashed o.raw, { an0 with n := D.ops.length }) := by unfold dskF; rw [if_neg (by rw [hk]; decide), if_neg (by rw [hk]; decide), if_neg (by rw [hk]; decide), if_neg (by rw [hk]; decide), if_neg (by rw [hk]; decide), if_neg (by rw [hk]; decide), if_neg (by rw [hk]; decide), if_neg (by rw [hk]; decide), if_pos hk]
 rw [hE]
 have hP := Pro.mk' w o (.slice sp o.raw.length cap)
 have hLT : ∀ k ∈ F, k < w.heap.size := fun k hk => (h.lt k hk).2
 have k0 := hP.cell 0
 have k6 := hP.cell 6
 obtain ⟨w2, hw2⟩ : ∃ w2, w2 = (w.alloc (.cells (o.C (.slice sp o.raw.length cap)) 37)).alloc (.cells zzA 43) := ⟨_, rfl⟩
 have hW2 := hid hw2
 rw [← hw2] at hP
 have h2 := h.below hP.bl
 have o2 := ho.below hP.bl
 have hb2 : base ≤ w2.heap.size := Nat.le_trans hbw hP.bl.size
 have HC := hid (copied_any w2 o.raw sp cap o2.src (by have := o2.len; omega))
 have HCR := hid (fun (w3 : World) (hB : Below w2.heap.size w2 w3) (v : Value) (hO : Own w3 w2.heap.size v o.raw) => crash_copied w3 base F p D (h2.below hB) hr.ep o.raw o2.bts w2.heap.size (fun k hk => (h2.lt k hk).2) v hO)
 have HP := hid hP
 have HLT := hid hLT
 have H2 := hid h2
 clear h ho h2 o2 hP hLT hE hw2
 replace k0 : ((w.alloc (.cells (o.C (.slice sp o.raw.length cap)) 37)).alloc (.cells zzA 43)).cell? ⟨w.heap.size, 0, none⟩ = some (.int .i64 18) := by rw [← hk]; exact k0
 replace k6 : ((w.alloc (.cells (o.C (.slice sp o.raw.length cap)) 37)).alloc (.cells zzA 43)).cell? ⟨w.heap.size, 6, none⟩ = some (.slice sp o.raw.length cap) := k6
 clear hk hr
 go_enter Tryz.func23, Tryz.ntmps23
 go_wp2_with (first
   | refine wpList_box_op rfl (.tmp 1) rfl o sp o.raw.length cap rfl ?_
   | (go_at_call 28; rw [← hW2.out]; refine HC.out.mono ?_; rintro e w3 ⟨v, rfl, hO, hB⟩; have HO := hid hO; have HB := hid hB; obtain ⟨sv, cv, hv, _, _⟩ := hO.form; subst hv; clear hO hB)
   | (go_at_call 73; refine (HCR.out w3 HB.out _ HO.out).mono ?_; rintro e w4 ⟨rfl, hX⟩; have HX := hid (show Nx base F p w2 (D.crashed o.raw) w4 by (obtain ⟨F1, x1, x2, x3⟩ := hX; exact ⟨F1, x1, (Fr.of_below HB.out).trans x2 (Gr.refl _ _), fun k hk => (x3 k hk).imp id (fun q => Nat.le_trans HB.out.size q)⟩)); have HAN := hid (HP.out.keep HLT.out HX.out.choose_spec.2.1); clear hX)
   | refine wpA_1 rfl (.tmp 64) rfl D.ops.length rfl ?_
   | (refine wpList_store_row rfl 43 (.tmp 4) _ rfl (w.heap.size + 1) (ansC 0 D.ops.length (.slice none 0 0) sup0 0 0 0 0) (by first | rfl | simp [Act.eval]) rfl 43 zzA (HAN.out) (ansN _ _ _ _ _ _ _ _) rfl (ansO _ _ _ _ _ _ _ _ _ _) ?_))
 refine bodyPost_ret (results_c1 Tryz.results23 _ _ (w.heap.size + 1) 43 _ _ _ (by first | rfl | simp) (setRow_heap _ _ _ _ _ _ (HAN.out)) Tryz.underlying43 rfl (ansN _ _ _ _ _ _ _ _)) rfl ?_
 exact ⟨⟨.slice none 0 0, rfl, HP.out.own ((Own.nil _ _)) _⟩, HP.out.endD HLT.out HX.out _⟩
theorem byDisk_19 (w : World) (base : Nat) (F : List Nat) (p : Nat) (hbw : base ≤ w.heap.size) (D : DS) (hr : Rm D) (h : DA w base F p D) (o : OP) (hk : o.kd = 19) (sp : Option Addr) (cap : Nat) (ho : OpOk w o sp cap) :
   Calls Tryz.prog 23 #[.pointer (some ⟨p, 0, none⟩), .agg (o.C (.slice sp o.raw.length cap))] w fun e w' => Told w.heap.size w' (dskF D o).2 e ∧ Nx base F p w (dskF D o).1 w' := by
 have hE : dskF D o = ((flpF D o.n o.m o.bt).1, { an0 with e := (flpF D o.n o.m o.bt).2 }) := by unfold dskF; rw [if_neg (by rw [hk]; decide), if_neg (by rw [hk]; decide), if_neg (by rw [hk]; decide), if_neg (by rw [hk]; decide), if_neg (by rw [hk]; decide), if_neg (by rw [hk]; decide), if_neg (by rw [hk]; decide), if_neg (by rw [hk]; decide), if_neg (by rw [hk]; decide), if_pos hk]
 rw [hE]
 have hP := Pro.mk' w o (.slice sp o.raw.length cap)
 have hLT : ∀ k ∈ F, k < w.heap.size := fun k hk => (h.lt k hk).2
 have k0 := hP.cell 0
 have k4 := hP.cell 4
 have k5 := hP.cell 5
 have k7 := hP.cell 7
 obtain ⟨w2, hw2⟩ : ∃ w2, w2 = (w.alloc (.cells (o.C (.slice sp o.raw.length cap)) 37)).alloc (.cells zzA 43) := ⟨_, rfl⟩
 have hW2 := hid hw2
 rw [← hw2] at hP
 have h2 := h.below hP.bl
 have o2 := ho.below hP.bl
 have hb2 : base ≤ w2.heap.size := Nat.le_trans hbw hP.bl.size
 have HC := hid (Flip_all w2 base F p D h2 o.n o.m o.bt o2.bt)
 generalize flpF D o.n o.m o.bt = Y at *
 have HP := hid hP
 have HLT := hid hLT
 have H2 := hid h2
 clear h ho h2 o2 hP hLT hE hw2
 replace k0 : ((w.alloc (.cells (o.C (.slice sp o.raw.length cap)) 37)).alloc (.cells zzA 43)).cell? ⟨w.heap.size, 0, none⟩ = some (.int .i64 19) := by rw [← hk]; exact k0
 replace k4 : ((w.alloc (.cells (o.C (.slice sp o.raw.length cap)) 37)).alloc (.cells zzA 43)).cell? ⟨w.heap.size, 4, none⟩ = some (.int .i64 o.n) := k4
 replace k5 : ((w.alloc (.cells (o.C (.slice sp o.raw.length cap)) 37)).alloc (.cells zzA 43)).cell? ⟨w.heap.size, 5, none⟩ = some (.int .i64 o.m) := k5
 replace k7 : ((w.alloc (.cells (o.C (.slice sp o.raw.length cap)) 37)).alloc (.cells zzA 43)).cell? ⟨w.heap.size, 7, none⟩ = some (.int .u32 o.bt) := k7
 clear hk hr
 go_enter Tryz.func23, Tryz.ntmps23
 go_wp2_with (first
   | refine wpList_box_op rfl (.tmp 1) rfl o sp o.raw.length cap rfl ?_
   | (go_at_call 74; rw [← hW2.out]; refine HC.out.mono ?_; rintro e w3 ⟨rfl, hX⟩; have HX := hid hX; have HAN := hid (HP.out.keep HLT.out hX.choose_spec.2.1); clear hX)
   | refine wpA_0 rfl (.tmp 75) rfl Y.2 rfl ?_
   | (refine wpList_store_row rfl 43 (.tmp 4) _ rfl (w.heap.size + 1) (ansC Y.2 0 (.slice none 0 0) sup0 0 0 0 0) (by first | rfl | simp [Act.eval]) rfl 43 zzA (HAN.out) (ansN _ _ _ _ _ _ _ _) rfl (ansO _ _ _ _ _ _ _ _ _ _) ?_))
 refine bodyPost_ret (results_c1 Tryz.results23 _ _ (w.heap.size + 1) 43 _ _ _ (by first | rfl | simp) (setRow_heap _ _ _ _ _ _ (HAN.out)) Tryz.underlying43 rfl (ansN _ _ _ _ _ _ _ _)) rfl ?_
 exact ⟨⟨.slice none 0 0, rfl, HP.out.own ((Own.nil _ _)) _⟩, HP.out.endD HLT.out HX.out _⟩
theorem byD0 : (∀ (w : World) (base : Nat) (F : List Nat) (p : Nat) (hbw : base ≤ w.heap.size) (D : DS) (hr : Rm D) (h : DA w base F p D) (o : OP) (hk : o.kd = 10) (sp : Option Addr) (cap : Nat) (ho : OpOk w o sp cap), Calls Tryz.prog 23 #[.pointer (some ⟨p, 0, none⟩), .agg (o.C (.slice sp o.raw.length cap))] w fun e w' => Told w.heap.size w' (dskF D o).2 e ∧ Nx base F p w (dskF D o).1 w') ∧ (∀ (w : World) (base : Nat) (F : List Nat) (p : Nat) (hbw : base ≤ w.heap.size) (D : DS) (hr : Rm D) (h : DA w base F p D) (o : OP) (hk : o.kd = 11) (sp : Option Addr) (cap : Nat) (ho : OpOk w o sp cap), Calls Tryz.prog 23 #[.pointer (some ⟨p, 0, none⟩), .agg (o.C (.slice sp o.raw.length cap))] w fun e w' => Told w.heap.size w' (dskF D o).2 e ∧ Nx base F p w (dskF D o).1 w') ∧ (∀ (w : World) (base : Nat) (F : List Nat) (p : Nat) (hbw : base ≤ w.heap.size) (D : DS) (hr : Rm D) (h : DA w base F p D) (o : OP) (hk : o.kd = 12) (sp : Option Addr) (cap : Nat) (ho : OpOk w o sp cap), Calls Tryz.prog 23 #[.pointer (some ⟨p, 0, none⟩), .agg (o.C (.slice sp o.raw.length cap))] w fun e w' => Told w.heap.size w' (dskF D o).2 e ∧ Nx base F p w (dskF D o).1 w') ∧ (∀ (w : World) (base : Nat) (F : List Nat) (p : Nat) (hbw : base ≤ w.heap.size) (D : DS) (hr : Rm D) (h : DA w base F p D) (o : OP) (hk : o.kd = 13) (sp : Option Addr) (cap : Nat) (ho : OpOk w o sp cap), Calls Tryz.prog 23 #[.pointer (some ⟨p, 0, none⟩), .agg (o.C (.slice sp o.raw.length cap))] w fun e w' => Told w.heap.size w' (dskF D o).2 e ∧ Nx base F p w (dskF D o).1 w') ∧ (∀ (w : World) (base : Nat) (F : List Nat) (p : Nat) (hbw : base ≤ w.heap.size) (D : DS) (hr : Rm D) (h : DA w base F p D) (o : OP) (hk : o.kd = 15) (sp : Option Addr) (cap : Nat) (ho : OpOk w o sp cap), Calls Tryz.prog 23 #[.pointer (some ⟨p, 0, none⟩), .agg (o.C (.slice sp o.raw.length cap))] w fun e w' => Told w.heap.size w' (dskF D o).2 e ∧ Nx base F p w (dskF D o).1 w') ∧ (∀ (w : World) (base : Nat) (F : List Nat) (p : Nat) (hbw : base ≤ w.heap.size) (D : DS) (hr : Rm D) (h : DA w base F p D) (o : OP) (hk : o.kd = 17) (sp : Option Addr) (cap : Nat) (ho : OpOk w o sp cap), Calls Tryz.prog 23 #[.pointer (some ⟨p, 0, none⟩), .agg (o.C (.slice sp o.raw.length cap))] w fun e w' => Told w.heap.size w' (dskF D o).2 e ∧ Nx base F p w (dskF D o).1 w') ∧ (∀ (w : World) (base : Nat) (F : List Nat) (p : Nat) (hbw : base ≤ w.heap.size) (D : DS) (hr : Rm D) (h : DA w base F p D) (o : OP) (hk : o.kd = 20) (sp : Option Addr) (cap : Nat) (ho : OpOk w o sp cap), Calls Tryz.prog 23 #[.pointer (some ⟨p, 0, none⟩), .agg (o.C (.slice sp o.raw.length cap))] w fun e w' => Told w.heap.size w' (dskF D o).2 e ∧ Nx base F p w (dskF D o).1 w') ∧ (∀ (w : World) (base : Nat) (F : List Nat) (p : Nat) (hbw : base ≤ w.heap.size) (D : DS) (hr : Rm D) (h : DA w base F p D) (o : OP) (hk : o.kd = 21) (sp : Option Addr) (cap : Nat) (ho : OpOk w o sp cap), Calls Tryz.prog 23 #[.pointer (some ⟨p, 0, none⟩), .agg (o.C (.slice sp o.raw.length cap))] w fun e w' => Told w.heap.size w' (dskF D o).2 e ∧ Nx base F p w (dskF D o).1 w') := by
 refine ⟨?_, ?_, ?_, ?_, ?_, ?_, ?_, ?_⟩
 intro w base F p hbw D hr h o hk sp cap ho
 have hE : dskF D o = (D, { an0 with n := D.np }) := by unfold dskF; rw [if_pos hk]
 rotate_left
 intro w base F p hbw D hr h o hk sp cap ho
 have hE : dskF D o = (D, { an0 with raw := D.img }) := by unfold dskF; rw [if_neg (by rw [hk]; decide), if_pos hk]
 rotate_left
 intro w base F p hbw D hr h o hk sp cap ho
 have hE : dskF D o = (D, { an0 with n := D.epoch }) := by unfold dskF; rw [if_neg (by rw [hk]; decide), if_neg (by rw [hk]; decide), if_pos hk]
 rotate_left
 intro w base F p hbw D hr h o hk sp cap ho
 have hE : dskF D o = (D, { an0 with c1 := D.reads, c2 := D.writes, c3 := D.syncs, c4 := D.ops.length }) := by unfold dskF; rw [if_neg (by rw [hk]; decide), if_neg (by rw [hk]; decide), if_neg (by rw [hk]; decide), if_pos hk]
 rotate_left
 intro w base F p hbw D hr h o hk sp cap ho
 have hE : dskF D o = ((synF D).1, { an0 with e := (synF D).2 }) := by unfold dskF; rw [if_neg (by rw [hk]; decide), if_neg (by rw [hk]; decide), if_neg (by rw [hk]; decide), if_neg (by rw [hk]; decide), if_neg (by rw [hk]; decide), if_pos hk]
 rotate_left
 intro w base F p hbw D hr h o hk sp cap ho
 have hE : dskF D o = (D.arm o.n, an0) := by unfold dskF; rw [if_neg (by rw [hk]; decide), if_neg (by rw [hk]; decide), if_neg (by rw [hk]; decide), if_neg (by rw [hk]; decide), if_neg (by rw [hk]; decide), if_neg (by rw [hk]; decide), if_neg (by rw [hk]; decide), if_pos hk]
 rotate_left
 intro w base F p hbw D hr h o hk sp cap ho
 have hE : dskF D o = ({ D with epoch := D.epoch + 1 }, { an0 with n := D.epoch + 1 }) := by unfold dskF; rw [if_neg (by rw [hk]; decide), if_neg (by rw [hk]; decide), if_neg (by rw [hk]; decide), if_neg (by rw [hk]; decide), if_neg (by rw [hk]; decide), if_neg (by rw [hk]; decide), if_neg (by rw [hk]; decide), if_neg (by rw [hk]; decide), if_neg (by rw [hk]; decide), if_neg (by rw [hk]; decide), if_pos hk]
 rotate_left
 intro w base F p hbw D hr h o hk sp cap ho
 have hE : dskF D o = ((rdaF D o.n).1, { an0 with raw := (rdaF D o.n).2.1, e := (rdaF D o.n).2.2 }) := by unfold dskF; rw [if_neg (by rw [hk]; decide), if_neg (by rw [hk]; decide), if_neg (by rw [hk]; decide), if_neg (by rw [hk]; decide), if_neg (by rw [hk]; decide), if_neg (by rw [hk]; decide), if_neg (by rw [hk]; decide), if_neg (by rw [hk]; decide), if_neg (by rw [hk]; decide), if_neg (by rw [hk]; decide), if_neg (by rw [hk]; decide), if_pos hk]
 rotate_left
 all_goals
  rw [hE]
  have hP := Pro.mk' w o (.slice sp o.raw.length cap)
  have hLT : ∀ k ∈ F, k < w.heap.size := fun k hk => (h.lt k hk).2
  have k0 := hP.cell 0
 rotate_left
 rotate_left
 rotate_left
 rotate_left
 rotate_left
 have k4 := hP.cell 4
 rotate_left
 rotate_left
 have k4 := hP.cell 4
 rotate_left
 all_goals
  obtain ⟨w2, hw2⟩ : ∃ w2, w2 = (w.alloc (.cells (o.C (.slice sp o.raw.length cap)) 37)).alloc (.cells zzA 43) := ⟨_, rfl⟩
  have hW2 := hid hw2
  rw [← hw2] at hP
  have h2 := h.below hP.bl
  have o2 := ho.below hP.bl
  have hb2 : base ≤ w2.heap.size := Nat.le_trans hbw hP.bl.size
 have HC := hid (Pages_any w2 base F p D h2)
 rotate_left
 have HC := hid (Image_any w2 base F p D h2)
 rotate_left
 have HC := hid (Epoch_any w2 base F p D h2)
 rotate_left
 have HC := hid (Counts_any w2 base F p D h2)
 rotate_left
 have HC := hid (Sync_all w2 base F p D h2 hr.sy)
 generalize synF D = Y at *
 rotate_left
 have HC := hid (Arm_any w2 base F p D h2 o.n o2.n)
 rotate_left
 have HC := hid (Claim_any' w2 base F p D h2 hr.ep)
 rotate_left
 have HC := hid (Read_all w2 base F p D h2 (by have := hr.rd; omega) o.n)
 generalize rdaF D o.n = Y at *
 rotate_left
 all_goals
  have HP := hid hP
  have HLT := hid hLT
  have H2 := hid h2
  clear h ho h2 o2 hP hLT hE hw2
 replace k0 : ((w.alloc (.cells (o.C (.slice sp o.raw.length cap)) 37)).alloc (.cells zzA 43)).cell? ⟨w.heap.size, 0, none⟩ = some (.int .i64 10) := by rw [← hk]; exact k0
 rotate_left
 replace k0 : ((w.alloc (.cells (o.C (.slice sp o.raw.length cap)) 37)).alloc (.cells zzA 43)).cell? ⟨w.heap.size, 0, none⟩ = some (.int .i64 11) := by rw [← hk]; exact k0
 rotate_left
 replace k0 : ((w.alloc (.cells (o.C (.slice sp o.raw.length cap)) 37)).alloc (.cells zzA 43)).cell? ⟨w.heap.size, 0, none⟩ = some (.int .i64 12) := by rw [← hk]; exact k0
 rotate_left
 replace k0 : ((w.alloc (.cells (o.C (.slice sp o.raw.length cap)) 37)).alloc (.cells zzA 43)).cell? ⟨w.heap.size, 0, none⟩ = some (.int .i64 13) := by rw [← hk]; exact k0
 rotate_left
 replace k0 : ((w.alloc (.cells (o.C (.slice sp o.raw.length cap)) 37)).alloc (.cells zzA 43)).cell? ⟨w.heap.size, 0, none⟩ = some (.int .i64 15) := by rw [← hk]; exact k0
 rotate_left
 replace k0 : ((w.alloc (.cells (o.C (.slice sp o.raw.length cap)) 37)).alloc (.cells zzA 43)).cell? ⟨w.heap.size, 0, none⟩ = some (.int .i64 17) := by rw [← hk]; exact k0
 replace k4 : ((w.alloc (.cells (o.C (.slice sp o.raw.length cap)) 37)).alloc (.cells zzA 43)).cell? ⟨w.heap.size, 4, none⟩ = some (.int .i64 o.n) := k4
 rotate_left
 replace k0 : ((w.alloc (.cells (o.C (.slice sp o.raw.length cap)) 37)).alloc (.cells zzA 43)).cell? ⟨w.heap.size, 0, none⟩ = some (.int .i64 20) := by rw [← hk]; exact k0
 rotate_left
 replace k0 : ((w.alloc (.cells (o.C (.slice sp o.raw.length cap)) 37)).alloc (.cells zzA 43)).cell? ⟨w.heap.size, 0, none⟩ = some (.int .i64 21) := by rw [← hk]; exact k0
 replace k4 : ((w.alloc (.cells (o.C (.slice sp o.raw.length cap)) 37)).alloc (.cells zzA 43)).cell? ⟨w.heap.size, 4, none⟩ = some (.int .i64 o.n) := k4
 rotate_left
 all_goals
  clear hk hr
  go_enter Tryz.func23, Tryz.ntmps23
 · go_wp2_with (first
     | refine wpList_box_op rfl (.tmp 1) rfl o sp o.raw.length cap rfl ?_
     | (go_at_call 53; rw [← hW2.out]; refine HC.out.mono ?_; rintro e w3 ⟨rfl, rfl⟩)
     | refine wpA_1 rfl (.tmp 12) rfl (D.np : Nat) rfl ?_
     | (refine wpList_store_row rfl 43 (.tmp 4) _ rfl (w.heap.size + 1) (ansC 0 (D.np : Nat) (.slice none 0 0) sup0 0 0 0 0) (by first | rfl | simp [Act.eval]) rfl 43 zzA (HP.out.an) (ansN _ _ _ _ _ _ _ _) rfl (ansO _ _ _ _ _ _ _ _ _ _) ?_))
   refine bodyPost_ret (results_c1 Tryz.results23 _ _ (w.heap.size + 1) 43 _ _ _ (by first | rfl | simp) (setRow_heap _ _ _ _ _ _ (HP.out.an)) Tryz.underlying43 rfl (ansN _ _ _ _ _ _ _ _)) rfl ?_
   exact ⟨⟨.slice none 0 0, rfl, HP.out.own ((Own.nil _ _)) _⟩, HP.out.endD HLT.out (Nx.refl H2.out) _⟩
 · go_wp2_with (first
     | refine wpList_box_op rfl (.tmp 1) rfl o sp o.raw.length cap rfl ?_
     | (go_at_call 67; rw [← hW2.out]; refine HC.out.mono ?_; rintro e w3 ⟨v, rfl, hO, hB⟩; have HO := hid hO; have HB := hid hB; obtain ⟨sv, cv, hv, _, _⟩ := hO.form; subst hv; have HAN := hid ((hB.block _ (by have := HP.out.sz; omega)).trans HP.out.an); clear hO hB)
     | refine wpA_2 rfl (.tmp 17) rfl sv D.img.length cv rfl ?_
     | (refine wpList_store_row rfl 43 (.tmp 4) _ rfl (w.heap.size + 1) (ansC 0 0 (.slice sv D.img.length cv) sup0 0 0 0 0) (by first | rfl | simp [Act.eval]) rfl 43 zzA (HAN.out) (ansN _ _ _ _ _ _ _ _) rfl (ansO _ _ _ _ _ _ _ _ _ _) ?_))
   refine bodyPost_ret (results_c1 Tryz.results23 _ _ (w.heap.size + 1) 43 _ _ _ (by first | rfl | simp) (setRow_heap _ _ _ _ _ _ (HAN.out)) Tryz.underlying43 rfl (ansN _ _ _ _ _ _ _ _)) rfl ?_
   exact ⟨⟨_, rfl, HP.out.own (HO.out) _⟩, HP.out.endD HLT.out ⟨F, H2.out.below HB.out, Fr.of_below HB.out, Gr.refl _ _⟩ _⟩
 · go_wp2_with (first
     | refine wpList_box_op rfl (.tmp 1) rfl o sp o.raw.length cap rfl ?_
     | (go_at_call 68; rw [← hW2.out]; refine HC.out.mono ?_; rintro e w3 ⟨rfl, rfl⟩)
     | refine wpA_1 rfl (.tmp 22) rfl D.epoch rfl ?_
     | (refine wpList_store_row rfl 43 (.tmp 4) _ rfl (w.heap.size + 1) (ansC 0 D.epoch (.slice none 0 0) sup0 0 0 0 0) (by first | rfl | simp [Act.eval]) rfl 43 zzA (HP.out.an) (ansN _ _ _ _ _ _ _ _) rfl (ansO _ _ _ _ _ _ _ _ _ _) ?_))
   refine bodyPost_ret (results_c1 Tryz.results23 _ _ (w.heap.size + 1) 43 _ _ _ (by first | rfl | simp) (setRow_heap _ _ _ _ _ _ (HP.out.an)) Tryz.underlying43 rfl (ansN _ _ _ _ _ _ _ _)) rfl ?_
   exact ⟨⟨.slice none 0 0, rfl, HP.out.own ((Own.nil _ _)) _⟩, HP.out.endD HLT.out (Nx.refl H2.out) _⟩
 · go_wp2_with (first
     | refine wpList_box_op rfl (.tmp 1) rfl o sp o.raw.length cap rfl ?_
     | (go_at_call 69; rw [← hW2.out]; refine HC.out.mono ?_; rintro e w3 ⟨rfl, hB⟩; have HB := hid hB; have HAN := hid ((hB.block _ (by have := HP.out.sz; omega)).trans HP.out.an); clear hB)
     | refine wpA_4 rfl (.tmp 29) rfl D.reads D.writes D.syncs D.ops.length rfl ?_
     | (refine wpList_store_row rfl 43 (.tmp 4) _ rfl (w.heap.size + 1) (ansC 0 0 (.slice none 0 0) sup0 D.reads D.writes D.syncs D.ops.length) (by first | rfl | simp [Act.eval]) rfl 43 zzA (HAN.out) (ansN _ _ _ _ _ _ _ _) rfl (ansO _ _ _ _ _ _ _ _ _ _) ?_))
   refine bodyPost_ret (results_c1 Tryz.results23 _ _ (w.heap.size + 1) 43 _ _ _ (by first | rfl | simp) (setRow_heap _ _ _ _ _ _ (HAN.out)) Tryz.underlying43 rfl (ansN _ _ _ _ _ _ _ _)) rfl ?_
   exact ⟨⟨.slice none 0 0, rfl, HP.out.own ((Own.nil _ _)) _⟩, HP.out.endD HLT.out ⟨F, H2.out.below HB.out, Fr.of_below HB.out, Gr.refl _ _⟩ _⟩
 · go_wp2_with (first
     | refine wpList_box_op rfl (.tmp 1) rfl o sp o.raw.length cap rfl ?_
     | (go_at_call 56; rw [← hW2.out]; refine HC.out.mono ?_; rintro e w3 ⟨rfl, hX⟩; have HX := hid hX; have HAN := hid (HP.out.keep HLT.out hX.choose_spec.2.1); clear hX)
     | refine wpA_0 rfl (.tmp 40) rfl Y.2 rfl ?_
     | (refine wpList_store_row rfl 43 (.tmp 4) _ rfl (w.heap.size + 1) (ansC Y.2 0 (.slice none 0 0) sup0 0 0 0 0) (by first | rfl | simp [Act.eval]) rfl 43 zzA (HAN.out) (ansN _ _ _ _ _ _ _ _) rfl (ansO _ _ _ _ _ _ _ _ _ _) ?_))
   refine bodyPost_ret (results_c1 Tryz.results23 _ _ (w.heap.size + 1) 43 _ _ _ (by first | rfl | simp) (setRow_heap _ _ _ _ _ _ (HAN.out)) Tryz.underlying43 rfl (ansN _ _ _ _ _ _ _ _)) rfl ?_
   exact ⟨⟨.slice none 0 0, rfl, HP.out.own ((Own.nil _ _)) _⟩, HP.out.endD HLT.out HX.out _⟩
 · go_wp2_with (first
     | refine wpList_box_op rfl (.tmp 1) rfl o sp o.raw.length cap rfl ?_
     | (go_at_call 72; rw [← hW2.out]; refine HC.out.mono ?_; rintro e w3 ⟨rfl, hX⟩; have HX := hid hX; have HAN := hid (HP.out.keep HLT.out hX.choose_spec.2.1); clear hX)
     | refine wpA_z rfl rfl ?_
     | (refine wpList_store_row rfl 43 (.tmp 4) _ rfl (w.heap.size + 1) (ansC 0 0 (.slice none 0 0) sup0 0 0 0 0) (by first | rfl | simp [Act.eval]) rfl 43 zzA (HAN.out) (ansN _ _ _ _ _ _ _ _) rfl (ansO _ _ _ _ _ _ _ _ _ _) ?_))
   refine bodyPost_ret (results_c1 Tryz.results23 _ _ (w.heap.size + 1) 43 _ _ _ (by first | rfl | simp) (setRow_heap _ _ _ _ _ _ (HAN.out)) Tryz.underlying43 rfl (ansN _ _ _ _ _ _ _ _)) rfl ?_
   exact ⟨⟨.slice none 0 0, rfl, HP.out.own ((Own.nil _ _)) _⟩, HP.out.endD HLT.out HX.out _⟩
 · go_wp2_with (first
     | refine wpList_box_op rfl (.tmp 1) rfl o sp o.raw.length cap rfl ?_
     | (go_at_call 57; rw [← hW2.out]; refine HC.out.mono ?_; rintro e w3 ⟨rfl, hX⟩; have HX := hid hX; have HAN := hid (HP.out.keep HLT.out hX.choose_spec.2.1); clear hX)
     | refine wpA_1 rfl (.tmp 80) rfl (D.epoch + 1) rfl ?_
     | (refine wpList_store_row rfl 43 (.tmp 4) _ rfl (w.heap.size + 1) (ansC 0 (D.epoch + 1) (.slice none 0 0) sup0 0 0 0 0) (by first | rfl | simp [Act.eval]) rfl 43 zzA (HAN.out) (ansN _ _ _ _ _ _ _ _) rfl (ansO _ _ _ _ _ _ _ _ _ _) ?_))
   refine bodyPost_ret (results_c1 Tryz.results23 _ _ (w.heap.size + 1) 43 _ _ _ (by first | rfl | simp) (setRow_heap _ _ _ _ _ _ (HAN.out)) Tryz.underlying43 rfl (ansN _ _ _ _ _ _ _ _)) rfl ?_
   exact ⟨⟨.slice none 0 0, rfl, HP.out.own ((Own.nil _ _)) _⟩, HP.out.endD HLT.out HX.out _⟩
 · go_wp2_with (first
     | refine wpList_box_op rfl (.tmp 1) rfl o sp o.raw.length cap rfl ?_
     | (go_at_call 75; rw [← hW2.out]; refine HC.out.mono ?_; rintro e w3 ⟨v, rfl, hO, hX⟩; have HX := hid hX; have HAN := hid (HP.out.keep HLT.out hX.choose_spec.2.1); clear hX; have HO := hid hO; obtain ⟨sv, cv, hv, _, _⟩ := hO.form; subst hv; clear hO)
     | refine wpA_02 rfl (.tmp 91) (.tmp 92) rfl Y.2.2 sv Y.2.1.length cv rfl rfl ?_
     | (refine wpList_store_row rfl 43 (.tmp 4) _ rfl (w.heap.size + 1) (ansC Y.2.2 0 (.slice sv Y.2.1.length cv) sup0 0 0 0 0) (by first | rfl | simp [Act.eval]) rfl 43 zzA (HAN.out) (ansN _ _ _ _ _ _ _ _) rfl (ansO _ _ _ _ _ _ _ _ _ _) ?_))
   refine bodyPost_ret (results_c1 Tryz.results23 _ _ (w.heap.size + 1) 43 _ _ _ (by first | rfl | simp) (setRow_heap _ _ _ _ _ _ (HAN.out)) Tryz.underlying43 rfl (ansN _ _ _ _ _ _ _ _)) rfl ?_
   exact ⟨⟨_, rfl, HP.out.own (HO.out) _⟩, HP.out.endD HLT.out HX.out _⟩
end
end Go.Proofs.YtjhocjjecfdphaaGreatDoor
