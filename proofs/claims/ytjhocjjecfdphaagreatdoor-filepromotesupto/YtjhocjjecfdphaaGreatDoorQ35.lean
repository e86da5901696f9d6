import Derived.Test.YtjhocjjecfdphaaGreatDoorQ34
namespace Go.Proofs.YtjhocjjecfdphaaGreatDoor
set_option linter.unusedVariables false
set_option linter.unusedSimpArgs false
set_option maxRecDepth 100000
set_option maxHeartbeats 4000000
section
open Go.RowKit
attribute [local go_sem ↓] Go.wp_at_zero Go.wp_at_succ
theorem op_cell {w : World} {O : Nat} {o : OP} {rv : Value} (h : w.heap[O]? = some (.cells (o.C rv) 37 (0, 0))) (j : Nat) : w.cell? ⟨O, j, none⟩ = (o.C rv)[j]? := cell_of_row _ _ _ _ _ _ h
theorem write_copied (w : World) (base : Nat) (F : List Nat) (p : Nat) (hbw : base ≤ w.heap.size) (D : DS) (h : DA w base F p D) (hr : Rm D) (q : Int) (data : List Int) (hdb : Bts data) (v : Value) (B : Nat) (hO : Own w B v data) :
   Calls Tryz.prog 71 #[.pointer (some ⟨p, 0, none⟩), .int .i64 q, v] w fun e w' => e = .returned (.int .i64 (wrtF D q data).2) ∧ Nx base F p w (wrtF D q data).1 w' := by
 obtain ⟨sp, cap, rfl, hS, _⟩ := hO.form
 exact Write_all w base F p hbw D h hr.ops hr.wr q data hdb _ rfl sp cap hS
theorem byDisk_16 (w : World) (base : Nat) (F : List Nat) (p : Nat) (hbw : base ≤ w.heap.size) (D : DS) (hr : Rm D) (h : DA w base F p D) (o : OP) (hk : o.kd = 16) (sp : Option Addr) (cap : Nat) (ho : OpOk w o sp cap) :
   Calls Tryz.prog 23 #[.pointer (some ⟨p, 0, none⟩), .agg (o.C (.slice sp o.raw.length cap))] w fun e w' => Told w.heap.size w' (dskF D o).2 e ∧ Nx base F p w (dskF D o).1 w' := by
 have hE : dskF D o = ((wrtF D o.n o.raw).1, { an0 with e := (wrtF D o.n o.raw).2 }) := by unfold dskF; rw [if_neg (by rw [hk]; decide), if_neg (by rw [hk]; decide), if_neg (by rw [hk]; decide), if_neg (by rw [hk]; decide), if_neg (by rw [hk]; decide), if_neg (by rw [hk]; decide), if_pos hk]
 rw [hE]
 have hP := Pro.mk' w o (.slice sp o.raw.length cap)
 have hLT : ∀ k ∈ F, k < w.heap.size := fun k hk => (h.lt k hk).2
 have k0 := hP.cell 0
 obtain ⟨w2, hw2⟩ : ∃ w2, w2 = (w.alloc (.cells (o.C (.slice sp o.raw.length cap)) 37)).alloc (.cells zzA 43) := ⟨_, rfl⟩
 have hW2 := hid hw2
 rw [← hw2] at hP
 have h2 := h.below hP.bl
 have o2 := ho.below hP.bl
 have hb2 : base ≤ w2.heap.size := Nat.le_trans hbw hP.bl.size
 have HC := hid (copied_any w2.drew o.raw sp cap (o2.src.below (Below.refl _ w2).drew (Nat.le_refl _)) (by have := o2.len; omega))
 have HWR := hid (fun (w3 : World) (hB : Below w2.heap.size w2 w3) (v : Value) (hO : Own w3 w2.heap.size v o.raw) => write_copied w3 base F p (Nat.le_trans hb2 hB.size) D (h2.below hB) hr o.n o.raw o2.bts v _ hO)
 generalize wrtF D o.n o.raw = Y at *
 have HP := hid hP
 have HLT := hid hLT
 have H2 := hid h2
 clear h ho h2 o2 hP hLT hE hw2
 replace k0 : ((w.alloc (.cells (o.C (.slice sp o.raw.length cap)) 37)).alloc (.cells zzA 43)).cell? ⟨w.heap.size, 0, none⟩ = some (.int .i64 16) := by rw [← hk]; exact k0
 clear hk hr
 obtain ⟨O, hO⟩ : ∃ O, O = w.heap.size := ⟨_, rfl⟩
 have HOE := hid hO
 have HOP := hid (show w2.heap[O]? = some (.cells (o.C (.slice sp o.raw.length cap)) 37 (0, 0)) by rw [hO]; exact HP.out.op)
 have HOF := hid (show O ∉ F from fun e => by have := HLT.out O e; omega)
 clear hO
 go_enter Tryz.func23, Tryz.ntmps23
 go_wp2_with (first
   | refine wpList_box_op rfl (.tmp 1) rfl o sp o.raw.length cap rfl ?_)
 rw [← hW2.out, ← HOE.out]
 refine rgA (fun w' => w'.heap[O]? = some (.cells (o.C (.slice sp o.raw.length cap)) 37 (0, 0))) HOP.out (fun hq0 => ?_)
 refine tkA 0 (.pointer (some ⟨p, 0, none⟩)) rfl hq0 ?_
 go_frame
 refine tkA 1 (.pointer (some ⟨O, 4, none⟩)) rfl hq0 ?_
 go_frame
 refine tkA 3 (.pointer (some ⟨O, 6, none⟩)) rfl hq0 ?_
 go_frame
 refine tqA 2 (.int .i64 o.n) rfl (yA (by intro w hS; have hc := (show w.cell? ⟨O, 4, none⟩ = some (.int .i64 o.n) from op_cell hS 4); go_simp)) hq0 ?_
 go_frame
 refine tqA 4 (.slice sp o.raw.length cap) rfl (yA (by intro w hS; have hc := (show w.cell? ⟨O, 6, none⟩ = some (.slice sp o.raw.length cap) from op_cell hS 6); go_simp)) hq0 ?_
 go_frame
 refine rdA 5 rfl (fun K hK => ?_)
 go_simp
 go_at_call 28
 refine (HC.out).mono ?_
 rintro e w3 ⟨v, rfl, hO, hB⟩
 have HO := hid hO
 have HBB := hid hB
 have HB := hid ((Below.refl _ w2).drew.trans hB)
 obtain ⟨sv, cv, hv, _, _⟩ := hO.form
 subst hv
 clear hO hB
 go_wp2_with fail
 refine hK.out _ _ ((HBB.out.block O (hlt_ hq0)).trans hq0) ?_
 clear hK K hq0
 intro hq0
 try go_frame
 refine rdA 6 rfl (fun K hK => ?_)
 go_simp
 go_at_call 71
 refine (HWR.out w3 HB.out _ HO.out).mono ?_
 rintro e w4 ⟨rfl, hX⟩
 have HX := hid (show Nx base F p w2 Y.1 w4 by (obtain ⟨F1, x1, x2, x3⟩ := hX; exact ⟨F1, x1, (Fr.of_below HB.out).trans x2 (Gr.refl _ _), fun k hk => (x3 k hk).imp id (fun q => Nat.le_trans HB.out.size q)⟩))
 have HAN := hid (show w4.heap[O + 1]? = some (.cells zzA 43 (0, 0)) by rw [HOE.out]; exact HP.out.keep HLT.out HX.out.choose_spec.2.1)
 go_wp2_with fail
 refine hK.out _ _ (hX.choose_spec.2.1.keep hq0 HOF.out) ?_
 clear hK K hq0
 intro hq0
 try go_frame
 refine tqA 7 (.agg (ansC Y.2 0 (.slice none 0 0) sup0 0 0 0 0)) rfl (yA (by intro w hS; (have hb := bA_0; go_simp; all_goals rfl))) hq0 ?_
 go_frame
 refine rdA 8 rfl (fun K hK => ?_)
 refine step_storeRowC rfl 43 (.tmp 4) (.tmp 51) rfl (O + 1) (ansC Y.2 0 (.slice none 0 0) sup0 0 0 0 0) rfl rfl 43 zzA HAN.out (ansN _ _ _ _ _ _ _ _) rfl (ansO _ _ _ _ _ _ _ _ _ _) ?_
 refine hK.out _ _ ((setRow_other _ _ _ _ (by omega)).trans hq0) ?_
 clear hK K hq0
 intro hq0
 try go_frame
 refine wdA ?_
 go_wp2
 refine bodyPost_ret (results_c1 Tryz.results23 _ _ (O + 1) 43 _ _ _ rfl (setRow_heap _ _ _ _ _ _ HAN.out) Tryz.underlying43 rfl (ansN _ _ _ _ _ _ _ _)) rfl ?_
 have hO := HOE.out
 subst hO
 exact ⟨⟨.slice none 0 0, rfl, HP.out.own (Own.nil _ _) _⟩, HP.out.endD HLT.out HX.out _⟩
theorem byFile_14 (w : World) (base : Nat) (F : List Nat) (p : Nat) (hbw : base ≤ w.heap.size) (D : DS) (hr : Rm D) (h : DA w base F p D) (g : Nat) (s : Sup) (nx ep : Int) (hf : FK w g p s nx ep) (o : OP) (hk : o.kd = 14) (sp : Option Addr) (cap : Nat) (ho : OpOk w o sp cap) :
   Calls Tryz.prog 22 #[.pointer (some ⟨g, 0, none⟩), .agg (o.C (.slice sp o.raw.length cap))] w fun e w' => Told w.heap.size w' (dskF D o).2 e ∧ Nx base F p w (dskF D o).1 w' := by
 have hE : dskF D o = (D, { an0 with n := if D.power = true then 1 else 0 }) := by unfold dskF; rw [if_neg (by rw [hk]; decide), if_neg (by rw [hk]; decide), if_neg (by rw [hk]; decide), if_neg (by rw [hk]; decide), if_pos hk]
 rw [hE]
 have hP := Pro.mk' w o (.slice sp o.raw.length cap)
 have hLT : ∀ k ∈ F, k < w.heap.size := fun k hk => (h.lt k hk).2
 have k0 := hP.cell 0
 have f0 := (hf.below hP.bl).c0
 clear hf
 obtain ⟨w2, hw2⟩ : ∃ w2, w2 = (w.alloc (.cells (o.C (.slice sp o.raw.length cap)) 37)).alloc (.cells zzA 43) := ⟨_, rfl⟩
 have hW2 := hid hw2
 rw [← hw2] at hP
 have h2 := h.below hP.bl
 have o2 := ho.below hP.bl
 have hb2 : base ≤ w2.heap.size := Nat.le_trans hbw hP.bl.size
 have HC := hid (Power_any w2 base F p D h2)
 have HY := hid (lyes_any w2 D.power)
 obtain ⟨yn, hyn⟩ : ∃ yn : Int, yn = (if D.power = true then 1 else 0) := ⟨_, rfl⟩
 rw [← hyn] at HY ⊢
 clear hyn
 have HP := hid hP
 have HLT := hid hLT
 have H2 := hid h2
 clear h ho h2 o2 hP hLT hE hw2
 replace k0 : ((w.alloc (.cells (o.C (.slice sp o.raw.length cap)) 37)).alloc (.cells zzA 43)).cell? ⟨w.heap.size, 0, none⟩ = some (.int .i64 14) := by rw [← hk]; exact k0
 clear hk hr
 go_enter Tryz.func22, Tryz.ntmps22
 go_wp2_with (first
   | refine wpList_box_op rfl (.tmp 1) rfl o sp o.raw.length cap rfl ?_
   | (go_at_call 51; rw [← hW2.out]; refine HC.out.mono ?_; rintro e w3 ⟨rfl, rfl⟩)
   | (go_at_call 70; refine HY.out.mono ?_; rintro e w4 ⟨rfl, rfl⟩)
   | refine wpA_1 rfl (.tmp 48) rfl yn rfl ?_
   | (refine wpList_store_row rfl 43 (.tmp 4) _ rfl (w.heap.size + 1) (ansC 0 yn (.slice none 0 0) sup0 0 0 0 0) (by first | rfl | simp [Act.eval]) rfl 43 zzA (HP.out.an) (ansN _ _ _ _ _ _ _ _) rfl (ansO _ _ _ _ _ _ _ _ _ _) ?_))
 refine bodyPost_ret (results_c1 Tryz.results22 _ _ (w.heap.size + 1) 43 _ _ _ (by first | rfl | simp) (setRow_heap _ _ _ _ _ _ (HP.out.an)) Tryz.underlying43 rfl (ansN _ _ _ _ _ _ _ _)) rfl ?_
 exact ⟨⟨.slice none 0 0, rfl, HP.out.own ((Own.nil _ _)) _⟩, HP.out.endD HLT.out (Nx.refl H2.out) _⟩
theorem byF0 : (∀ (w : World) (base : Nat) (F : List Nat) (p : Nat) (hbw : base ≤ w.heap.size) (D : DS) (hr : Rm D) (h : DA w base F p D) (g : Nat) (s : Sup) (nx ep : Int) (hf : FK w g p s nx ep) (o : OP) (hk : o.kd = 10) (sp : Option Addr) (cap : Nat) (ho : OpOk w o sp cap), Calls Tryz.prog 22 #[.pointer (some ⟨g, 0, none⟩), .agg (o.C (.slice sp o.raw.length cap))] w fun e w' => Told w.heap.size w' (dskF D o).2 e ∧ Nx base F p w (dskF D o).1 w') ∧ (∀ (w : World) (base : Nat) (F : List Nat) (p : Nat) (hbw : base ≤ w.heap.size) (D : DS) (hr : Rm D) (h : DA w base F p D) (g : Nat) (s : Sup) (nx ep : Int) (hf : FK w g p s nx ep) (o : OP) (hk : o.kd = 11) (sp : Option Addr) (cap : Nat) (ho : OpOk w o sp cap), Calls Tryz.prog 22 #[.pointer (some ⟨g, 0, none⟩), .agg (o.C (.slice sp o.raw.length cap))] w fun e w' => Told w.heap.size w' (dskF D o).2 e ∧ Nx base F p w (dskF D o).1 w') ∧ (∀ (w : World) (base : Nat) (F : List Nat) (p : Nat) (hbw : base ≤ w.heap.size) (D : DS) (hr : Rm D) (h : DA w base F p D) (g : Nat) (s : Sup) (nx ep : Int) (hf : FK w g p s nx ep) (o : OP) (hk : o.kd = 12) (sp : Option Addr) (cap : Nat) (ho : OpOk w o sp cap), Calls Tryz.prog 22 #[.pointer (some ⟨g, 0, none⟩), .agg (o.C (.slice sp o.raw.length cap))] w fun e w' => Told w.heap.size w' (dskF D o).2 e ∧ Nx base F p w (dskF D o).1 w') ∧ (∀ (w : World) (base : Nat) (F : List Nat) (p : Nat) (hbw : base ≤ w.heap.size) (D : DS) (hr : Rm D) (h : DA w base F p D) (g : Nat) (s : Sup) (nx ep : Int) (hf : FK w g p s nx ep) (o : OP) (hk : o.kd = 13) (sp : Option Addr) (cap : Nat) (ho : OpOk w o sp cap), Calls Tryz.prog 22 #[.pointer (some ⟨g, 0, none⟩), .agg (o.C (.slice sp o.raw.length cap))] w fun e w' => Told w.heap.size w' (dskF D o).2 e ∧ Nx base F p w (dskF D o).1 w') ∧ (∀ (w : World) (base : Nat) (F : List Nat) (p : Nat) (hbw : base ≤ w.heap.size) (D : DS) (hr : Rm D) (h : DA w base F p D) (g : Nat) (s : Sup) (nx ep : Int) (hf : FK w g p s nx ep) (o : OP) (hk : o.kd = 15) (sp : Option Addr) (cap : Nat) (ho : OpOk w o sp cap), Calls Tryz.prog 22 #[.pointer (some ⟨g, 0, none⟩), .agg (o.C (.slice sp o.raw.length cap))] w fun e w' => Told w.heap.size w' (dskF D o).2 e ∧ Nx base F p w (dskF D o).1 w') ∧ (∀ (w : World) (base : Nat) (F : List Nat) (p : Nat) (hbw : base ≤ w.heap.size) (D : DS) (hr : Rm D) (h : DA w base F p D) (g : Nat) (s : Sup) (nx ep : Int) (hf : FK w g p s nx ep) (o : OP) (hk : o.kd = 20) (sp : Option Addr) (cap : Nat) (ho : OpOk w o sp cap), Calls Tryz.prog 22 #[.pointer (some ⟨g, 0, none⟩), .agg (o.C (.slice sp o.raw.length cap))] w fun e w' => Told w.heap.size w' (dskF D o).2 e ∧ Nx base F p w (dskF D o).1 w') := by
 refine ⟨?_, ?_, ?_, ?_, ?_, ?_⟩
 intro w base F p hbw D hr h g s nx ep hf o hk sp cap ho
 have hE : dskF D o = (D, { an0 with n := D.np }) := by unfold dskF; rw [if_pos hk]
 rotate_left
 intro w base F p hbw D hr h g s nx ep hf o hk sp cap ho
 have hE : dskF D o = (D, { an0 with raw := D.img }) := by unfold dskF; rw [if_neg (by rw [hk]; decide), if_pos hk]
 rotate_left
 intro w base F p hbw D hr h g s nx ep hf o hk sp cap ho
 have hE : dskF D o = (D, { an0 with n := D.epoch }) := by unfold dskF; rw [if_neg (by rw [hk]; decide), if_neg (by rw [hk]; decide), if_pos hk]
 rotate_left
 intro w base F p hbw D hr h g s nx ep hf o hk sp cap ho
 have hE : dskF D o = (D, { an0 with c1 := D.reads, c2 := D.writes, c3 := D.syncs, c4 := D.ops.length }) := by unfold dskF; rw [if_neg (by rw [hk]; decide), if_neg (by rw [hk]; decide), if_neg (by rw [hk]; decide), if_pos hk]
 rotate_left
 intro w base F p hbw D hr h g s nx ep hf o hk sp cap ho
 have hE : dskF D o = ((synF D).1, { an0 with e := (synF D).2 }) := by unfold dskF; rw [if_neg (by rw [hk]; decide), if_neg (by rw [hk]; decide), if_neg (by rw [hk]; decide), if_neg (by rw [hk]; decide), if_neg (by rw [hk]; decide), if_pos hk]
 rotate_left
 intro w base F p hbw D hr h g s nx ep hf o hk sp cap ho
 have hE : dskF D o = ({ D with epoch := D.epoch + 1 }, { an0 with n := D.epoch + 1 }) := by unfold dskF; rw [if_neg (by rw [hk]; decide), if_neg (by rw [hk]; decide), if_neg (by rw [hk]; decide), if_neg (by rw [hk]; decide), if_neg (by rw [hk]; decide), if_neg (by rw [hk]; decide), if_neg (by rw [hk]; decide), if_neg (by rw [hk]; decide), if_neg (by rw [hk]; decide), if_neg (by rw [hk]; decide), if_pos hk]
 rotate_left
 all_goals
  rw [hE]
  have hP := Pro.mk' w o (.slice sp o.raw.length cap)
  have hLT : ∀ k ∈ F, k < w.heap.size := fun k hk => (h.lt k hk).2
  have k0 := hP.cell 0
  have f0 := (hf.below hP.bl).c0
  clear hf
  obtain ⟨w2, hw2⟩ : ∃ w2, w2 = (w.alloc (.cells (o.C (.slice sp o.raw.length cap)) 37)).alloc (.cells zzA 43) := ⟨_, rfl⟩
  have hW2 := hid hw2
  rw [← hw2] at hP
  have h2 := h.below hP.bl
  have o2 := ho.below hP.bl
  have hb2 : base ≤ w2.heap.size := Nat.le_trans hbw hP.bl.size
 have HC := hid (Pages_any w2 base F p D h2)
 rotate_left
 have HC := hid (Image_any w2 base F p D h2)
 rotate_left
 have HC := hid (Epoch_any w2 base F p D h2)
 rotate_left
 have HC := hid (Counts_any w2 base F p D h2)
 rotate_left
 have HC := hid (Sync_all w2 base F p D h2 hr.sy)
 generalize synF D = Y at *
 rotate_left
 have HC := hid (Claim_any' w2 base F p D h2 hr.ep)
 rotate_left
 all_goals
  have HP := hid hP
  have HLT := hid hLT
  have H2 := hid h2
  clear h ho h2 o2 hP hLT hE hw2
 replace k0 : ((w.alloc (.cells (o.C (.slice sp o.raw.length cap)) 37)).alloc (.cells zzA 43)).cell? ⟨w.heap.size, 0, none⟩ = some (.int .i64 10) := by rw [← hk]; exact k0
 rotate_left
 replace k0 : ((w.alloc (.cells (o.C (.slice sp o.raw.length cap)) 37)).alloc (.cells zzA 43)).cell? ⟨w.heap.size, 0, none⟩ = some (.int .i64 11) := by rw [← hk]; exact k0
 rotate_left
 replace k0 : ((w.alloc (.cells (o.C (.slice sp o.raw.length cap)) 37)).alloc (.cells zzA 43)).cell? ⟨w.heap.size, 0, none⟩ = some (.int .i64 12) := by rw [← hk]; exact k0
 rotate_left
 replace k0 : ((w.alloc (.cells (o.C (.slice sp o.raw.length cap)) 37)).alloc (.cells zzA 43)).cell? ⟨w.heap.size, 0, none⟩ = some (.int .i64 13) := by rw [← hk]; exact k0
 rotate_left
 replace k0 : ((w.alloc (.cells (o.C (.slice sp o.raw.length cap)) 37)).alloc (.cells zzA 43)).cell? ⟨w.heap.size, 0, none⟩ = some (.int .i64 15) := by rw [← hk]; exact k0
 rotate_left
 replace k0 : ((w.alloc (.cells (o.C (.slice sp o.raw.length cap)) 37)).alloc (.cells zzA 43)).cell? ⟨w.heap.size, 0, none⟩ = some (.int .i64 20) := by rw [← hk]; exact k0
 rotate_left
 all_goals
  clear hk hr
  go_enter Tryz.func22, Tryz.ntmps22
 · go_wp2_with (first
     | refine wpList_box_op rfl (.tmp 1) rfl o sp o.raw.length cap rfl ?_
     | (go_at_call 53; rw [← hW2.out]; refine HC.out.mono ?_; rintro e w3 ⟨rfl, rfl⟩)
     | refine wpA_1 rfl (.tmp 13) rfl (D.np : Nat) rfl ?_
     | (refine wpList_store_row rfl 43 (.tmp 4) _ rfl (w.heap.size + 1) (ansC 0 (D.np : Nat) (.slice none 0 0) sup0 0 0 0 0) (by first | rfl | simp [Act.eval]) rfl 43 zzA (HP.out.an) (ansN _ _ _ _ _ _ _ _) rfl (ansO _ _ _ _ _ _ _ _ _ _) ?_))
   refine bodyPost_ret (results_c1 Tryz.results22 _ _ (w.heap.size + 1) 43 _ _ _ (by first | rfl | simp) (setRow_heap _ _ _ _ _ _ (HP.out.an)) Tryz.underlying43 rfl (ansN _ _ _ _ _ _ _ _)) rfl ?_
   exact ⟨⟨.slice none 0 0, rfl, HP.out.own ((Own.nil _ _)) _⟩, HP.out.endD HLT.out (Nx.refl H2.out) _⟩
 · go_wp2_with (first
     | refine wpList_box_op rfl (.tmp 1) rfl o sp o.raw.length cap rfl ?_
     | (go_at_call 67; rw [← hW2.out]; refine HC.out.mono ?_; rintro e w3 ⟨v, rfl, hO, hB⟩; have HO := hid hO; have HB := hid hB; obtain ⟨sv, cv, hv, _, _⟩ := hO.form; subst hv; have HAN := hid ((hB.block _ (by have := HP.out.sz; omega)).trans HP.out.an); clear hO hB)
     | refine wpA_2 rfl (.tmp 21) rfl sv D.img.length cv rfl ?_
     | (refine wpList_store_row rfl 43 (.tmp 4) _ rfl (w.heap.size + 1) (ansC 0 0 (.slice sv D.img.length cv) sup0 0 0 0 0) (by first | rfl | simp [Act.eval]) rfl 43 zzA (HAN.out) (ansN _ _ _ _ _ _ _ _) rfl (ansO _ _ _ _ _ _ _ _ _ _) ?_))
   refine bodyPost_ret (results_c1 Tryz.results22 _ _ (w.heap.size + 1) 43 _ _ _ (by first | rfl | simp) (setRow_heap _ _ _ _ _ _ (HAN.out)) Tryz.underlying43 rfl (ansN _ _ _ _ _ _ _ _)) rfl ?_
   exact ⟨⟨_, rfl, HP.out.own (HO.out) _⟩, HP.out.endD HLT.out ⟨F, H2.out.below HB.out, Fr.of_below HB.out, Gr.refl _ _⟩ _⟩
 · go_wp2_with (first
     | refine wpList_box_op rfl (.tmp 1) rfl o sp o.raw.length cap rfl ?_
     | (go_at_call 68; rw [← hW2.out]; refine HC.out.mono ?_; rintro e w3 ⟨rfl, rfl⟩)
     | refine wpA_1 rfl (.tmp 29) rfl D.epoch rfl ?_
     | (refine wpList_store_row rfl 43 (.tmp 4) _ rfl (w.heap.size + 1) (ansC 0 D.epoch (.slice none 0 0) sup0 0 0 0 0) (by first | rfl | simp [Act.eval]) rfl 43 zzA (HP.out.an) (ansN _ _ _ _ _ _ _ _) rfl (ansO _ _ _ _ _ _ _ _ _ _) ?_))
   refine bodyPost_ret (results_c1 Tryz.results22 _ _ (w.heap.size + 1) 43 _ _ _ (by first | rfl | simp) (setRow_heap _ _ _ _ _ _ (HP.out.an)) Tryz.underlying43 rfl (ansN _ _ _ _ _ _ _ _)) rfl ?_
   exact ⟨⟨.slice none 0 0, rfl, HP.out.own ((Own.nil _ _)) _⟩, HP.out.endD HLT.out (Nx.refl H2.out) _⟩
 · go_wp2_with (first
     | refine wpList_box_op rfl (.tmp 1) rfl o sp o.raw.length cap rfl ?_
     | (go_at_call 69; rw [← hW2.out]; refine HC.out.mono ?_; rintro e w3 ⟨rfl, hB⟩; have HB := hid hB; have HAN := hid ((hB.block _ (by have := HP.out.sz; omega)).trans HP.out.an); clear hB)
     | refine wpA_4 rfl (.tmp 39) rfl D.reads D.writes D.syncs D.ops.length rfl ?_
     | (refine wpList_store_row rfl 43 (.tmp 4) _ rfl (w.heap.size + 1) (ansC 0 0 (.slice none 0 0) sup0 D.reads D.writes D.syncs D.ops.length) (by first | rfl | simp [Act.eval]) rfl 43 zzA (HAN.out) (ansN _ _ _ _ _ _ _ _) rfl (ansO _ _ _ _ _ _ _ _ _ _) ?_))
   refine bodyPost_ret (results_c1 Tryz.results22 _ _ (w.heap.size + 1) 43 _ _ _ (by first | rfl | simp) (setRow_heap _ _ _ _ _ _ (HAN.out)) Tryz.underlying43 rfl (ansN _ _ _ _ _ _ _ _)) rfl ?_
   exact ⟨⟨.slice none 0 0, rfl, HP.out.own ((Own.nil _ _)) _⟩, HP.out.endD HLT.out ⟨F, H2.out.below HB.out, Fr.of_below HB.out, Gr.refl _ _⟩ _⟩
 · go_wp2_with (first
     | refine wpList_box_op rfl (.tmp 1) rfl o sp o.raw.length cap rfl ?_
     | (go_at_call 56; rw [← hW2.out]; refine HC.out.mono ?_; rintro e w3 ⟨rfl, hX⟩; have HX := hid hX; have HAN := hid (HP.out.keep HLT.out hX.choose_spec.2.1); clear hX)
     | refine wpA_0 rfl (.tmp 56) rfl Y.2 rfl ?_
     | (refine wpList_store_row rfl 43 (.tmp 4) _ rfl (w.heap.size + 1) (ansC Y.2 0 (.slice none 0 0) sup0 0 0 0 0) (by first | rfl | simp [Act.eval]) rfl 43 zzA (HAN.out) (ansN _ _ _ _ _ _ _ _) rfl (ansO _ _ _ _ _ _ _ _ _ _) ?_))
   refine bodyPost_ret (results_c1 Tryz.results22 _ _ (w.heap.size + 1) 43 _ _ _ (by first | rfl | simp) (setRow_heap _ _ _ _ _ _ (HAN.out)) Tryz.underlying43 rfl (ansN _ _ _ _ _ _ _ _)) rfl ?_
   exact ⟨⟨.slice none 0 0, rfl, HP.out.own ((Own.nil _ _)) _⟩, HP.out.endD HLT.out HX.out _⟩
 · go_wp2_with (first
     | refine wpList_box_op rfl (.tmp 1) rfl o sp o.raw.length cap rfl ?_
     | (go_at_call 57; rw [← hW2.out]; refine HC.out.mono ?_; rintro e w3 ⟨rfl, hX⟩; have HX := hid hX; have HAN := hid (HP.out.keep HLT.out hX.choose_spec.2.1); clear hX)
     | refine wpA_1 rfl (.tmp 111) rfl (D.epoch + 1) rfl ?_
     | (refine wpList_store_row rfl 43 (.tmp 4) _ rfl (w.heap.size + 1) (ansC 0 (D.epoch + 1) (.slice none 0 0) sup0 0 0 0 0) (by first | rfl | simp [Act.eval]) rfl 43 zzA (HAN.out) (ansN _ _ _ _ _ _ _ _) rfl (ansO _ _ _ _ _ _ _ _ _ _) ?_))
   refine bodyPost_ret (results_c1 Tryz.results22 _ _ (w.heap.size + 1) 43 _ _ _ (by first | rfl | simp) (setRow_heap _ _ _ _ _ _ (HAN.out)) Tryz.underlying43 rfl (ansN _ _ _ _ _ _ _ _)) rfl ?_
   exact ⟨⟨.slice none 0 0, rfl, HP.out.own ((Own.nil _ _)) _⟩, HP.out.endD HLT.out HX.out _⟩
theorem byFile_17 (w : World) (base : Nat) (F : List Nat) (p : Nat) (hbw : base ≤ w.heap.size) (D : DS) (hr : Rm D) (h : DA w base F p D) (g : Nat) (s : Sup) (nx ep : Int) (hf : FK w g p s nx ep) (o : OP) (hk : o.kd = 17) (sp : Option Addr) (cap : Nat) (ho : OpOk w o sp cap) :
   Calls Tryz.prog 22 #[.pointer (some ⟨g, 0, none⟩), .agg (o.C (.slice sp o.raw.length cap))] w fun e w' => Told w.heap.size w' (dskF D o).2 e ∧ Nx base F p w (dskF D o).1 w' := by
 have hE : dskF D o = (D.arm o.n, an0) := by unfold dskF; rw [if_neg (by rw [hk]; decide), if_neg (by rw [hk]; decide), if_neg (by rw [hk]; decide), if_neg (by rw [hk]; decide), if_neg (by rw [hk]; decide), if_neg (by rw [hk]; decide), if_neg (by rw [hk]; decide), if_pos hk]
 rw [hE]
 have hP := Pro.mk' w o (.slice sp o.raw.length cap)
 have hLT : ∀ k ∈ F, k < w.heap.size := fun k hk => (h.lt k hk).2
 have k0 := hP.cell 0
 obtain ⟨w2, hw2⟩ : ∃ w2, w2 = (w.alloc (.cells (o.C (.slice sp o.raw.length cap)) 37)).alloc (.cells zzA 43) := ⟨_, rfl⟩
 have hW2 := hid hw2
 rw [← hw2] at hP
 have h2 := h.below hP.bl
 have o2 := ho.below hP.bl
 have hb2 : base ≤ w2.heap.size := Nat.le_trans hbw hP.bl.size
 have HWR := hid (Arm_any w2.drew base F p D h2.drew o.n o2.n)
 have HFK := hid (hf.below hP.bl)
 have HGO := hid (hlt_ hf)
 clear hf
 have HP := hid hP
 have HLT := hid hLT
 have H2 := hid h2
 clear h ho h2 o2 hP hLT hE hw2
 replace k0 : ((w.alloc (.cells (o.C (.slice sp o.raw.length cap)) 37)).alloc (.cells zzA 43)).cell? ⟨w.heap.size, 0, none⟩ = some (.int .i64 17) := by rw [← hk]; exact k0
 clear hk hr
 obtain ⟨O, hO⟩ : ∃ O, O = w.heap.size := ⟨_, rfl⟩
 have HOE := hid hO
 have HOP := hid (show w2.heap[O]? = some (.cells (o.C (.slice sp o.raw.length cap)) 37 (0, 0)) by rw [hO]; exact HP.out.op)
 have HOF := hid (show O ∉ F from fun e => by have := HLT.out O e; omega)
 have HGO : Hid (g < O) := hid (by rw [hO]; exact HGO.out)
 clear hO
 go_enter Tryz.func22, Tryz.ntmps22
 go_wp2_with (first
   | refine wpList_box_op rfl (.tmp 1) rfl o sp o.raw.length cap rfl ?_)
 rw [← hW2.out, ← HOE.out]
 refine rgA (fun w' => w'.heap[O]? = some (.cells (o.C (.slice sp o.raw.length cap)) 37 (0, 0)) ∧ FK w' g p s nx ep) ⟨HOP.out, HFK.out.drew⟩ (fun hq0 => ?_)
 refine tkA 0 (.pointer (some ⟨g, 0, none⟩)) rfl hq0 ?_
 go_frame
 refine tkA 4 (.pointer (some ⟨O, 4, none⟩)) rfl hq0 ?_
 go_frame
 refine tkA 1 (.pointer (some ⟨g, 0, none⟩)) rfl hq0 ?_
 go_frame
 refine tqA 5 (.int .i64 o.n) rfl (yA (by intro w hS; have hc := (show w.cell? ⟨O, 4, none⟩ = some (.int .i64 o.n) from op_cell hS.1 4); go_simp)) hq0 ?_
 go_frame
 refine tkA 2 (.pointer (some ⟨g, 0, none⟩)) rfl hq0 ?_
 go_frame
 refine tqA 3 (.pointer (some ⟨p, 0, none⟩)) rfl (yA (by intro w hS; have hc := FK.c0 hS.2; go_simp)) hq0 ?_
 go_frame
 refine rdA 6 rfl (fun K hK => ?_)
 go_simp
 go_at_call 72
 refine (HWR.out).mono ?_
 rintro e w4 ⟨rfl, hX⟩
 have HX := hid (show Nx base F p w2 (D.arm o.n) w4 by (obtain ⟨F1, x1, x2, x3⟩ := hX; exact ⟨F1, x1, (Fr.refl F w2).drew.trans x2 (Gr.refl _ _), fun k hk => (x3 k hk).imp id (fun q => q)⟩))
 have HAN := hid (show w4.heap[O + 1]? = some (.cells zzA 43 (0, 0)) by rw [HOE.out]; exact HP.out.keep HLT.out HX.out.choose_spec.2.1)
 go_wp2_with fail
 refine hK.out _ _ (⟨hX.choose_spec.2.1.keep hq0.1 HOF.out, FK.other (show FK w2.drew g p s nx ep from hq0.2) (H2.out.drew) hX.choose_spec.2.1⟩) ?_
 clear hK K hq0
 intro hq0
 try go_frame
 refine wdA ?_
 clear hq0
 go_wp2_with (first
   | refine wpA_z rfl rfl ?_
   | (refine wpList_store_row rfl 43 (.tmp 4) _ rfl (O + 1) (ansC 0 0 (.slice none 0 0) sup0 0 0 0 0) rfl rfl 43 zzA HAN.out (ansN _ _ _ _ _ _ _ _) rfl (ansO _ _ _ _ _ _ _ _ _ _) ?_))
 refine bodyPost_ret (results_c1 Tryz.results22 _ _ (O + 1) 43 _ _ _ rfl (setRow_heap _ _ _ _ _ _ HAN.out) Tryz.underlying43 rfl (ansN _ _ _ _ _ _ _ _)) rfl ?_
 have hO := HOE.out
 subst hO
 exact ⟨⟨.slice none 0 0, rfl, HP.out.own (Own.nil _ _) _⟩, HP.out.endD HLT.out HX.out _⟩
theorem byF1 : (∀ (w : World) (base : Nat) (F : List Nat) (p : Nat) (hbw : base ≤ w.heap.size) (D : DS) (hr : Rm D) (h : DA w base F p D) (g : Nat) (s : Sup) (nx ep : Int) (hf : FK w g p s nx ep) (o : OP) (hk : o.kd = 16) (sp : Option Addr) (cap : Nat) (ho : OpOk w o sp cap), Calls Tryz.prog 22 #[.pointer (some ⟨g, 0, none⟩), .agg (o.C (.slice sp o.raw.length cap))] w fun e w' => Told w.heap.size w' (dskF D o).2 e ∧ Nx base F p w (dskF D o).1 w') ∧ (∀ (w : World) (base : Nat) (F : List Nat) (p : Nat) (hbw : base ≤ w.heap.size) (D : DS) (hr : Rm D) (h : DA w base F p D) (g : Nat) (s : Sup) (nx ep : Int) (hf : FK w g p s nx ep) (o : OP) (hk : o.kd = 18) (sp : Option Addr) (cap : Nat) (ho : OpOk w o sp cap), Calls Tryz.prog 22 #[.pointer (some ⟨g, 0, none⟩), .agg (o.C (.slice sp o.raw.length cap))] w fun e w' => Told w.heap.size w' (dskF D o).2 e ∧ Nx base F p w (dskF D o).1 w') := by
 refine ⟨?_, ?_⟩
 intro w base F p hbw D hr h g s nx ep hf o hk sp cap ho
 have hE : dskF D o = ((wrtF D o.n o.raw).1, { an0 with e := (wrtF D o.n o.raw).2 }) := by unfold dskF; rw [if_neg (by rw [hk]; decide), if_neg (by rw [hk]; decide), if_neg (by rw [hk]; decide), if_neg (by rw [hk]; decide), if_neg (by rw [hk]; decide), if_neg (by rw [hk]; decide), if_pos hk]
 rotate_left
 intro w base F p hbw D hr h g s nx ep hf o hk sp cap ho
 have hE : dskF D o = (D.crashed o.raw, { an0 with n := D.ops.length }) := by unfold dskF; rw [if_neg (by rw [hk]; decide), if_neg (by rw [hk]; decide), if_neg (by rw [hk]; decide), if_neg (by rw [hk]; decide), if_neg (by rw [hk]; decide), if_neg (by rw [hk]; decide), if_neg (by rw [hk]; decide), if_neg (by rw [hk]; decide), if_pos hk]
 rotate_left
 all_goals
  rw [hE]
  have hP := Pro.mk' w o (.slice sp o.raw.length cap)
  have hLT : ∀ k ∈ F, k < w.heap.size := fun k hk => (h.lt k hk).2
  have k0 := hP.cell 0
  obtain ⟨w2, hw2⟩ : ∃ w2, w2 = (w.alloc (.cells (o.C (.slice sp o.raw.length cap)) 37)).alloc (.cells zzA 43) := ⟨_, rfl⟩
  have hW2 := hid hw2
  rw [← hw2] at hP
  have h2 := h.below hP.bl
  have o2 := ho.below hP.bl
  have hb2 : base ≤ w2.heap.size := Nat.le_trans hbw hP.bl.size
  have HC := hid (copied_any w2.drew o.raw sp cap (o2.src.below (Below.refl _ w2).drew (Nat.le_refl _)) (by have := o2.len; omega))
 have HWR := hid (fun (w3 : World) (hB : Below w2.heap.size w2 w3) (v : Value) (hO : Own w3 w2.heap.size v o.raw) => write_copied w3 base F p (Nat.le_trans hb2 hB.size) D (h2.below hB) hr o.n o.raw o2.bts v _ hO)
 generalize wrtF D o.n o.raw = Y at *
 rotate_left
 have HWR := hid (fun (w3 : World) (hB : Below w2.heap.size w2 w3) (v : Value) (hO : Own w3 w2.heap.size v o.raw) => crash_copied w3 base F p D (h2.below hB) hr.ep o.raw o2.bts w2.heap.size (fun k hk => (h2.lt k hk).2) v hO)
 rotate_left
 all_goals
  have HFK := hid (hf.below hP.bl)
  have HGO := hid (hlt_ hf)
  clear hf
  have HP := hid hP
  have HLT := hid hLT
  have H2 := hid h2
  clear h ho h2 o2 hP hLT hE hw2
 replace k0 : ((w.alloc (.cells (o.C (.slice sp o.raw.length cap)) 37)).alloc (.cells zzA 43)).cell? ⟨w.heap.size, 0, none⟩ = some (.int .i64 16) := by rw [← hk]; exact k0
 rotate_left
 replace k0 : ((w.alloc (.cells (o.C (.slice sp o.raw.length cap)) 37)).alloc (.cells zzA 43)).cell? ⟨w.heap.size, 0, none⟩ = some (.int .i64 18) := by rw [← hk]; exact k0
 rotate_left
 all_goals
  clear hk hr
  obtain ⟨O, hO⟩ : ∃ O, O = w.heap.size := ⟨_, rfl⟩
  have HOE := hid hO
  have HOP := hid (show w2.heap[O]? = some (.cells (o.C (.slice sp o.raw.length cap)) 37 (0, 0)) by rw [hO]; exact HP.out.op)
  have HOF := hid (show O ∉ F from fun e => by have := HLT.out O e; omega)
  have HGO : Hid (g < O) := hid (by rw [hO]; exact HGO.out)
  clear hO
  go_enter Tryz.func22, Tryz.ntmps22
  go_wp2_with (first
    | refine wpList_box_op rfl (.tmp 1) rfl o sp o.raw.length cap rfl ?_)
  rw [← hW2.out, ← HOE.out]
  refine rgA (fun w' => w'.heap[O]? = some (.cells (o.C (.slice sp o.raw.length cap)) 37 (0, 0)) ∧ FK w' g p s nx ep) ⟨HOP.out, HFK.out.drew⟩ (fun hq0 => ?_)
  refine tkA 0 (.pointer (some ⟨g, 0, none⟩)) rfl hq0 ?_
  go_frame
 refine tkA 4 (.pointer (some ⟨O, 4, none⟩)) rfl hq0 ?_
 rotate_left
 refine tkA 4 (.pointer (some ⟨O, 6, none⟩)) rfl hq0 ?_
 rotate_left
 all_goals
  go_frame
 refine tkA 6 (.pointer (some ⟨O, 6, none⟩)) rfl hq0 ?_
 go_frame
 rotate_left
 rotate_left
 all_goals
  refine tkA 1 (.pointer (some ⟨g, 0, none⟩)) rfl hq0 ?_
  go_frame
 refine tqA 5 (.int .i64 o.n) rfl (yA (by intro w hS; have hc := (show w.cell? ⟨O, 4, none⟩ = some (.int .i64 o.n) from op_cell hS.1 4); go_simp)) hq0 ?_
 rotate_left
 refine tqA 5 (.slice sp o.raw.length cap) rfl (yA (by intro w hS; have hc := (show w.cell? ⟨O, 6, none⟩ = some (.slice sp o.raw.length cap) from op_cell hS.1 6); go_simp)) hq0 ?_
 rotate_left
 all_goals
  go_frame
 refine tqA 7 (.slice sp o.raw.length cap) rfl (yA (by intro w hS; have hc := (show w.cell? ⟨O, 6, none⟩ = some (.slice sp o.raw.length cap) from op_cell hS.1 6); go_simp)) hq0 ?_
 go_frame
 rotate_left
 rotate_left
 all_goals
  refine tkA 2 (.pointer (some ⟨g, 0, none⟩)) rfl hq0 ?_
  go_frame
  refine tqA 3 (.pointer (some ⟨p, 0, none⟩)) rfl (yA (by intro w hS; have hc := FK.c0 hS.2; go_simp)) hq0 ?_
  go_frame
 refine rdA 8 rfl (fun K hK => ?_)
 rotate_left
 refine rdA 6 rfl (fun K hK => ?_)
 rotate_left
 all_goals
  go_simp
  go_at_call 28
  refine (HC.out).mono ?_
  rintro e w3 ⟨v, rfl, hO, hB⟩
  have HO := hid hO
  have HBB := hid hB
  have HB := hid ((Below.refl _ w2).drew.trans hB)
  obtain ⟨sv, cv, hv, _, _⟩ := hO.form
  subst hv
  clear hO hB
  go_wp2_with fail
  refine hK.out _ _ (⟨(HBB.out.block O (hlt_ hq0.1)).trans hq0.1, (show FK w2.drew g p s nx ep from hq0.2).below HBB.out⟩) ?_
  clear hK K hq0
  intro hq0
  try go_frame
 refine rdA 9 rfl (fun K hK => ?_)
 rotate_left
 refine rdA 7 rfl (fun K hK => ?_)
 rotate_left
 all_goals
  go_simp
 go_at_call 71
 rotate_left
 go_at_call 73
 rotate_left
 all_goals
  refine (HWR.out w3 HB.out _ HO.out).mono ?_
  rintro e w4 ⟨rfl, hX⟩
 have HX := hid (show Nx base F p w2 Y.1 w4 by (obtain ⟨F1, x1, x2, x3⟩ := hX; exact ⟨F1, x1, (Fr.of_below HB.out).trans x2 (Gr.refl _ _), fun k hk => (x3 k hk).imp id (fun q => Nat.le_trans HB.out.size q)⟩))
 rotate_left
 have HX := hid (show Nx base F p w2 (D.crashed o.raw) w4 by (obtain ⟨F1, x1, x2, x3⟩ := hX; exact ⟨F1, x1, (Fr.of_below HB.out).trans x2 (Gr.refl _ _), fun k hk => (x3 k hk).imp id (fun q => Nat.le_trans HB.out.size q)⟩))
 rotate_left
 all_goals
  have HAN := hid (show w4.heap[O + 1]? = some (.cells zzA 43 (0, 0)) by rw [HOE.out]; exact HP.out.keep HLT.out HX.out.choose_spec.2.1)
  go_wp2_with fail
  refine hK.out _ _ (⟨hX.choose_spec.2.1.keep hq0.1 HOF.out, FK.other (show FK w3 g p s nx ep from hq0.2) (H2.out.below HB.out) hX.choose_spec.2.1⟩) ?_
  clear hK K hq0
  intro hq0
  try go_frame
 refine tqA 10 (.agg (ansC Y.2 0 (.slice none 0 0) sup0 0 0 0 0)) rfl (yA (by intro w hS; (have hb := bA_0; go_simp; all_goals rfl))) hq0 ?_
 rotate_left
 refine tqA 8 (.agg (ansC 0 D.ops.length (.slice none 0 0) sup0 0 0 0 0)) rfl (yA (by intro w hS; (have hb := bA_1; go_simp; all_goals rfl))) hq0 ?_
 rotate_left
 all_goals
  go_frame
 refine rdA 11 rfl (fun K hK => ?_)
 refine step_storeRowC rfl 43 (.tmp 4) (.tmp 70) rfl (O + 1) (ansC Y.2 0 (.slice none 0 0) sup0 0 0 0 0) rfl rfl 43 zzA HAN.out (ansN _ _ _ _ _ _ _ _) rfl (ansO _ _ _ _ _ _ _ _ _ _) ?_
 rotate_left
 refine rdA 9 rfl (fun K hK => ?_)
 refine step_storeRowC rfl 43 (.tmp 4) (.tmp 90) rfl (O + 1) (ansC 0 D.ops.length (.slice none 0 0) sup0 0 0 0 0) rfl rfl 43 zzA HAN.out (ansN _ _ _ _ _ _ _ _) rfl (ansO _ _ _ _ _ _ _ _ _ _) ?_
 rotate_left
 all_goals
  refine hK.out _ _ (⟨(setRow_other _ _ _ _ (by omega)).trans hq0.1, (setRow_other _ _ _ _ (by have := HGO.out; omega)).trans hq0.2⟩) ?_
  clear hK K hq0
  intro hq0
  try go_frame
  refine wdA ?_
  go_wp2
  refine bodyPost_ret (results_c1 Tryz.results22 _ _ (O + 1) 43 _ _ _ rfl (setRow_heap _ _ _ _ _ _ HAN.out) Tryz.underlying43 rfl (ansN _ _ _ _ _ _ _ _)) rfl ?_
  have hO := HOE.out
  subst hO
  exact ⟨⟨.slice none 0 0, rfl, HP.out.own (Own.nil _ _) _⟩, HP.out.endD HLT.out HX.out _⟩
theorem byFile_19 (w : World) (base : Nat) (F : List Nat) (p : Nat) (hbw : base ≤ w.heap.size) (D : DS) (hr : Rm D) (h : DA w base F p D) (g : Nat) (s : Sup) (nx ep : Int) (hf : FK w g p s nx ep) (o : OP) (hk : o.kd = 19) (sp : Option Addr) (cap : Nat) (ho : OpOk w o sp cap) :
   Calls Tryz.prog 22 #[.pointer (some ⟨g, 0, none⟩), .agg (o.C (.slice sp o.raw.length cap))] w fun e w' => Told w.heap.size w' (dskF D o).2 e ∧ Nx base F p w (dskF D o).1 w' := by
 have hE : dskF D o = ((flpF D o.n o.m o.bt).1, { an0 with e := (flpF D o.n o.m o.bt).2 }) := by unfold dskF; rw [if_neg (by rw [hk]; decide), if_neg (by rw [hk]; decide), if_neg (by rw [hk]; decide), if_neg (by rw [hk]; decide), if_neg (by rw [hk]; decide), if_neg (by rw [hk]; decide), if_neg (by rw [hk]; decide), if_neg (by rw [hk]; decide), if_neg (by rw [hk]; decide), if_pos hk]
 rw [hE]
 have hP := Pro.mk' w o (.slice sp o.raw.length cap)
 have hLT : ∀ k ∈ F, k < w.heap.size := fun k hk => (h.lt k hk).2
 have k0 := hP.cell 0
 obtain ⟨w2, hw2⟩ : ∃ w2, w2 = (w.alloc (.cells (o.C (.slice sp o.raw.length cap)) 37)).alloc (.cells zzA 43) := ⟨_, rfl⟩
 have hW2 := hid hw2
 rw [← hw2] at hP
 have h2 := h.below hP.bl
 have o2 := ho.below hP.bl
 have hb2 : base ≤ w2.heap.size := Nat.le_trans hbw hP.bl.size
 have HWR := hid (Flip_all w2.drew base F p D h2.drew o.n o.m o.bt o2.bt)
 generalize flpF D o.n o.m o.bt = Y at *
 have HFK := hid (hf.below hP.bl)
 have HGO := hid (hlt_ hf)
 clear hf
 have HP := hid hP
 have HLT := hid hLT
 have H2 := hid h2
 clear h ho h2 o2 hP hLT hE hw2
 replace k0 : ((w.alloc (.cells (o.C (.slice sp o.raw.length cap)) 37)).alloc (.cells zzA 43)).cell? ⟨w.heap.size, 0, none⟩ = some (.int .i64 19) := by rw [← hk]; exact k0
 clear hk hr
 obtain ⟨O, hO⟩ : ∃ O, O = w.heap.size := ⟨_, rfl⟩
 have HOE := hid hO
 have HOP := hid (show w2.heap[O]? = some (.cells (o.C (.slice sp o.raw.length cap)) 37 (0, 0)) by rw [hO]; exact HP.out.op)
 have HOF := hid (show O ∉ F from fun e => by have := HLT.out O e; omega)
 have HGO : Hid (g < O) := hid (by rw [hO]; exact HGO.out)
 clear hO
 go_enter Tryz.func22, Tryz.ntmps22
 go_wp2_with (first
   | refine wpList_box_op rfl (.tmp 1) rfl o sp o.raw.length cap rfl ?_)
 rw [← hW2.out, ← HOE.out]
 refine rgA (fun w' => w'.heap[O]? = some (.cells (o.C (.slice sp o.raw.length cap)) 37 (0, 0)) ∧ FK w' g p s nx ep) ⟨HOP.out, HFK.out.drew⟩ (fun hq0 => ?_)
 refine tkA 0 (.pointer (some ⟨g, 0, none⟩)) rfl hq0 ?_
 go_frame
 refine tkA 4 (.pointer (some ⟨O, 4, none⟩)) rfl hq0 ?_
 go_frame
 refine tkA 6 (.pointer (some ⟨O, 5, none⟩)) rfl hq0 ?_
 go_frame
 refine tkA 8 (.pointer (some ⟨O, 7, none⟩)) rfl hq0 ?_
 go_frame
 refine tkA 1 (.pointer (some ⟨g, 0, none⟩)) rfl hq0 ?_
 go_frame
 refine tqA 5 (.int .i64 o.n) rfl (yA (by intro w hS; have hc := (show w.cell? ⟨O, 4, none⟩ = some (.int .i64 o.n) from op_cell hS.1 4); go_simp)) hq0 ?_
 go_frame
 refine tqA 7 (.int .i64 o.m) rfl (yA (by intro w hS; have hc := (show w.cell? ⟨O, 5, none⟩ = some (.int .i64 o.m) from op_cell hS.1 5); go_simp)) hq0 ?_
 go_frame
 refine tqA 9 (.int .u32 o.bt) rfl (yA (by intro w hS; have hc := (show w.cell? ⟨O, 7, none⟩ = some (.int .u32 o.bt) from op_cell hS.1 7); go_simp)) hq0 ?_
 go_frame
 refine tkA 2 (.pointer (some ⟨g, 0, none⟩)) rfl hq0 ?_
 go_frame
 refine tqA 3 (.pointer (some ⟨p, 0, none⟩)) rfl (yA (by intro w hS; have hc := FK.c0 hS.2; go_simp)) hq0 ?_
 go_frame
 refine rdA 10 rfl (fun K hK => ?_)
 go_simp
 go_at_call 74
 refine (HWR.out).mono ?_
 rintro e w4 ⟨rfl, hX⟩
 have HX := hid (show Nx base F p w2 Y.1 w4 by (obtain ⟨F1, x1, x2, x3⟩ := hX; exact ⟨F1, x1, (Fr.refl F w2).drew.trans x2 (Gr.refl _ _), fun k hk => (x3 k hk).imp id (fun q => q)⟩))
 have HAN := hid (show w4.heap[O + 1]? = some (.cells zzA 43 (0, 0)) by rw [HOE.out]; exact HP.out.keep HLT.out HX.out.choose_spec.2.1)
 go_wp2_with fail
 refine hK.out _ _ (⟨hX.choose_spec.2.1.keep hq0.1 HOF.out, FK.other (show FK w2.drew g p s nx ep from hq0.2) (H2.out.drew) hX.choose_spec.2.1⟩) ?_
 clear hK K hq0
 intro hq0
 try go_frame
 refine tqA 11 (.agg (ansC Y.2 0 (.slice none 0 0) sup0 0 0 0 0)) rfl (yA (by intro w hS; (have hb := bA_0; go_simp; all_goals rfl))) hq0 ?_
 go_frame
 refine rdA 12 rfl (fun K hK => ?_)
 refine step_storeRowC rfl 43 (.tmp 4) (.tmp 104) rfl (O + 1) (ansC Y.2 0 (.slice none 0 0) sup0 0 0 0 0) rfl rfl 43 zzA HAN.out (ansN _ _ _ _ _ _ _ _) rfl (ansO _ _ _ _ _ _ _ _ _ _) ?_
 refine hK.out _ _ (⟨(setRow_other _ _ _ _ (by omega)).trans hq0.1, (setRow_other _ _ _ _ (by have := HGO.out; omega)).trans hq0.2⟩) ?_
 clear hK K hq0
 intro hq0
 try go_frame
 refine wdA ?_
 go_wp2
 refine bodyPost_ret (results_c1 Tryz.results22 _ _ (O + 1) 43 _ _ _ rfl (setRow_heap _ _ _ _ _ _ HAN.out) Tryz.underlying43 rfl (ansN _ _ _ _ _ _ _ _)) rfl ?_
 have hO := HOE.out
 subst hO
 exact ⟨⟨.slice none 0 0, rfl, HP.out.own (Own.nil _ _) _⟩, HP.out.endD HLT.out HX.out _⟩


end
end Go.Proofs.YtjhocjjecfdphaaGreatDoor
