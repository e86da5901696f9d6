import Derived.Test.YtjhocjjecfdphaaGreatDoorQ37
namespace Go.Proofs.YtjhocjjecfdphaaGreatDoor
set_option linter.unusedVariables false
set_option linter.unusedSimpArgs false
set_option maxRecDepth 100000
set_option maxHeartbeats 4000000
section
open Go.RowKit
attribute [local go_sem ↓] Go.wp_at_zero Go.wp_at_succ
def Told2 (B : Nat) (w : World) (a : AN) (ok : Bool) (e : Ending) : Prop := ∃ v, e = .returned (.tuple #[.agg (a.C v), .bool ok]) ∧ Own w B v a.raw
theorem Pro.endN {w w2 w3 : World} {o : OP} {rv : Value} (h : Pro w w2 o rv) {base : Nat} {F : List Nat} {p g : Nat} {D : DS} {s : Sup} {nx ep : Int} (hF : ∀ k ∈ F, k < w.heap.size) (hg : g < w.heap.size) (hx : NxF base F p g w2 D s nx ep w3) (cs : Array Value) : NxF base F p g w D s nx ep (w3.setRow (w.heap.size + 1) cs) := by
 obtain ⟨F', h1, h2, h3, h4⟩ := hx
 have hs := h.sz
 refine ⟨F', h1.of_heap fun k hk => setRow_other _ _ _ _ (fun e => ?_), (setRow_other _ _ _ _ (by omega)).trans h2, ⟨h3.os.trans h.bl.os, h3.tape.trans h.bl.tape, h3.output.trans h.bl.output, by rw [setRow_size]; exact Nat.le_trans h.bl.size h3.size, fun k hk hn => ?_⟩, fun k hk => (h4 k hk).imp id (fun q => by omega)⟩
 · rcases h4 k hk with q | q
   · have := hF k q; omega
   · omega
 · rw [setRow_other _ _ _ _ (by omega), h3.block k (by omega) hn, h.bl.block k hk]
theorem NxF.refl {w : World} {base : Nat} {F : List Nat} {p g : Nat} {D : DS} {s : Sup} {nx ep : Int} (h : DA w base F p D) (hf : FK w g p s nx ep) : NxF base F p g w D s nx ep w := ⟨F, h, hf, Fr.refl _ _, Gr.refl _ _⟩
theorem NxF.below {w w1 : World} {base : Nat} {F : List Nat} {p g : Nat} {D : DS} {s : Sup} {nx ep : Int} (h : DA w base F p D) (hf : FK w g p s nx ep) (hb : Below w.heap.size w w1) : NxF base F p g w D s nx ep w1 := ⟨F, h.below hb, hf.below hb, Fr.of_below hb, Gr.refl _ _⟩
theorem own0 : (∀ (w : World) (base : Nat) (F : List Nat) (p pw : Nat) (hbw : base ≤ w.heap.size) (D : DS) (hr : Rm D) (hr3 : D.ops.length + 3 < 400000000000 ∧ D.writes + 3 < 4000000000000000000 ∧ D.syncs + 3 < 4000000000000000000) (h : DA w base F p D) (g : Nat) (s : Sup) (nx ep : Int) (hf : FK w g p s nx ep) (hfo : FiOk D s nx) (o : OP) (hk : o.kd = 3) (sp : Option Addr) (cap : Nat) (ho : OpOk w o sp cap), Calls Tryz.prog 21 #[.pointer (some ⟨pw, 0, none⟩), .pointer (some ⟨g, 0, none⟩), .agg (o.C (.slice sp o.raw.length cap))] w fun e w' => Told2 w.heap.size w' (filF D s nx ep o).2.2.2 true e ∧ NxF base F p g w (filF D s nx ep o).1 (filF D s nx ep o).2.1 (filF D s nx ep o).2.2.1 ep w') ∧ (∀ (w : World) (base : Nat) (F : List Nat) (p pw : Nat) (hbw : base ≤ w.heap.size) (D : DS) (hr : Rm D) (hr3 : D.ops.length + 3 < 400000000000 ∧ D.writes + 3 < 4000000000000000000 ∧ D.syncs + 3 < 4000000000000000000) (h : DA w base F p D) (g : Nat) (s : Sup) (nx ep : Int) (hf : FK w g p s nx ep) (hfo : FiOk D s nx) (o : OP) (hk : o.kd = 4) (sp : Option Addr) (cap : Nat) (ho : OpOk w o sp cap), Calls Tryz.prog 21 #[.pointer (some ⟨pw, 0, none⟩), .pointer (some ⟨g, 0, none⟩), .agg (o.C (.slice sp o.raw.length cap))] w fun e w' => Told2 w.heap.size w' (filF D s nx ep o).2.2.2 true e ∧ NxF base F p g w (filF D s nx ep o).1 (filF D s nx ep o).2.1 (filF D s nx ep o).2.2.1 ep w') ∧ (∀ (w : World) (base : Nat) (F : List Nat) (p pw : Nat) (hbw : base ≤ w.heap.size) (D : DS) (hr : Rm D) (hr3 : D.ops.length + 3 < 400000000000 ∧ D.writes + 3 < 4000000000000000000 ∧ D.syncs + 3 < 4000000000000000000) (h : DA w base F p D) (g : Nat) (s : Sup) (nx ep : Int) (hf : FK w g p s nx ep) (hfo : FiOk D s nx) (o : OP) (hk : o.kd = 5) (sp : Option Addr) (cap : Nat) (ho : OpOk w o sp cap), Calls Tryz.prog 21 #[.pointer (some ⟨pw, 0, none⟩), .pointer (some ⟨g, 0, none⟩), .agg (o.C (.slice sp o.raw.length cap))] w fun e w' => Told2 w.heap.size w' (filF D s nx ep o).2.2.2 true e ∧ NxF base F p g w (filF D s nx ep o).1 (filF D s nx ep o).2.1 (filF D s nx ep o).2.2.1 ep w') ∧ (∀ (w : World) (base : Nat) (F : List Nat) (p pw : Nat) (hbw : base ≤ w.heap.size) (D : DS) (hr : Rm D) (hr3 : D.ops.length + 3 < 400000000000 ∧ D.writes + 3 < 4000000000000000000 ∧ D.syncs + 3 < 4000000000000000000) (h : DA w base F p D) (g : Nat) (s : Sup) (nx ep : Int) (hf : FK w g p s nx ep) (hfo : FiOk D s nx) (o : OP) (hk : o.kd = 6) (sp : Option Addr) (cap : Nat) (ho : OpOk w o sp cap), Calls Tryz.prog 21 #[.pointer (some ⟨pw, 0, none⟩), .pointer (some ⟨g, 0, none⟩), .agg (o.C (.slice sp o.raw.length cap))] w fun e w' => Told2 w.heap.size w' (filF D s nx ep o).2.2.2 true e ∧ NxF base F p g w (filF D s nx ep o).1 (filF D s nx ep o).2.1 (filF D s nx ep o).2.2.1 ep w') := by
 refine ⟨?_, ?_, ?_, ?_⟩
 intro w base F p pw hbw D hr hr3 h g s nx ep hf hfo o hk sp cap ho
 have hE : filF D s nx ep o = (D, s, nx, { an0 with e := liveF D ep }) := by unfold filF; rw [if_pos hk]
 rotate_left
 intro w base F p pw hbw D hr hr3 h g s nx ep hf hfo o hk sp cap ho
 have hE : filF D s nx ep o = (D, s, nx, { an0 with s := s }) := by unfold filF; rw [if_neg (by rw [hk]; decide), if_pos hk]
 rotate_left
 intro w base F p pw hbw D hr hr3 h g s nx ep hf hfo o hk sp cap ho
 have hE : filF D s nx ep o = (D, s, nx, { an0 with n := nx }) := by unfold filF; rw [if_neg (by rw [hk]; decide), if_neg (by rw [hk]; decide), if_pos hk]
 rotate_left
 intro w base F p pw hbw D hr hr3 h g s nx ep hf hfo o hk sp cap ho
 have hE : filF D s nx ep o = (D, s, s.ma, an0) := by unfold filF; rw [if_neg (by rw [hk]; decide), if_neg (by rw [hk]; decide), if_neg (by rw [hk]; decide), if_pos hk]
 rotate_left
 all_goals
  rw [hE]
  have hP := Pro.mk' w o (.slice sp o.raw.length cap)
  have hLT : ∀ k ∈ F, k < w.heap.size := fun k hk => (h.lt k hk).2
  have k0 := hP.cell 0
  obtain ⟨w2, hw2⟩ : ∃ w2, w2 = (w.alloc (.cells (o.C (.slice sp o.raw.length cap)) 37)).alloc (.cells zzA 43) := ⟨_, rfl⟩
  have hW2 := hid hw2
  rw [← hw2] at hP
  have h2 := h.below hP.bl
  have f2 := hf.below hP.bl
  have HGW := hid (hlt_ hf)
  have o2 := ho.below hP.bl
  have hb2 : base ≤ w2.heap.size := Nat.le_trans hbw hP.bl.size
 have HC := hid (Live_any w2 base F p D h2 g s nx ep f2)
 generalize liveF D ep = lv at *
 rotate_left
 have HC := hid (FSuper_any w2 g p s nx ep f2)
 rotate_left
 have HC := hid (FNext_any w2 g p s nx ep f2)
 rotate_left
 have HC := hid (Forget_any w2 base F p D h2 g s nx ep f2)
 rotate_left
 all_goals
  have HP := hid hP
  have HLT := hid hLT
  have H2 := hid h2
  have HF2 := hid f2
  clear hf f2 hfo hr hr3 h ho h2 o2 hP hLT hE hw2
 replace k0 : ((w.alloc (.cells (o.C (.slice sp o.raw.length cap)) 37)).alloc (.cells zzA 43)).cell? ⟨w.heap.size, 0, none⟩ = some (.int .i64 3) := by rw [← hk]; exact k0
 rotate_left
 replace k0 : ((w.alloc (.cells (o.C (.slice sp o.raw.length cap)) 37)).alloc (.cells zzA 43)).cell? ⟨w.heap.size, 0, none⟩ = some (.int .i64 4) := by rw [← hk]; exact k0
 rotate_left
 replace k0 : ((w.alloc (.cells (o.C (.slice sp o.raw.length cap)) 37)).alloc (.cells zzA 43)).cell? ⟨w.heap.size, 0, none⟩ = some (.int .i64 5) := by rw [← hk]; exact k0
 rotate_left
 replace k0 : ((w.alloc (.cells (o.C (.slice sp o.raw.length cap)) 37)).alloc (.cells zzA 43)).cell? ⟨w.heap.size, 0, none⟩ = some (.int .i64 6) := by rw [← hk]; exact k0
 rotate_left
 all_goals
  clear hk
  go_enter Tryz.func21, Tryz.ntmps21
 · go_wp2_with (first
     | refine wpList_box_op rfl (.tmp 2) rfl o sp o.raw.length cap rfl ?_
     | (go_at_call 58; rw [← hW2.out]; refine HC.out.mono ?_; rintro e w3 ⟨rfl, hB⟩; have HB := hid hB; have HAN := hid ((hB.block _ (by have := HP.out.sz; omega)).trans HP.out.an); clear hB)
     | refine wpA_0 rfl (.tmp 20) rfl lv rfl ?_
     | (refine wpList_store_row rfl 43 (.tmp 6) _ rfl (w.heap.size + 1) (ansC lv 0 (.slice none 0 0) sup0 0 0 0 0) (by first | rfl | simp [Act.eval]) rfl 43 zzA (HAN.out) (ansN _ _ _ _ _ _ _ _) rfl (ansO _ _ _ _ _ _ _ _ _ _) ?_))
   refine bodyPost_ret (v := .tuple #[.agg (ansC lv 0 (.slice none 0 0) sup0 0 0 0 0), .bool true]) (results_c2 Tryz.results21 _ _ (w.heap.size + 1) 43 _ _ _ (by first | rfl | simp) (setRow_heap _ _ _ _ _ _ (HAN.out)) Tryz.underlying43 rfl (ansN _ _ _ _ _ _ _ _)) rfl ?_
   exact ⟨⟨.slice none 0 0, rfl, HP.out.own ((Own.nil _ _)) _⟩, HP.out.endN HLT.out HGW.out (NxF.below H2.out HF2.out HB.out) _⟩
 · go_wp2_with (first
     | refine wpList_box_op rfl (.tmp 2) rfl o sp o.raw.length cap rfl ?_
     | (go_at_call 59; rw [← hW2.out]; refine HC.out.mono ?_; rintro e w3 ⟨rfl, hB⟩; have HB := hid hB; have HAN := hid ((hB.block _ (by have := HP.out.sz; omega)).trans HP.out.an); clear hB)
     | refine wpA_3 rfl (.tmp 25) rfl s rfl ?_
     | (refine wpList_store_row rfl 43 (.tmp 6) _ rfl (w.heap.size + 1) (ansC 0 0 (.slice none 0 0) s 0 0 0 0) (by first | rfl | simp [Act.eval]) rfl 43 zzA (HAN.out) (ansN _ _ _ _ _ _ _ _) rfl (ansO _ _ _ _ _ _ _ _ _ _) ?_))
   refine bodyPost_ret (v := .tuple #[.agg (ansC 0 0 (.slice none 0 0) s 0 0 0 0), .bool true]) (results_c2 Tryz.results21 _ _ (w.heap.size + 1) 43 _ _ _ (by first | rfl | simp) (setRow_heap _ _ _ _ _ _ (HAN.out)) Tryz.underlying43 rfl (ansN _ _ _ _ _ _ _ _)) rfl ?_
   exact ⟨⟨.slice none 0 0, rfl, HP.out.own ((Own.nil _ _)) _⟩, HP.out.endN HLT.out HGW.out (NxF.below H2.out HF2.out HB.out) _⟩
 · go_wp2_with (first
     | refine wpList_box_op rfl (.tmp 2) rfl o sp o.raw.length cap rfl ?_
     | (go_at_call 60; rw [← hW2.out]; refine HC.out.mono ?_; rintro e w3 ⟨rfl, rfl⟩)
     | refine wpA_1 rfl (.tmp 30) rfl nx rfl ?_
     | (refine wpList_store_row rfl 43 (.tmp 6) _ rfl (w.heap.size + 1) (ansC 0 nx (.slice none 0 0) sup0 0 0 0 0) (by first | rfl | simp [Act.eval]) rfl 43 zzA (HP.out.an) (ansN _ _ _ _ _ _ _ _) rfl (ansO _ _ _ _ _ _ _ _ _ _) ?_))
   refine bodyPost_ret (v := .tuple #[.agg (ansC 0 nx (.slice none 0 0) sup0 0 0 0 0), .bool true]) (results_c2 Tryz.results21 _ _ (w.heap.size + 1) 43 _ _ _ (by first | rfl | simp) (setRow_heap _ _ _ _ _ _ (HP.out.an)) Tryz.underlying43 rfl (ansN _ _ _ _ _ _ _ _)) rfl ?_
   exact ⟨⟨.slice none 0 0, rfl, HP.out.own ((Own.nil _ _)) _⟩, HP.out.endN HLT.out HGW.out (NxF.refl H2.out HF2.out) _⟩
 · go_wp2_with (first
     | refine wpList_box_op rfl (.tmp 2) rfl o sp o.raw.length cap rfl ?_
     | (go_at_call 61; rw [← hW2.out]; refine HC.out.mono ?_; rintro e w3 ⟨rfl, x1, x2, x3⟩; have HX := hid (show NxF base F p g w2 D s s.ma ep w3 from ⟨F, x1, x2, x3, Gr.refl _ _⟩); have HAN := hid (HP.out.keepG HLT.out HGW.out x3); clear x1 x2 x3)
     | refine wpA_z rfl rfl ?_
     | (refine wpList_store_row rfl 43 (.tmp 6) _ rfl (w.heap.size + 1) (ansC 0 0 (.slice none 0 0) sup0 0 0 0 0) (by first | rfl | simp [Act.eval]) rfl 43 zzA (HAN.out) (ansN _ _ _ _ _ _ _ _) rfl (ansO _ _ _ _ _ _ _ _ _ _) ?_))
   refine bodyPost_ret (v := .tuple #[.agg (ansC 0 0 (.slice none 0 0) sup0 0 0 0 0), .bool true]) (results_c2 Tryz.results21 _ _ (w.heap.size + 1) 43 _ _ _ (by first | rfl | simp) (setRow_heap _ _ _ _ _ _ (HAN.out)) Tryz.underlying43 rfl (ansN _ _ _ _ _ _ _ _)) rfl ?_
   exact ⟨⟨.slice none 0 0, rfl, HP.out.own ((Own.nil _ _)) _⟩, HP.out.endN HLT.out HGW.out HX.out _⟩
theorem own1 : (∀ (w : World) (base : Nat) (F : List Nat) (p pw : Nat) (hbw : base ≤ w.heap.size) (D : DS) (hr : Rm D) (hr3 : D.ops.length + 3 < 400000000000 ∧ D.writes + 3 < 4000000000000000000 ∧ D.syncs + 3 < 4000000000000000000) (h : DA w base F p D) (g : Nat) (s : Sup) (nx ep : Int) (hf : FK w g p s nx ep) (hfo : FiOk D s nx) (o : OP) (hk : o.kd = 8) (sp : Option Addr) (cap : Nat) (ho : OpOk w o sp cap), Calls Tryz.prog 21 #[.pointer (some ⟨pw, 0, none⟩), .pointer (some ⟨g, 0, none⟩), .agg (o.C (.slice sp o.raw.length cap))] w fun e w' => Told2 w.heap.size w' (filF D s nx ep o).2.2.2 true e ∧ NxF base F p g w (filF D s nx ep o).1 (filF D s nx ep o).2.1 (filF D s nx ep o).2.2.1 ep w') ∧ (∀ (w : World) (base : Nat) (F : List Nat) (p pw : Nat) (hbw : base ≤ w.heap.size) (D : DS) (hr : Rm D) (hr3 : D.ops.length + 3 < 400000000000 ∧ D.writes + 3 < 4000000000000000000 ∧ D.syncs + 3 < 4000000000000000000) (h : DA w base F p D) (g : Nat) (s : Sup) (nx ep : Int) (hf : FK w g p s nx ep) (hfo : FiOk D s nx) (o : OP) (hk : o.kd = 9) (sp : Option Addr) (cap : Nat) (ho : OpOk w o sp cap), Calls Tryz.prog 21 #[.pointer (some ⟨pw, 0, none⟩), .pointer (some ⟨g, 0, none⟩), .agg (o.C (.slice sp o.raw.length cap))] w fun e w' => Told2 w.heap.size w' (filF D s nx ep o).2.2.2 true e ∧ NxF base F p g w (filF D s nx ep o).1 (filF D s nx ep o).2.1 (filF D s nx ep o).2.2.1 ep w') := by
 refine ⟨?_, ?_⟩
 intro w base F p pw hbw D hr hr3 h g s nx ep hf hfo o hk sp cap ho
 have hE : filF D s nx ep o = ((frdF D nx ep o.n).1, s, nx, { an0 with e := (frdF D nx ep o.n).2.2.2, n := (frdF D nx ep o.n).2.1, raw := (frdF D nx ep o.n).2.2.1 }) := by unfold filF; rw [if_neg (by rw [hk]; decide), if_neg (by rw [hk]; decide), if_neg (by rw [hk]; decide), if_neg (by rw [hk]; decide), if_neg (by rw [hk]; decide), if_pos hk]
 rotate_left
 intro w base F p pw hbw D hr hr3 h g s nx ep hf hfo o hk sp cap ho
 have hE : filF D s nx ep o = ((pubF D s nx ep o.n).1, (pubF D s nx ep o.n).2.1, nx, { an0 with e := (pubF D s nx ep o.n).2.2 }) := by unfold filF; rw [if_neg (by rw [hk]; decide), if_neg (by rw [hk]; decide), if_neg (by rw [hk]; decide), if_neg (by rw [hk]; decide), if_neg (by rw [hk]; decide), if_neg (by rw [hk]; decide), if_pos hk]
 rotate_left
 all_goals
  rw [hE]
  have hP := Pro.mk' w o (.slice sp o.raw.length cap)
  have hLT : ∀ k ∈ F, k < w.heap.size := fun k hk => (h.lt k hk).2
  have k0 := hP.cell 0
  have k4 := hP.cell 4
  obtain ⟨w2, hw2⟩ : ∃ w2, w2 = (w.alloc (.cells (o.C (.slice sp o.raw.length cap)) 37)).alloc (.cells zzA 43) := ⟨_, rfl⟩
  have hW2 := hid hw2
  rw [← hw2] at hP
  have h2 := h.below hP.bl
  have f2 := hf.below hP.bl
  have HGW := hid (hlt_ hf)
  have o2 := ho.below hP.bl
  have hb2 : base ≤ w2.heap.size := Nat.le_trans hbw hP.bl.size
 have HC := hid (FRead_any w2 base F p D h2 g s nx ep f2 hfo.hi (by have := hr.rd; omega) o.n)
 generalize frdF D nx ep o.n = Y at *
 rotate_left
 have HC := hid (Publish_any w2 base F p D h2 hb2 g s nx ep f2 hfo.va ⟨hfo.lo, by rw [hfo.pg]; exact hfo.hi⟩ o.n hr3.1 hr3.2.1 hr3.2.2)
 generalize pubF D s nx ep o.n = Y at *
 rotate_left
 all_goals
  have HP := hid hP
  have HLT := hid hLT
  have H2 := hid h2
  have HF2 := hid f2
  clear hf f2 hfo hr hr3 h ho h2 o2 hP hLT hE hw2
 replace k0 : ((w.alloc (.cells (o.C (.slice sp o.raw.length cap)) 37)).alloc (.cells zzA 43)).cell? ⟨w.heap.size, 0, none⟩ = some (.int .i64 8) := by rw [← hk]; exact k0
 rotate_left
 replace k0 : ((w.alloc (.cells (o.C (.slice sp o.raw.length cap)) 37)).alloc (.cells zzA 43)).cell? ⟨w.heap.size, 0, none⟩ = some (.int .i64 9) := by rw [← hk]; exact k0
 rotate_left
 all_goals
  replace k4 : ((w.alloc (.cells (o.C (.slice sp o.raw.length cap)) 37)).alloc (.cells zzA 43)).cell? ⟨w.heap.size, 4, none⟩ = some (.int .i64 o.n) := k4
  clear hk
  go_enter Tryz.func21, Tryz.ntmps21
 · go_wp2_with (first
     | refine wpList_box_op rfl (.tmp 2) rfl o sp o.raw.length cap rfl ?_
     | (go_at_call 65; rw [← hW2.out]; refine HC.out.mono ?_; rintro e w3 ⟨v, rfl, hO, x1, x2, x3⟩; have HX := hid (show NxF base F p g w2 Y.1 s nx ep w3 from ⟨F, x1, x2, x3.wide g, Gr.refl _ _⟩); have HAN := hid (HP.out.keep HLT.out x3); have HO := hid hO; obtain ⟨sv, cv, hv, _, _⟩ := hO.form; subst hv; clear hO x1 x2 x3)
     | refine wpA_012 rfl (.tmp 85) (.tmp 86) (.tmp 87) rfl Y.2.2.2 Y.2.1 sv Y.2.2.1.length cv rfl rfl rfl ?_
     | (refine wpList_store_row rfl 43 (.tmp 6) _ rfl (w.heap.size + 1) (ansC Y.2.2.2 Y.2.1 (.slice sv Y.2.2.1.length cv) sup0 0 0 0 0) (by first | rfl | simp [Act.eval]) rfl 43 zzA (HAN.out) (ansN _ _ _ _ _ _ _ _) rfl (ansO _ _ _ _ _ _ _ _ _ _) ?_))
   refine bodyPost_ret (v := .tuple #[.agg (ansC Y.2.2.2 Y.2.1 (.slice sv Y.2.2.1.length cv) sup0 0 0 0 0), .bool true]) (results_c2 Tryz.results21 _ _ (w.heap.size + 1) 43 _ _ _ (by first | rfl | simp) (setRow_heap _ _ _ _ _ _ (HAN.out)) Tryz.underlying43 rfl (ansN _ _ _ _ _ _ _ _)) rfl ?_
   exact ⟨⟨_, rfl, HP.out.own (HO.out) _⟩, HP.out.endN HLT.out HGW.out HX.out _⟩
 · go_wp2_with (first
     | refine wpList_box_op rfl (.tmp 2) rfl o sp o.raw.length cap rfl ?_
     | (go_at_call 66; rw [← hW2.out]; refine HC.out.mono ?_; rintro e w3 ⟨rfl, hX⟩; have HX := hid hX; have HAN := hid (HP.out.keepG HLT.out HGW.out hX.choose_spec.2.2.1); clear hX)
     | refine wpA_0 rfl (.tmp 94) rfl Y.2.2 rfl ?_
     | (refine wpList_store_row rfl 43 (.tmp 6) _ rfl (w.heap.size + 1) (ansC Y.2.2 0 (.slice none 0 0) sup0 0 0 0 0) (by first | rfl | simp [Act.eval]) rfl 43 zzA (HAN.out) (ansN _ _ _ _ _ _ _ _) rfl (ansO _ _ _ _ _ _ _ _ _ _) ?_))
   refine bodyPost_ret (v := .tuple #[.agg (ansC Y.2.2 0 (.slice none 0 0) sup0 0 0 0 0), .bool true]) (results_c2 Tryz.results21 _ _ (w.heap.size + 1) 43 _ _ _ (by first | rfl | simp) (setRow_heap _ _ _ _ _ _ (HAN.out)) Tryz.underlying43 rfl (ansN _ _ _ _ _ _ _ _)) rfl ?_
   exact ⟨⟨.slice none 0 0, rfl, HP.out.own ((Own.nil _ _)) _⟩, HP.out.endN HLT.out HGW.out HX.out _⟩
structure Own7 (base : Nat) (F : List Nat) (p pw g : Nat) (Dv Fv Rv : Value) (w : World) (D' : DS) (s : Sup) (nx ep : Int) (w' : World) : Prop where
 it : ∃ F' Rv' rm', DA w' base F' p D' ∧ FK w' g p s nx ep ∧ WK w' pw Dv Fv Rv' ∧ Own w' base Rv' rm' ∧ 1 ≤ rm'.length ∧ rm'.length ≤ 10000000 ∧ Gr w F F' ∧ ∀ k, Rv'.ownBlock = some k → (Rv.ownBlock = some k ∨ w.heap.size ≤ k) ∧ k ∉ F'
 os : w'.os = w.os
 tape : w'.tape = w.tape
 output : w'.output = w.output
 size : w.heap.size ≤ w'.heap.size
 block : ∀ k, k < w.heap.size → k ≠ pw → k ≠ g → Rv.ownBlock ≠ some k → k ∉ F → w'.heap[k]? = w.heap[k]?
theorem src_room {w : World} {base R L rc : Nat} {raw : List Int} (hO : Own w base (.slice (some ⟨R, 0, none⟩) L rc) (lentF raw L)) (hn : raw.length + 100 ≤ L) : Src w (some ⟨R, 0, none⟩) rc raw ∧ ∃ rest, w.heap[R]? = some (.cells (ints .u8 (lentF raw L) ++ rest).toArray 5 (0, 0)) ∧ L ≤ rc ∧ rc ≤ maxLen ∧ L + rest.length = rc ∧ base ≤ R := by
 have hT := lentF_len raw L (by omega)
 obtain ⟨R', rc', rest, hRv, hRb, hRh, hc1, hc2, hc3⟩ := own_in' hO (by omega)
 simp only [Value.slice.injEq, Option.some.injEq, Addr.mk.injEq, and_true] at hRv
 obtain ⟨rfl, -, rfl⟩ := hRv
 rw [hT] at hc1 hc3
 refine ⟨⟨by omega, hc2, R, 0, fun _ => hlt_ hRh, fun _ => rfl, fun j hj => ?_⟩, rest, hRh, hc1, hc2, hc3, hRb⟩
 rw [Nat.zero_add, cell_rows hRh j (by rw [hT]; omega), lentF_lo raw L j hj]
theorem own_7 (w : World) (base : Nat) (F : List Nat) (p pw : Nat) (hbw : base ≤ w.heap.size) (D : DS) (hr : Rm D) (h : DA w base F p D) (g : Nat) (s : Sup) (q : Nat) (ep : Int) (hf : FK w g p s q ep) (hq : 2 ≤ q ∧ q ≤ D.np) (Dv Fv Rv : Value) (rm : List Int) (hW : WK w pw Dv Fv Rv) (hO : Own w base Rv rm) (hrm : 1 ≤ rm.length ∧ rm.length ≤ 10000000) (hRF : ∀ k, Rv.ownBlock = some k → k ∉ F) (hgb : base ≤ g) (hpb : base ≤ pw) (o : OP) (hk : o.kd = 7) (sp : Option Addr) (cap : Nat) (ho : OpOk w o sp cap) (hsb : ∀ a, 0 < o.raw.length → sp = some a → a.block < base) :
   Calls Tryz.prog 21 #[.pointer (some ⟨pw, 0, none⟩), .pointer (some ⟨g, 0, none⟩), .agg (o.C (.slice sp o.raw.length cap))] w fun e w' => Told2 w.heap.size w' { an0 with e := (appF D q ep o.n o.raw).2.2.2, n := (appF D q ep o.n o.raw).2.2.1 } true e ∧ Own7 base F p pw g Dv Fv Rv w (appF D q ep o.n o.raw).1 s (appF D q ep o.n o.raw).2.1 ep w' := by
 have hP := Pro.mk' w o (.slice sp o.raw.length cap)
 have hLT : ∀ k ∈ F, k < w.heap.size := fun k hk => (h.lt k hk).2
 have k0 := hP.cell 0
 obtain ⟨w2, hw2⟩ : ∃ w2, w2 = (w.alloc (.cells (o.C (.slice sp o.raw.length cap)) 37)).alloc (.cells zzA 43) := ⟨_, rfl⟩
 have hW2 := hid hw2
 rw [← hw2] at hP
 have h2 := h.below hP.bl
 have o2 := ho.below hP.bl
 have hb2 : base ≤ w2.heap.size := Nat.le_trans hbw hP.bl.size
 have hRl : ∀ k, Rv.ownBlock = some k → base ≤ k ∧ k < w.heap.size := hO.block
 have hpl : pw < w.heap.size := hlt_ hW
 have hgl : g < w.heap.size := hlt_ hf
 have hpF : pw ∉ F := h.not_in hW (by decide) (by decide) (by decide)
 have hgF : g ∉ F := hf.not h
 have hpg : pw ≠ g := ne_ty hW hf (by decide)
 have hgR : Rv.ownBlock ≠ some g := fun e => by obtain ⟨_, cur, hh⟩ := ownsRow_block hO _ e; exact ne_ty hh hf (by decide) rfl
 have hpR : Rv.ownBlock ≠ some pw := fun e => by obtain ⟨_, cur, hh⟩ := ownsRow_block hO _ e; exact ne_ty hh hW (by decide) rfl
 have HLN := hid (lent_any w2.drew base hb2 pw Dv Fv Rv rm (hW.below' hP.bl.drew) ((hO.below hP.bl (Nat.le_refl _)).below (Below.refl _ w2).drew (Nat.le_refl _)) hrm o.raw o2.len sp cap (o2.src.below (Below.refl _ w2).drew (Nat.le_refl _)) (fun a h0 e => ⟨(fun c => by have := hsb a h0 e; have := (hRl _ c).1; omega), by have := hsb a h0 e; omega⟩))
 have HAP := hid (fun (w3 : World) (R L rc : Nat) (hsz : w2.drew.heap.size ≤ w3.heap.size) (hbl : ∀ k, k < w2.drew.heap.size → k ≠ pw → Rv.ownBlock ≠ some k → w3.heap[k]? = w2.drew.heap[k]?) (hO3 : Own w3 base (.slice (some ⟨R, 0, none⟩) L rc) (lentF o.raw L)) (hn3 : o.raw.length + 100 ≤ L) => Append_any w3 base F p D (h2.of_heap fun k hk => hbl k (h2.lt k hk).2 (fun e => hpF (e ▸ hk)) (fun e => hRF k e hk)) (Nat.le_trans hb2 hsz) g s ep q ((hbl g (Nat.lt_of_lt_of_le hgl hP.bl.size) (Ne.symm hpg) hgR).trans (hf.below hP.bl.drew)) hq o.n o.raw o2.bts (some ⟨R, 0, none⟩) rc (src_room hO3 hn3).1 hr.ops hr.wr)
 generalize appF D q ep o.n o.raw = Y at *
 have HP := hid hP
 have HLT := hid hLT
 obtain ⟨O, hOO⟩ : ∃ O, O = w.heap.size := ⟨_, rfl⟩
 have HOE := hid hOO
 have HOP := hid (show w2.heap[O]? = some (.cells (o.C (.slice sp o.raw.length cap)) 37 (0, 0)) by rw [hOO]; exact HP.out.op)
 have HOL := hid (show O < w2.heap.size by rw [HP.out.sz]; omega)
 have HOPW := hid (show O ≠ pw by omega)
 have HORV := hid (show Rv.ownBlock ≠ some O from fun e => by have := (hRl _ e).2; omega)
 have HOG := hid (show O ∉ g :: F from fun e => by rcases List.mem_cons.1 e with c | c; omega; have := hLT _ c; omega)
 have HFA := hid (And.intro hpF (And.intro hgF (And.intro hpg (And.intro hgR (And.intro hpR (And.intro hRF (And.intro hRl (And.intro hpl hgl))))))))
 have HSB := hid hsb
 have HSRC := hid ho
 have HBB := hid (And.intro hbw (And.intro hgb hpb))
 have HFB := hid (fun k (hk : k ∈ F) => (h.lt k hk).1)
 replace k0 : ((w.alloc (.cells (o.C (.slice sp o.raw.length cap)) 37)).alloc (.cells zzA 43)).cell? ⟨w.heap.size, 0, none⟩ = some (.int .i64 7) := by rw [← hk]; exact k0
 clear hk hr h ho h2 o2 hP hLT hw2 hW hO hf hOO hRF hRl hpl hgl hpF hgF hpg hgR hpR hsb
 go_enter Tryz.func21, Tryz.ntmps21
 go_wp2_with (first
   | refine wpList_box_op rfl (.tmp 2) rfl o sp o.raw.length cap rfl ?_)
 rw [← hW2.out, ← HOE.out]
 refine rgA (fun w' => w'.heap[O]? = some (.cells (o.C (.slice sp o.raw.length cap)) 37 (0, 0))) HOP.out (fun hq0 => ?_)
 refine tkA 0 (.pointer (some ⟨g, 0, none⟩)) rfl hq0 ?_
 go_frame
 refine tkA 1 (.pointer (some ⟨O, 4, none⟩)) rfl hq0 ?_
 go_frame
 refine tkA 3 (.pointer (some ⟨pw, 0, none⟩)) rfl hq0 ?_
 go_frame
 refine tkA 4 (.pointer (some ⟨O, 6, none⟩)) rfl hq0 ?_
 go_frame
 refine tqA 2 (.int .i64 o.n) rfl (yA (by intro w hS; have hc := (show w.cell? ⟨O, 4, none⟩ = some (.int .i64 o.n) from op_cell hS 4); go_simp)) hq0 ?_
 go_frame
 refine tqA 5 (.slice sp o.raw.length cap) rfl (yA (by intro w hS; have hc := (show w.cell? ⟨O, 6, none⟩ = some (.slice sp o.raw.length cap) from op_cell hS 6); go_simp)) hq0 ?_
 go_frame
 refine rdA 6 rfl (fun K hK => ?_)
 go_simp
 go_at_call 63
 refine (HLN.out).mono ?_
 rintro e w3 ⟨⟨R, L, rc, rfl, hW3, hO3, hn3, hL3, hR3⟩, hos, htp, hou, hsz, hbl⟩
 have HW3 := hid hW3
 have HO3 := hid hO3
 have HNL := hid (And.intro hn3 hL3)
 have HR3 := hid hR3
 have HBL3 := hid hbl
 have HSZ3 := hid hsz
 have HOS3 := hid (And.intro hos (And.intro htp hou))
 clear hW3 hO3 hn3 hL3 hR3 hos htp hou hsz hbl
 go_wp2_with fail
 refine hK.out _ _ ((HBL3.out O HOL.out HOPW.out HORV.out).trans hq0) ?_
 clear hK K hq0
 intro hq0
 try go_frame
 refine rdA 7 rfl (fun K hK => ?_)
 go_simp
 go_at_call 62
 refine (HAP.out w3 R L rc HSZ3.out HBL3.out HO3.out HNL.out.1).mono ?_
 rintro e w4 ⟨rfl, F4, hD4, hF4, hFr4, hG4⟩
 have HD4 := hid hD4
 have HF4 := hid hF4
 have HFr4 := hid hFr4
 have HG4 := hid hG4
 clear hD4 hF4 hG4
 go_wp2_with fail
 refine hK.out _ _ (hFr4.keep hq0 HOG.out) ?_
 clear hK K hq0
 intro hq0
 try go_frame
 refine tkA 8 (.tuple #[.int .i64 Y.2.2.1, .int .i64 Y.2.2.2]) rfl hq0 ?_
 go_frame
 refine tkA 9 (.int .i64 Y.2.2.1) rfl hq0 ?_
 go_frame
 refine tkA 10 (.int .i64 Y.2.2.2) rfl hq0 ?_
 go_frame
 refine tkA 11 (.int .i64 Y.2.2.1) rfl hq0 ?_
 go_frame
 refine tkA 12 (.int .i64 Y.2.2.2) rfl hq0 ?_
 go_frame
 refine wdA ?_
 have HOP4 := hid (show w4.heap[O]? = some (.cells (o.C (.slice sp o.raw.length cap)) 37 (0, 0)) from hq0)
 have k6 : w4.cell? ⟨O, 6, none⟩ = some (.slice sp o.raw.length cap) := op_cell HOP4.out 6
 obtain ⟨hpF, hgF, hpg, hgR, hpR, hRF, hRl, hpl, hgl⟩ := HFA.out
 have hRnew : R ∉ g :: F ∧ R ≠ pw ∧ R ≠ O ∧ R ≠ O + 1 ∧ base ≤ R := by
   have hb := (src_room HO3.out HNL.out.1).2.choose_spec.2.2.2.2
   have hOe := HOE.out
   have hs2 := HP.out.sz
   rcases HR3.out with e | e
   · have := hRl R e
     exact ⟨(fun c => by rcases List.mem_cons.1 c with c | c; exact hgR (c ▸ e); exact hRF R e c), (fun c => hpR (c ▸ e)), by omega, by omega, hb⟩
   · have e : w2.heap.size ≤ R := e
     exact ⟨(fun c => by rcases List.mem_cons.1 c with c | c; omega; have := HLT.out R c; omega), by omega, by omega, by omega, hb⟩
 have HRN := hid hRnew
 have hFr4 := HFr4.out
 have hW4 : WK w4 pw Dv Fv (.slice (some ⟨R, 0, none⟩) L rc) := hFr4.keep HW3.out (fun c => by rcases List.mem_cons.1 c with c | c; exact hpg c; exact hpF c)
 have hO4 : Own w4 base (.slice (some ⟨R, 0, none⟩) L rc) (lentF o.raw L) := HO3.out.of_heap fun k e => by
   have : R = k := by simpa [Value.ownBlock] using e
   subst this
   exact hFr4.block R ((HO3.out.block R e).2) hRnew.1
 have hbelow : ∀ k, k < base → w4.heap[k]? = w.heap[k]? := fun k hk => by
   have hbw := HBB.out
   rw [hFr4.block k (by have := HSZ3.out; have h0 : w2.drew.heap.size = w2.heap.size := rfl; have := HP.out.sz; omega) (fun c => by rcases List.mem_cons.1 c with c | c; omega; have := HFB.out k c; omega), HBL3.out k (by show k < w2.heap.size; have := HP.out.sz; omega) (by omega) (fun e => by have := (hRl k e).1; omega)]
   exact HP.out.bl.block k (by omega)
 have hS4 : Src w4 sp cap o.raw := by
   obtain ⟨x1, x2, b, oo, x3, x4, x5⟩ := HSRC.out.src
   have hs4 : w.heap.size ≤ w4.heap.size := by have := HSZ3.out; have h0 : w2.drew.heap.size = w2.heap.size := rfl; have := HP.out.sz; have := hFr4.size; omega
   refine ⟨x1, x2, b, oo, fun h0 => Nat.lt_of_lt_of_le (x3 h0) hs4, x4, fun j hj => ?_⟩
   rw [← x5 j hj]; unfold World.cell?
   rw [show w4.heap[(⟨b, oo + j, none⟩ : Addr).block]? = w.heap[(⟨b, oo + j, none⟩ : Addr).block]? from hbelow b (HSB.out _ (by omega) (x4 (by omega)))]
 have HKT := hid (kept_any w4 pw Dv Fv R L rc o.raw base hW4 hO4 HNL.out.1 HNL.out.2 sp cap hS4)
 have HW4 := hid hW4
 have HO4 := hid hO4
 have HAN4 := hid (show w4.heap[O + 1]? = some (.cells zzA 43 (0, 0)) from by
   have hOe := HOE.out
   rw [hFr4.block (O + 1) (by have := HSZ3.out; have h0 : w2.drew.heap.size = w2.heap.size := rfl; have := HP.out.sz; omega) (fun c => by rcases List.mem_cons.1 c with c | c; omega; have := HLT.out _ c; omega), HBL3.out (O + 1) (by show O + 1 < w2.heap.size; have := HP.out.sz; omega) (by omega) (fun e => by have := (hRl _ e).2; omega), hOe]
   exact HP.out.an)
 clear hRnew hFr4 hW4 hO4 hbelow hS4 hq0 hpF hgF hpg hgR hpR hRF hRl hpl hgl
 go_wp2_with (first | (go_at_call 64; refine HKT.out.mono ?_; rintro e w5 ⟨rfl, hB5⟩; have HB5 := hid hB5; clear hB5))
 obtain ⟨-, rest, hRh4, hLrc, hrcm, hLre, hRb⟩ := src_room HO4.out HNL.out.1
 have hR4 : R < w4.heap.size := hlt_ hRh4
 have HR5 := hid (show w5.heap[R]? = some (.cells (ints .u8 (lentF o.raw L) ++ rest).toArray 5 (0, 0)) from (HB5.out.block R hR4).trans hRh4)
 have HTL := hid (lentF_len o.raw L (by have := HNL.out.1; omega))
 have HRC := hid (And.intro hLrc (And.intro hrcm (And.intro hLre (And.intro hRb hR4))))
 have HW5 := hid (HW4.out.below' HB5.out)
 have HPR := hid (show pw < w5.heap.size ∧ pw ≠ R from ⟨hlt_ HW5.out, Ne.symm HRN.out.2.1⟩)
 have HAN5 := hid ((HB5.out.block (O + 1) (hlt_ HAN4.out)).trans HAN4.out)
 have i2 : (L : Int) ≤ 10000000 := by have := HNL.out.2; omega
 have i3 : (L : Int) ≤ (rc : Int) := by omega
 clear hRh4 hLrc hrcm hLre hRb hR4
 go_loopw [11] (fun iv w6 => ∃ i : Nat, i ≤ L ∧ iv = .int .i64 i ∧ (∃ zs : List Int, zs.length = L ∧ w6.heap[R]? = some (.cells (ints .u8 zs ++ rest).toArray 5 (0, 0))) ∧ Kps R w5 w6) (fun iv _ => L - (intOf iv).toNat)
 case atStart => exact ⟨0, by omega, rfl, ⟨_, HTL.out, HR5.out⟩, Kps.refl _ _⟩
 case round =>
   obtain ⟨w6, hw6⟩ : ∃ w6, w6 = wr := ⟨_, rfl⟩
   subst hw6
   obtain ⟨i, hi, rfl, ⟨zs, hzl, hr6⟩, hK6⟩ := hrel
   have c2 : w6.cell? ⟨pw, 2, none⟩ = some (.slice (some ⟨R, 0, none⟩) L rc) := hK6.cellK ⟨pw, 2, none⟩ HPR.out HW5.out.c2
   by_cases hlt1 : i < L
   · have j1 : (i : Int) < (L : Int) := by omega
     have kR1 := cell_rows hr6 i (by rw [hzl]; exact hlt1)
     have fR1 := frozen_of_row _ _ i _ _ hr6
     have HST := hid (fun x : Int => set_rows hr6 i (by rw [hzl]; exact hlt1) x)
     have HK6 := hid hK6
     have HZL := hid hzl
     generalize zs.getD i 0 = y at *
     clear hr6 hK6 hzl
     go_wp2
     go_roundw
     case rel => exact ⟨i + 1, by omega, by go_num, ⟨zs.set i _, by rw [List.length_set]; exact HZL.out, HST.out _⟩, HK6.out.setAt i _⟩
     case measure => simp [intOf]; omega
   · obtain rfl : i = L := by omega
     have HAN6 := hid ((hK6.block (O + 1) (hlt_ HAN5.out) (Ne.symm HRN.out.2.2.2.1)).trans HAN5.out)
     have HR6 := hid hr6
     have HK6 := hid hK6
     have HZL := hid hzl
     clear hlt1 hr6 hK6 hzl
     go_wp2_with (first
       | refine wpA_01 rfl (.tmp 71) (.tmp 72) rfl Y.2.2.2 Y.2.2.1 rfl rfl ?_
       | (refine wpList_store_row rfl 43 (.tmp 6) _ rfl (O + 1) (ansC Y.2.2.2 Y.2.2.1 (.slice none 0 0) sup0 0 0 0 0) rfl rfl 43 zzA HAN6.out (ansN _ _ _ _ _ _ _ _) rfl (ansO _ _ _ _ _ _ _ _ _ _) ?_))
     refine bodyPost_ret (v := .tuple #[.agg (ansC Y.2.2.2 Y.2.2.1 (.slice none 0 0) sup0 0 0 0 0), .bool true]) (results_c2 Tryz.results21 _ _ (O + 1) 43 _ _ _ rfl (setRow_heap _ _ _ _ _ _ HAN6.out) Tryz.underlying43 rfl (ansN _ _ _ _ _ _ _ _)) rfl ?_
     obtain ⟨hpF, hgF, hpg, hgR, hpR, hRF, hRl, hpl, hgl⟩ := HFA.out
     obtain ⟨hR1, hR2, hR3', hR4', hR5'⟩ := HRN.out
     have hOe := HOE.out
     have hs2 := HP.out.sz
     have hs3 : w2.heap.size ≤ w3.heap.size := HSZ3.out
     have hRlt : R < w3.heap.size := (HO3.out.block R rfl).2
     have hs4 := HFr4.out.size
     have k7 : ∀ cs : Array Value, ∀ k, k ≠ O + 1 → k ≠ R → k < w4.heap.size → (w6.setRow (O + 1) cs).heap[k]? = w4.heap[k]? := fun cs k h1 h2 h3 => by
       rw [setRow_other _ _ _ _ h1, HK6.out.block k (Nat.lt_of_lt_of_le h3 HB5.out.size) h2, HB5.out.block k h3]
     have k3 : ∀ k, k < w.heap.size → k ≠ pw → k ≠ g → Rv.ownBlock ≠ some k → k ∉ F → w4.heap[k]? = w.heap[k]? := fun k h1 h2 h3 h4 h5 => by
       rw [HFr4.out.block k (by omega) (fun c => by rcases List.mem_cons.1 c with c | c; exact h3 c; exact h5 c), HBL3.out k (by show k < w2.heap.size; omega) h2 h4]
       exact HP.out.bl.block k h1
     have hRF4 : R ∉ F4 := fun c => by
       rcases HG4.out R c with e | e
       · exact hR1 (List.mem_cons_of_mem _ e)
       · omega
     refine ⟨⟨.slice none 0 0, rfl, Own.nil _ _⟩, ⟨⟨F4, .slice (some ⟨R, 0, none⟩) i rc, zs, ?_, ?_, ?_, ?_, by have := HNL.out.1; have := HZL.out; omega, by have := HNL.out.2; have := HZL.out; omega, fun k hk => (HG4.out k hk).imp id (fun x => by omega), fun k e => ?_⟩, ?_, ?_, ?_, ?_, fun k h1 h2 h3 h4 h5 => ?_⟩⟩
     · exact HD4.out.of_heap fun k hk => k7 _ k (fun c => by rcases HG4.out k hk with e | e; have := HLT.out k e; omega; omega) (fun c => hRF4 (c ▸ hk)) (HD4.out.lt k hk).2
     · exact (k7 _ g (by omega) (fun c => hR1 (by rw [← c]; exact List.mem_cons_self)) (hlt_ HF4.out)).trans HF4.out
     · exact (k7 _ pw (by omega) (Ne.symm hR2) (hlt_ HW4.out)).trans HW4.out
     · have hrow : (w6.setRow (O + 1) (ansC Y.2.2.2 Y.2.2.1 (.slice none 0 0) sup0 0 0 0 0)).heap[R]? = some (.cells (ints .u8 zs ++ rest).toArray 5 (0, 0)) := by rw [setRow_other _ _ _ _ hR4']; exact HR6.out
       have := Own.row' (base := base) (cap := rc) hrow hR5' (by rw [HZL.out]; exact HRC.out.1) HRC.out.2.1 (by rw [HZL.out]; exact HRC.out.2.2.1)
       rw [HZL.out] at this; exact this
     · have : R = k := by simpa [Value.ownBlock] using e
       subst this
       refine ⟨?_, hRF4⟩
       rcases HR3.out with c | c
       · exact Or.inl c
       · exact Or.inr (by have c : w2.heap.size ≤ R := c; omega)
     · exact HK6.out.os.trans (HB5.out.os.trans (HFr4.out.os.trans (HOS3.out.1.trans HP.out.bl.os)))
     · exact HK6.out.tape.trans (HB5.out.tape.trans (HFr4.out.tape.trans (HOS3.out.2.1.trans HP.out.bl.drew.tape)))
     · exact HK6.out.output.trans (HB5.out.output.trans (HFr4.out.output.trans (HOS3.out.2.2.trans HP.out.bl.output)))
     · rw [setRow_size]; have := HK6.out.size; have := HB5.out.size; omega
     · rw [k7 _ k (by omega) (fun c => by
         subst c
         rcases HR3.out with e | e
         · exact h4 e
         · have e : w2.heap.size ≤ k := e
           omega) (by omega)]
       exact k3 k h1 h2 h3 h4 h5
end
end Go.Proofs.YtjhocjjecfdphaaGreatDoor
