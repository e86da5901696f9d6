import Derived.Test.YtjhocjjecfdphaaGreatDoorQ35
namespace Go.Proofs.YtjhocjjecfdphaaGreatDoor
set_option linter.unusedVariables false
set_option linter.unusedSimpArgs false
set_option maxRecDepth 100000
set_option maxHeartbeats 4000000
section
open Go.RowKit
attribute [local go_sem ↓] Go.wp_at_zero Go.wp_at_succ
def filF (D : DS) (s : Sup) (nx ep : Int) (o : OP) : DS × Sup × Int × AN :=
 if o.kd = 3 then (D, s, nx, { an0 with e := liveF D ep })
 else if o.kd = 4 then (D, s, nx, { an0 with s := s })
 else if o.kd = 5 then (D, s, nx, { an0 with n := nx })
 else if o.kd = 6 then (D, s, s.ma, an0)
 else if o.kd = 7 then ((appF D nx ep o.n o.raw).1, s, (appF D nx ep o.n o.raw).2.1, { an0 with e := (appF D nx ep o.n o.raw).2.2.2, n := (appF D nx ep o.n o.raw).2.2.1 })
 else if o.kd = 8 then ((frdF D nx ep o.n).1, s, nx, { an0 with e := (frdF D nx ep o.n).2.2.2, n := (frdF D nx ep o.n).2.1, raw := (frdF D nx ep o.n).2.2.1 })
 else if o.kd = 9 then ((pubF D s nx ep o.n).1, (pubF D s nx ep o.n).2.1, nx, { an0 with e := (pubF D s nx ep o.n).2.2 })
 else (D, s, nx, an0)
structure FiOk (D : DS) (s : Sup) (nx : Int) : Prop where
 va : validS s = true
 pg : s.pg = (D.np : Int)
 lo : s.ma ≤ nx
 hi : nx ≤ (D.np : Int)
theorem Pro.endF {w w2 w3 : World} {o : OP} {rv : Value} (h : Pro w w2 o rv) {base : Nat} {F : List Nat} {p m g : Nat} {D : DS} {s : Sup} {nx ep : Int} (hF : ∀ k ∈ F, k < w.heap.size) (hg : g < w.heap.size) (hx : RNF base F p g w2 m D s nx ep w3) (cs : Array Value) : RNF base F p g w m D s nx ep (w3.setRow (w.heap.size + 1) cs) := by
 obtain ⟨F', h1, h2, h3, h4⟩ := hx
 have hs := h.sz
 refine ⟨F', h1.of_heap fun k hk => setRow_other _ _ _ _ (fun e => ?_), (setRow_other _ _ _ _ (by omega)).trans h2, ⟨h3.os.trans h.bl.os, h3.tape.trans h.bl.tape, h3.output.trans h.bl.output, by rw [setRow_size]; exact Nat.le_trans h.bl.size h3.size, fun k hk hn => ?_⟩, fun k hk => (h4 k hk).imp id (fun q => by omega)⟩
 · rcases h4 k hk with q | q
   · have := hF k q; omega
   · omega
 · rw [setRow_other _ _ _ _ (by omega), h3.block k (by omega) hn, h.bl.block k hk]
theorem Pro.keepG {w w2 w3 : World} {o : OP} {rv : Value} (h : Pro w w2 o rv) {F : List Nat} {g : Nat} (hF : ∀ k ∈ F, k < w.heap.size) (hg : g < w.heap.size) (hf : Fr (g :: F) w2 w3) : w3.heap[w.heap.size + 1]? = some (.cells zzA 43 (0, 0)) := hf.keep h.an (fun e => by rcases List.mem_cons.1 e with q | q; omega; have := hF _ q; omega)
theorem RNF.refl {w : World} {base : Nat} {F : List Nat} {p m g : Nat} {D : DS} {s : Sup} {nx ep : Int} (h : RD w base F p m D) (hf : XK w g p s nx ep) : RNF base F p g w (m + 3) D s nx ep w := ⟨F, h.more (by omega), hf, Fr.refl _ _, Gr.refl _ _⟩
theorem RNF.more {w w1 : World} {base : Nat} {F : List Nat} {p m k g : Nat} {D : DS} {s : Sup} {nx ep : Int} (h : RNF base F p g w m D s nx ep w1) (hk : m ≤ k) : RNF base F p g w k D s nx ep w1 := by
 obtain ⟨F', h1, h2⟩ := h; exact ⟨F', h1.more hk, h2⟩
theorem XK.range {w : World} {g p : Nat} {s : Sup} {nx ep : Int} (h : XK w g p s nx ep) : w.rangeAt g 1 (supL s) := fun j v hv => by
 rw [h.cell]
 rcases j with _ | _ | _ | _ | _ | j <;> first | exact hv | (simp [supL] at hv)
theorem xdisk_any (w : World) (base : Nat) (F : List Nat) (p m : Nat) (hm : m < 400000000000) (hbw : base ≤ w.heap.size) (D : DS) (h : RD w base F p m D) (o : OP) (hk : 10 ≤ o.kd ∧ o.kd ≤ 21) (sp : Option Addr) (cap : Nat) (ho : OpOk w o sp cap) :
   Calls Tryz.prog 18 #[.pointer (some ⟨p, 0, none⟩), .agg (o.C (.slice sp o.raw.length cap))] w fun e w' => Told w.heap.size w' (dskF D o).2 e ∧ RX base F p w (m + 1) (dskF D o).1 w' := by
 have hc : o.kd = 10 ∨ o.kd = 11 ∨ o.kd = 12 ∨ o.kd = 13 ∨ o.kd = 14 ∨ o.kd = 15 ∨ o.kd = 16 ∨ o.kd = 17 ∨ o.kd = 18 ∨ o.kd = 19 ∨ o.kd = 20 ∨ o.kd = 21 := by omega
 rcases hc with e | e | e | e | e | e | e | e | e | e | e | e
 · exact xdk0.1 w base F p m hm hbw D h o e sp cap ho
 · exact xdk0.2.1 w base F p m hm hbw D h o e sp cap ho
 · exact xdk0.2.2.1 w base F p m hm hbw D h o e sp cap ho
 · exact xdk0.2.2.2.1 w base F p m hm hbw D h o e sp cap ho
 · exact xdisk_14 w base F p m hm hbw D h o e sp cap ho
 · exact xdk0.2.2.2.2.1 w base F p m hm hbw D h o e sp cap ho
 · exact xdk1.1 w base F p m hm hbw D h o e sp cap ho
 · exact xdk2.1 w base F p m hm hbw D h o e sp cap ho
 · exact xdk1.2.1 w base F p m hm hbw D h o e sp cap ho
 · exact xdk1.2.2 w base F p m hm hbw D h o e sp cap ho
 · exact xdk0.2.2.2.2.2 w base F p m hm hbw D h o e sp cap ho
 · exact xdk2.2 w base F p m hm hbw D h o e sp cap ho
theorem byDisk_any (w : World) (base : Nat) (F : List Nat) (p : Nat) (hbw : base ≤ w.heap.size) (D : DS) (hr : Rm D) (h : DA w base F p D) (o : OP) (hk : 10 ≤ o.kd ∧ o.kd ≤ 21) (sp : Option Addr) (cap : Nat) (ho : OpOk w o sp cap) :
   Calls Tryz.prog 23 #[.pointer (some ⟨p, 0, none⟩), .agg (o.C (.slice sp o.raw.length cap))] w fun e w' => Told w.heap.size w' (dskF D o).2 e ∧ Nx base F p w (dskF D o).1 w' := by
 have hc : o.kd = 10 ∨ o.kd = 11 ∨ o.kd = 12 ∨ o.kd = 13 ∨ o.kd = 14 ∨ o.kd = 15 ∨ o.kd = 16 ∨ o.kd = 17 ∨ o.kd = 18 ∨ o.kd = 19 ∨ o.kd = 20 ∨ o.kd = 21 := by omega
 rcases hc with e | e | e | e | e | e | e | e | e | e | e | e
 · exact byD0.1 w base F p hbw D hr h o e sp cap ho
 · exact byD0.2.1 w base F p hbw D hr h o e sp cap ho
 · exact byD0.2.2.1 w base F p hbw D hr h o e sp cap ho
 · exact byD0.2.2.2.1 w base F p hbw D hr h o e sp cap ho
 · exact byDisk_14 w base F p hbw D hr h o e sp cap ho
 · exact byD0.2.2.2.2.1 w base F p hbw D hr h o e sp cap ho
 · exact byDisk_16 w base F p hbw D hr h o e sp cap ho
 · exact byD0.2.2.2.2.2.1 w base F p hbw D hr h o e sp cap ho
 · exact byDisk_18 w base F p hbw D hr h o e sp cap ho
 · exact byDisk_19 w base F p hbw D hr h o e sp cap ho
 · exact byD0.2.2.2.2.2.2.1 w base F p hbw D hr h o e sp cap ho
 · exact byD0.2.2.2.2.2.2.2 w base F p hbw D hr h o e sp cap ho
theorem byFile_any (w : World) (base : Nat) (F : List Nat) (p : Nat) (hbw : base ≤ w.heap.size) (D : DS) (hr : Rm D) (h : DA w base F p D) (g : Nat) (s : Sup) (nx ep : Int) (hf : FK w g p s nx ep) (o : OP) (hk : 10 ≤ o.kd ∧ o.kd ≤ 20) (sp : Option Addr) (cap : Nat) (ho : OpOk w o sp cap) :
   Calls Tryz.prog 22 #[.pointer (some ⟨g, 0, none⟩), .agg (o.C (.slice sp o.raw.length cap))] w fun e w' => Told w.heap.size w' (dskF D o).2 e ∧ Nx base F p w (dskF D o).1 w' := by
 have hc : o.kd = 10 ∨ o.kd = 11 ∨ o.kd = 12 ∨ o.kd = 13 ∨ o.kd = 14 ∨ o.kd = 15 ∨ o.kd = 16 ∨ o.kd = 17 ∨ o.kd = 18 ∨ o.kd = 19 ∨ o.kd = 20 := by omega
 rcases hc with e | e | e | e | e | e | e | e | e | e | e
 · exact byF0.1 w base F p hbw D hr h g s nx ep hf o e sp cap ho
 · exact byF0.2.1 w base F p hbw D hr h g s nx ep hf o e sp cap ho
 · exact byF0.2.2.1 w base F p hbw D hr h g s nx ep hf o e sp cap ho
 · exact byF0.2.2.2.1 w base F p hbw D hr h g s nx ep hf o e sp cap ho
 · exact byFile_14 w base F p hbw D hr h g s nx ep hf o e sp cap ho
 · exact byF0.2.2.2.2.1 w base F p hbw D hr h g s nx ep hf o e sp cap ho
 · exact byF1.1 w base F p hbw D hr h g s nx ep hf o e sp cap ho
 · exact byFile_17 w base F p hbw D hr h g s nx ep hf o e sp cap ho
 · exact byF1.2 w base F p hbw D hr h g s nx ep hf o e sp cap ho
 · exact byFile_19 w base F p hbw D hr h g s nx ep hf o e sp cap ho
 · exact byF0.2.2.2.2.2 w base F p hbw D hr h g s nx ep hf o e sp cap ho
theorem xfile_7 (w : World) (hG : Gl w) (base : Nat) (hb0 : 0 < base) (F : List Nat) (p m : Nat) (hm : m + 8 < 400000000000) (hbw : base ≤ w.heap.size) (D : DS) (h : RD w base F p m D) (g : Nat) (s : Sup) (nx ep : Int) (hf : XK w g p s nx ep) (hfo : FiOk D s nx) (o : OP) (hk : o.kd = 7) (sp : Option Addr) (cap : Nat) (ho : OpOk w o sp cap) :
   Calls Tryz.prog 17 #[.pointer (some ⟨g, 0, none⟩), .agg (o.C (.slice sp o.raw.length cap))] w fun e w' => Told w.heap.size w' (filF D s nx ep o).2.2.2 e ∧ RNF base F p g w (m + 3) (filF D s nx ep o).1 (filF D s nx ep o).2.1 (filF D s nx ep o).2.2.1 ep w' := by
 have hE : filF D s nx ep o = ((appF D nx ep o.n o.raw).1, s, (appF D nx ep o.n o.raw).2.1, { an0 with e := (appF D nx ep o.n o.raw).2.2.2, n := (appF D nx ep o.n o.raw).2.2.1 }) := by unfold filF; rw [if_neg (by rw [hk]; decide), if_neg (by rw [hk]; decide), if_neg (by rw [hk]; decide), if_neg (by rw [hk]; decide), if_pos hk]
 rw [hE]
 have hP := Pro.mk' w o (.slice sp o.raw.length cap)
 have hLT : ∀ k ∈ F, k < w.heap.size := fun k hk => (h.lt k hk).2
 have k0 := hP.cell 0
 have k4 := hP.cell 4
 have k6 := hP.cell 6
 obtain ⟨w2, hw2⟩ : ∃ w2, w2 = (w.alloc (.cells (o.C (.slice sp o.raw.length cap)) 37)).alloc (.cells zzA 43) := ⟨_, rfl⟩
 have hW2 := hid hw2
 rw [← hw2] at hP
 have h2 := h.below hP.bl
 have f2 := hf.below hP.bl
 have G2 : Gl w2 := hG.below (B := w.heap.size) hP.bl (by have := hG.1; omega)
 have HGW := hid (hlt_ hf)
 have o2 := ho.below hP.bl
 have hb2 : base ≤ w2.heap.size := Nat.le_trans hbw hP.bl.size
 obtain ⟨q, hq⟩ : ∃ q : Nat, nx = (q : Int) := ⟨nx.toNat, by have := ((validS_iff s).1 hfo.va); have := hfo.lo; omega⟩
 subst hq
 have HC := hid (xAppend_any w2 G2 base F p m (by omega) D h2 hb2 g s ep q f2 ⟨by have := ((validS_iff s).1 hfo.va); have := hfo.lo; omega, by have := hfo.hi; omega⟩ o.n o.raw o2.bts sp cap o2.src)
 generalize appF D q ep o.n o.raw = Y at *
 have HP := hid hP
 have HLT := hid hLT
 have H2 := hid h2
 have HF2 := hid f2
 clear hG hf f2 G2 hfo h ho h2 o2 hP hLT hE hw2
 replace k0 : ((w.alloc (.cells (o.C (.slice sp o.raw.length cap)) 37)).alloc (.cells zzA 43)).cell? ⟨w.heap.size, 0, none⟩ = some (.int .i64 7) := by rw [← hk]; exact k0
 replace k4 : ((w.alloc (.cells (o.C (.slice sp o.raw.length cap)) 37)).alloc (.cells zzA 43)).cell? ⟨w.heap.size, 4, none⟩ = some (.int .i64 o.n) := k4
 replace k6 : ((w.alloc (.cells (o.C (.slice sp o.raw.length cap)) 37)).alloc (.cells zzA 43)).cell? ⟨w.heap.size, 6, none⟩ = some (.slice sp o.raw.length cap) := k6
 clear hk
 go_enter Tryz.func17, Tryz.ntmps17
 go_wp2_with (first
   | refine wpList_box_op rfl (.tmp 1) rfl o sp o.raw.length cap rfl ?_
   | (go_at_call 40; rw [← hW2.out]; refine HC.out.mono ?_; rintro e w3 ⟨rfl, hX⟩; have HX := hid hX; have HAN := hid (HP.out.keepG HLT.out HGW.out hX.choose_spec.2.2.1); clear hX)
   | refine wpA_01 rfl (.tmp 49) (.tmp 50) rfl Y.2.2.2 Y.2.2.1 rfl rfl ?_
   | (refine wpList_store_row rfl 43 (.tmp 4) _ rfl (w.heap.size + 1) (ansC Y.2.2.2 Y.2.2.1 (.slice none 0 0) sup0 0 0 0 0) (by first | rfl | simp [Act.eval]) rfl 43 zzA (HAN.out) (ansN _ _ _ _ _ _ _ _) rfl (ansO _ _ _ _ _ _ _ _ _ _) ?_))
 refine bodyPost_ret (results_c1 Tryz.results17 _ _ (w.heap.size + 1) 43 _ _ _ (by first | rfl | simp) (setRow_heap _ _ _ _ _ _ (HAN.out)) Tryz.underlying43 rfl (ansN _ _ _ _ _ _ _ _)) rfl ?_
 exact ⟨⟨.slice none 0 0, rfl, HP.out.own ((Own.nil _ _)) _⟩, HP.out.endF HLT.out HGW.out (HX.out.more (by omega)) _⟩
theorem xfl0 : (∀ (w : World) (hG : Gl w) (base : Nat) (hb0 : 0 < base) (F : List Nat) (p m : Nat) (hm : m + 8 < 400000000000) (hbw : base ≤ w.heap.size) (D : DS) (h : RD w base F p m D) (g : Nat) (s : Sup) (nx ep : Int) (hf : XK w g p s nx ep) (hfo : FiOk D s nx) (o : OP) (hk : o.kd = 3) (sp : Option Addr) (cap : Nat) (ho : OpOk w o sp cap), Calls Tryz.prog 17 #[.pointer (some ⟨g, 0, none⟩), .agg (o.C (.slice sp o.raw.length cap))] w fun e w' => Told w.heap.size w' (filF D s nx ep o).2.2.2 e ∧ RNF base F p g w (m + 3) (filF D s nx ep o).1 (filF D s nx ep o).2.1 (filF D s nx ep o).2.2.1 ep w') ∧ (∀ (w : World) (hG : Gl w) (base : Nat) (hb0 : 0 < base) (F : List Nat) (p m : Nat) (hm : m + 8 < 400000000000) (hbw : base ≤ w.heap.size) (D : DS) (h : RD w base F p m D) (g : Nat) (s : Sup) (nx ep : Int) (hf : XK w g p s nx ep) (hfo : FiOk D s nx) (o : OP) (hk : o.kd = 4) (sp : Option Addr) (cap : Nat) (ho : OpOk w o sp cap), Calls Tryz.prog 17 #[.pointer (some ⟨g, 0, none⟩), .agg (o.C (.slice sp o.raw.length cap))] w fun e w' => Told w.heap.size w' (filF D s nx ep o).2.2.2 e ∧ RNF base F p g w (m + 3) (filF D s nx ep o).1 (filF D s nx ep o).2.1 (filF D s nx ep o).2.2.1 ep w') ∧ (∀ (w : World) (hG : Gl w) (base : Nat) (hb0 : 0 < base) (F : List Nat) (p m : Nat) (hm : m + 8 < 400000000000) (hbw : base ≤ w.heap.size) (D : DS) (h : RD w base F p m D) (g : Nat) (s : Sup) (nx ep : Int) (hf : XK w g p s nx ep) (hfo : FiOk D s nx) (o : OP) (hk : o.kd = 5) (sp : Option Addr) (cap : Nat) (ho : OpOk w o sp cap), Calls Tryz.prog 17 #[.pointer (some ⟨g, 0, none⟩), .agg (o.C (.slice sp o.raw.length cap))] w fun e w' => Told w.heap.size w' (filF D s nx ep o).2.2.2 e ∧ RNF base F p g w (m + 3) (filF D s nx ep o).1 (filF D s nx ep o).2.1 (filF D s nx ep o).2.2.1 ep w') ∧ (∀ (w : World) (hG : Gl w) (base : Nat) (hb0 : 0 < base) (F : List Nat) (p m : Nat) (hm : m + 8 < 400000000000) (hbw : base ≤ w.heap.size) (D : DS) (h : RD w base F p m D) (g : Nat) (s : Sup) (nx ep : Int) (hf : XK w g p s nx ep) (hfo : FiOk D s nx) (o : OP) (hk : o.kd = 6) (sp : Option Addr) (cap : Nat) (ho : OpOk w o sp cap), Calls Tryz.prog 17 #[.pointer (some ⟨g, 0, none⟩), .agg (o.C (.slice sp o.raw.length cap))] w fun e w' => Told w.heap.size w' (filF D s nx ep o).2.2.2 e ∧ RNF base F p g w (m + 3) (filF D s nx ep o).1 (filF D s nx ep o).2.1 (filF D s nx ep o).2.2.1 ep w') ∧ (∀ (w : World) (hG : Gl w) (base : Nat) (hb0 : 0 < base) (F : List Nat) (p m : Nat) (hm : m + 8 < 400000000000) (hbw : base ≤ w.heap.size) (D : DS) (h : RD w base F p m D) (g : Nat) (s : Sup) (nx ep : Int) (hf : XK w g p s nx ep) (hfo : FiOk D s nx) (o : OP) (hk : o.kd = 8) (sp : Option Addr) (cap : Nat) (ho : OpOk w o sp cap), Calls Tryz.prog 17 #[.pointer (some ⟨g, 0, none⟩), .agg (o.C (.slice sp o.raw.length cap))] w fun e w' => Told w.heap.size w' (filF D s nx ep o).2.2.2 e ∧ RNF base F p g w (m + 3) (filF D s nx ep o).1 (filF D s nx ep o).2.1 (filF D s nx ep o).2.2.1 ep w') ∧ (∀ (w : World) (hG : Gl w) (base : Nat) (hb0 : 0 < base) (F : List Nat) (p m : Nat) (hm : m + 8 < 400000000000) (hbw : base ≤ w.heap.size) (D : DS) (h : RD w base F p m D) (g : Nat) (s : Sup) (nx ep : Int) (hf : XK w g p s nx ep) (hfo : FiOk D s nx) (o : OP) (hk : o.kd = 9) (sp : Option Addr) (cap : Nat) (ho : OpOk w o sp cap), Calls Tryz.prog 17 #[.pointer (some ⟨g, 0, none⟩), .agg (o.C (.slice sp o.raw.length cap))] w fun e w' => Told w.heap.size w' (filF D s nx ep o).2.2.2 e ∧ RNF base F p g w (m + 3) (filF D s nx ep o).1 (filF D s nx ep o).2.1 (filF D s nx ep o).2.2.1 ep w') := by
 refine ⟨?_, ?_, ?_, ?_, ?_, ?_⟩
 intro w hG base hb0 F p m hm hbw D h g s nx ep hf hfo o hk sp cap ho
 have hE : filF D s nx ep o = (D, s, nx, { an0 with e := liveF D ep }) := by unfold filF; rw [if_pos hk]
 rotate_left
 intro w hG base hb0 F p m hm hbw D h g s nx ep hf hfo o hk sp cap ho
 have hE : filF D s nx ep o = (D, s, nx, { an0 with s := s }) := by unfold filF; rw [if_neg (by rw [hk]; decide), if_pos hk]
 rotate_left
 intro w hG base hb0 F p m hm hbw D h g s nx ep hf hfo o hk sp cap ho
 have hE : filF D s nx ep o = (D, s, nx, { an0 with n := nx }) := by unfold filF; rw [if_neg (by rw [hk]; decide), if_neg (by rw [hk]; decide), if_pos hk]
 rotate_left
 intro w hG base hb0 F p m hm hbw D h g s nx ep hf hfo o hk sp cap ho
 have hE : filF D s nx ep o = (D, s, s.ma, an0) := by unfold filF; rw [if_neg (by rw [hk]; decide), if_neg (by rw [hk]; decide), if_neg (by rw [hk]; decide), if_pos hk]
 rotate_left
 intro w hG base hb0 F p m hm hbw D h g s nx ep hf hfo o hk sp cap ho
 have hE : filF D s nx ep o = ((frdF D nx ep o.n).1, s, nx, { an0 with e := (frdF D nx ep o.n).2.2.2, n := (frdF D nx ep o.n).2.1, raw := (frdF D nx ep o.n).2.2.1 }) := by unfold filF; rw [if_neg (by rw [hk]; decide), if_neg (by rw [hk]; decide), if_neg (by rw [hk]; decide), if_neg (by rw [hk]; decide), if_neg (by rw [hk]; decide), if_pos hk]
 rotate_left
 intro w hG base hb0 F p m hm hbw D h g s nx ep hf hfo o hk sp cap ho
 have hE : filF D s nx ep o = ((pubF D s nx ep o.n).1, (pubF D s nx ep o.n).2.1, nx, { an0 with e := (pubF D s nx ep o.n).2.2 }) := by unfold filF; rw [if_neg (by rw [hk]; decide), if_neg (by rw [hk]; decide), if_neg (by rw [hk]; decide), if_neg (by rw [hk]; decide), if_neg (by rw [hk]; decide), if_neg (by rw [hk]; decide), if_pos hk]
 rotate_left
 all_goals
  rw [hE]
  have hP := Pro.mk' w o (.slice sp o.raw.length cap)
  have hLT : ∀ k ∈ F, k < w.heap.size := fun k hk => (h.lt k hk).2
  have k0 := hP.cell 0
 rotate_left
 rotate_left
 rotate_left
 rotate_left
 have k4 := hP.cell 4
 rotate_left
 have k4 := hP.cell 4
 rotate_left
 all_goals
  obtain ⟨w2, hw2⟩ : ∃ w2, w2 = (w.alloc (.cells (o.C (.slice sp o.raw.length cap)) 37)).alloc (.cells zzA 43) := ⟨_, rfl⟩
  have hW2 := hid hw2
  rw [← hw2] at hP
  have h2 := h.below hP.bl
  have f2 := hf.below hP.bl
  have G2 : Gl w2 := hG.below (B := w.heap.size) hP.bl (by have := hG.1; omega)
  have HGW := hid (hlt_ hf)
  have o2 := ho.below hP.bl
  have hb2 : base ≤ w2.heap.size := Nat.le_trans hbw hP.bl.size
 have HC := hid (xLive_any w2 base F p m D h2 g s nx ep f2)
 generalize liveF D ep = lv at *
 rotate_left
 rotate_left
 rotate_left
 have HC := hid (xForget_any w2 base F p m D h2 g s nx ep f2)
 rotate_left
 have HC := hid (xRead_any w2 G2 base hb0 F p m (by omega) hb2 D h2 g s nx ep f2 hfo.hi o.n)
 generalize frdF D nx ep o.n = Y at *
 rotate_left
 have HC := hid (xPublish_any w2 G2 base hb0 F p m hm hb2 D h2 g s nx ep f2 hfo.va ⟨hfo.lo, by rw [hfo.pg]; exact hfo.hi⟩ o.n)
 generalize pubF D s nx ep o.n = Y at *
 rotate_left
 all_goals
  have HP := hid hP
  have HLT := hid hLT
  have H2 := hid h2
  have HF2 := hid f2
  clear hG hf f2 G2 hfo h ho h2 o2 hP hLT hE hw2
 replace k0 : ((w.alloc (.cells (o.C (.slice sp o.raw.length cap)) 37)).alloc (.cells zzA 43)).cell? ⟨w.heap.size, 0, none⟩ = some (.int .i64 3) := by rw [← hk]; exact k0
 rotate_left
 replace k0 : ((w.alloc (.cells (o.C (.slice sp o.raw.length cap)) 37)).alloc (.cells zzA 43)).cell? ⟨w.heap.size, 0, none⟩ = some (.int .i64 4) := by rw [← hk]; exact k0
 rotate_left
 replace k0 : ((w.alloc (.cells (o.C (.slice sp o.raw.length cap)) 37)).alloc (.cells zzA 43)).cell? ⟨w.heap.size, 0, none⟩ = some (.int .i64 5) := by rw [← hk]; exact k0
 rotate_left
 replace k0 : ((w.alloc (.cells (o.C (.slice sp o.raw.length cap)) 37)).alloc (.cells zzA 43)).cell? ⟨w.heap.size, 0, none⟩ = some (.int .i64 6) := by rw [← hk]; exact k0
 rotate_left
 replace k0 : ((w.alloc (.cells (o.C (.slice sp o.raw.length cap)) 37)).alloc (.cells zzA 43)).cell? ⟨w.heap.size, 0, none⟩ = some (.int .i64 8) := by rw [← hk]; exact k0
 replace k4 : ((w.alloc (.cells (o.C (.slice sp o.raw.length cap)) 37)).alloc (.cells zzA 43)).cell? ⟨w.heap.size, 4, none⟩ = some (.int .i64 o.n) := k4
 rotate_left
 replace k0 : ((w.alloc (.cells (o.C (.slice sp o.raw.length cap)) 37)).alloc (.cells zzA 43)).cell? ⟨w.heap.size, 0, none⟩ = some (.int .i64 9) := by rw [← hk]; exact k0
 replace k4 : ((w.alloc (.cells (o.C (.slice sp o.raw.length cap)) 37)).alloc (.cells zzA 43)).cell? ⟨w.heap.size, 4, none⟩ = some (.int .i64 o.n) := k4
 rotate_left
 all_goals
  clear hk
 rotate_left
 have xr := hid (show ((w.alloc (.cells (o.C (.slice sp o.raw.length cap)) 37)).alloc (.cells zzA 43)).rangeAt g 1 (supL s) by rw [← hW2.out]; exact HF2.out.range)
 rotate_left
 have x6 := HF2.out.c6
 rw [hW2.out] at x6
 rotate_left
 rotate_left
 rotate_left
 rotate_left
 all_goals
  go_enter Tryz.func17, Tryz.ntmps17
 · go_wp2_with (first
     | refine wpList_box_op rfl (.tmp 1) rfl o sp o.raw.length cap rfl ?_
     | (go_at_call 38; rw [← hW2.out]; refine HC.out.mono ?_; rintro e w3 ⟨rfl, rfl⟩)
     | refine wpA_0 rfl (.tmp 18) rfl lv rfl ?_
     | (refine wpList_store_row rfl 43 (.tmp 4) _ rfl (w.heap.size + 1) (ansC lv 0 (.slice none 0 0) sup0 0 0 0 0) (by first | rfl | simp [Act.eval]) rfl 43 zzA (HP.out.an) (ansN _ _ _ _ _ _ _ _) rfl (ansO _ _ _ _ _ _ _ _ _ _) ?_))
   refine bodyPost_ret (results_c1 Tryz.results17 _ _ (w.heap.size + 1) 43 _ _ _ (by first | rfl | simp) (setRow_heap _ _ _ _ _ _ (HP.out.an)) Tryz.underlying43 rfl (ansN _ _ _ _ _ _ _ _)) rfl ?_
   exact ⟨⟨.slice none 0 0, rfl, HP.out.own ((Own.nil _ _)) _⟩, HP.out.endF HLT.out HGW.out (RNF.refl H2.out HF2.out) _⟩
 · go_wp2_with (first
     | refine wpList_box_op rfl (.tmp 1) rfl o sp o.raw.length cap rfl ?_
     | (refine wpList_load_mid_w (by rfl) 39 (.tmp 24) (by rfl) g 1 (by rfl) (supL s) _ (by exact xr.out) Tryz.underlying39 rfl (by rw [size_super]; rfl) ?_; rw [← hW2.out])
     | refine wpA_3 rfl (.tmp 25) rfl s rfl ?_
     | (refine wpList_store_row rfl 43 (.tmp 4) _ rfl (w.heap.size + 1) (ansC 0 0 (.slice none 0 0) s 0 0 0 0) (by first | rfl | simp [Act.eval]) rfl 43 zzA (HP.out.an) (ansN _ _ _ _ _ _ _ _) rfl (ansO _ _ _ _ _ _ _ _ _ _) ?_))
   refine bodyPost_ret (results_c1 Tryz.results17 _ _ (w.heap.size + 1) 43 _ _ _ (by first | rfl | simp) (setRow_heap _ _ _ _ _ _ (HP.out.an)) Tryz.underlying43 rfl (ansN _ _ _ _ _ _ _ _)) rfl ?_
   exact ⟨⟨.slice none 0 0, rfl, HP.out.own ((Own.nil _ _)) _⟩, HP.out.endF HLT.out HGW.out (RNF.refl H2.out HF2.out) _⟩
 · go_wp2_with (first
     | refine wpList_box_op rfl (.tmp 1) rfl o sp o.raw.length cap rfl ?_
     | (refine wpA_1 rfl (.tmp 32) rfl nx rfl ?_; rw [← hW2.out])
     | (refine wpList_store_row rfl 43 (.tmp 4) _ rfl (w.heap.size + 1) (ansC 0 nx (.slice none 0 0) sup0 0 0 0 0) (by first | rfl | simp [Act.eval]) rfl 43 zzA (HP.out.an) (ansN _ _ _ _ _ _ _ _) rfl (ansO _ _ _ _ _ _ _ _ _ _) ?_))
   refine bodyPost_ret (results_c1 Tryz.results17 _ _ (w.heap.size + 1) 43 _ _ _ (by first | rfl | simp) (setRow_heap _ _ _ _ _ _ (HP.out.an)) Tryz.underlying43 rfl (ansN _ _ _ _ _ _ _ _)) rfl ?_
   exact ⟨⟨.slice none 0 0, rfl, HP.out.own ((Own.nil _ _)) _⟩, HP.out.endF HLT.out HGW.out (RNF.refl H2.out HF2.out) _⟩
 · go_wp2_with (first
     | refine wpList_box_op rfl (.tmp 1) rfl o sp o.raw.length cap rfl ?_
     | (go_at_call 39; rw [← hW2.out]; refine HC.out.mono ?_; rintro e w3 ⟨rfl, x1, x2, x3⟩; have HX := hid (show RNF base F p g w2 (m + 3) D s s.ma ep w3 from ⟨F, x1.more (by omega), x2, x3, Gr.refl _ _⟩); have HAN := hid (HP.out.keepG HLT.out HGW.out x3); clear x1 x2 x3)
     | refine wpA_z rfl rfl ?_
     | (refine wpList_store_row rfl 43 (.tmp 4) _ rfl (w.heap.size + 1) (ansC 0 0 (.slice none 0 0) sup0 0 0 0 0) (by first | rfl | simp [Act.eval]) rfl 43 zzA (HAN.out) (ansN _ _ _ _ _ _ _ _) rfl (ansO _ _ _ _ _ _ _ _ _ _) ?_))
   refine bodyPost_ret (results_c1 Tryz.results17 _ _ (w.heap.size + 1) 43 _ _ _ (by first | rfl | simp) (setRow_heap _ _ _ _ _ _ (HAN.out)) Tryz.underlying43 rfl (ansN _ _ _ _ _ _ _ _)) rfl ?_
   exact ⟨⟨.slice none 0 0, rfl, HP.out.own ((Own.nil _ _)) _⟩, HP.out.endF HLT.out HGW.out HX.out _⟩
 · go_wp2_with (first
     | refine wpList_box_op rfl (.tmp 1) rfl o sp o.raw.length cap rfl ?_
     | (go_at_call 41; rw [← hW2.out]; refine HC.out.mono ?_; rintro e w3 ⟨v, rfl, hO, x1, x2, x3⟩; have HX := hid (show RNF base F p g w2 (m + 3) Y.1 s nx ep w3 from ⟨F, x1.more (by omega), x2, x3.wide g, Gr.refl _ _⟩); have HAN := hid (HP.out.keep HLT.out x3); have HO := hid hO; obtain ⟨sv, cv, hv, _, _⟩ := hO.form; subst hv; clear hO x1 x2 x3)
     | refine wpA_012 rfl (.tmp 62) (.tmp 63) (.tmp 64) rfl Y.2.2.2 Y.2.1 sv Y.2.2.1.length cv rfl rfl rfl ?_
     | (refine wpList_store_row rfl 43 (.tmp 4) _ rfl (w.heap.size + 1) (ansC Y.2.2.2 Y.2.1 (.slice sv Y.2.2.1.length cv) sup0 0 0 0 0) (by first | rfl | simp [Act.eval]) rfl 43 zzA (HAN.out) (ansN _ _ _ _ _ _ _ _) rfl (ansO _ _ _ _ _ _ _ _ _ _) ?_))
   refine bodyPost_ret (results_c1 Tryz.results17 _ _ (w.heap.size + 1) 43 _ _ _ (by first | rfl | simp) (setRow_heap _ _ _ _ _ _ (HAN.out)) Tryz.underlying43 rfl (ansN _ _ _ _ _ _ _ _)) rfl ?_
   exact ⟨⟨_, rfl, HP.out.own (HO.out) _⟩, HP.out.endF HLT.out HGW.out HX.out _⟩
 · go_wp2_with (first
     | refine wpList_box_op rfl (.tmp 1) rfl o sp o.raw.length cap rfl ?_
     | (go_at_call 42; rw [← hW2.out]; refine HC.out.mono ?_; rintro e w3 ⟨rfl, hX⟩; have HX := hid hX; have HAN := hid (HP.out.keepG HLT.out HGW.out hX.choose_spec.2.2.1); clear hX)
     | refine wpA_0 rfl (.tmp 72) rfl Y.2.2 rfl ?_
     | (refine wpList_store_row rfl 43 (.tmp 4) _ rfl (w.heap.size + 1) (ansC Y.2.2 0 (.slice none 0 0) sup0 0 0 0 0) (by first | rfl | simp [Act.eval]) rfl 43 zzA (HAN.out) (ansN _ _ _ _ _ _ _ _) rfl (ansO _ _ _ _ _ _ _ _ _ _) ?_))
   refine bodyPost_ret (results_c1 Tryz.results17 _ _ (w.heap.size + 1) 43 _ _ _ (by first | rfl | simp) (setRow_heap _ _ _ _ _ _ (HAN.out)) Tryz.underlying43 rfl (ansN _ _ _ _ _ _ _ _)) rfl ?_
   exact ⟨⟨.slice none 0 0, rfl, HP.out.own ((Own.nil _ _)) _⟩, HP.out.endF HLT.out HGW.out HX.out _⟩
theorem xfile_any (w : World) (hG : Gl w) (base : Nat) (hb0 : 0 < base) (F : List Nat) (p m : Nat) (hm : m + 8 < 400000000000) (hbw : base ≤ w.heap.size) (D : DS) (h : RD w base F p m D) (g : Nat) (s : Sup) (nx ep : Int) (hf : XK w g p s nx ep) (hfo : FiOk D s nx) (o : OP) (hk : 3 ≤ o.kd ∧ o.kd ≤ 9) (sp : Option Addr) (cap : Nat) (ho : OpOk w o sp cap) :
   Calls Tryz.prog 17 #[.pointer (some ⟨g, 0, none⟩), .agg (o.C (.slice sp o.raw.length cap))] w fun e w' => Told w.heap.size w' (filF D s nx ep o).2.2.2 e ∧ RNF base F p g w (m + 3) (filF D s nx ep o).1 (filF D s nx ep o).2.1 (filF D s nx ep o).2.2.1 ep w' := by
 have hc : o.kd = 3 ∨ o.kd = 4 ∨ o.kd = 5 ∨ o.kd = 6 ∨ o.kd = 7 ∨ o.kd = 8 ∨ o.kd = 9 := by omega
 rcases hc with e | e | e | e | e | e | e
 · exact xfl0.1 w hG base hb0 F p m hm hbw D h g s nx ep hf hfo o e sp cap ho
 · exact xfl0.2.1 w hG base hb0 F p m hm hbw D h g s nx ep hf hfo o e sp cap ho
 · exact xfl0.2.2.1 w hG base hb0 F p m hm hbw D h g s nx ep hf hfo o e sp cap ho
 · exact xfl0.2.2.2.1 w hG base hb0 F p m hm hbw D h g s nx ep hf hfo o e sp cap ho
 · exact xfile_7 w hG base hb0 F p m hm hbw D h g s nx ep hf hfo o e sp cap ho
 · exact xfl0.2.2.2.2.1 w hG base hb0 F p m hm hbw D h g s nx ep hf hfo o e sp cap ho
 · exact xfl0.2.2.2.2.2 w hG base hb0 F p m hm hbw D h g s nx ep hf hfo o e sp cap ho

end
end Go.Proofs.YtjhocjjecfdphaaGreatDoor
