import Derived.Test.YtjhocjjecfdphaaGreatDoorQ41
namespace Go.Proofs.YtjhocjjecfdphaaGreatDoor
set_option linter.unusedVariables false
set_option linter.unusedSimpArgs false
set_option maxRecDepth 100000
set_option maxHeartbeats 4000000
section
open Go.RowKit
attribute [local go_sem ↓] Go.wp_at_zero Go.wp_at_succ
theorem xStB : (∀ (w : World) (base m : Nat) (hm : m + 8 < 400000000000) (P : PL) (A B : AW) (rm : List Int) (h : Inv base m w P A B rm) (o : OP) (i : Nat) (hi : i = plc o.dk 2) (j : Nat) (hjj : j = plc o.fl 3) (hk : o.kd = 21) (how : o.ow = false) (D : DS) (hD : B.d i = some D) (sp : Option Addr) (cap : Nat) (ho : OpOk w o sp cap), Calls Tryz.prog 8 #[.pointer (some ⟨P.xw, 0, none⟩), .agg (o.C (.slice sp o.raw.length cap))] w fun e w' => Told w.heap.size w' (dskF D o).2 e ∧ RX base (P.Fr i) (P.px i) w (m + 1) (dskF D o).1 w') ∧ (∀ (w : World) (base m : Nat) (hm : m + 8 < 400000000000) (P : PL) (A B : AW) (rm : List Int) (h : Inv base m w P A B rm) (o : OP) (i : Nat) (hi : i = plc o.dk 2) (j : Nat) (hjj : j = plc o.fl 3) (hk : 10 ≤ o.kd ∧ o.kd ≤ 20) (how : o.ow = false) (x : FI) (hX : B.f j = some x) (D : DS) (hD : B.d x.dk = some D) (sp : Option Addr) (cap : Nat) (ho : OpOk w o sp cap), Calls Tryz.prog 8 #[.pointer (some ⟨P.xw, 0, none⟩), .agg (o.C (.slice sp o.raw.length cap))] w fun e w' => Told w.heap.size w' (dskF D o).2 e ∧ RX base (P.Fr x.dk) (P.px x.dk) w (m + 1) (dskF D o).1 w') ∧ (∀ (w : World) (base m : Nat) (hm : m + 8 < 400000000000) (P : PL) (A B : AW) (rm : List Int) (h : Inv base m w P A B rm) (o : OP) (i : Nat) (hi : i = plc o.dk 2) (j : Nat) (hjj : j = plc o.fl 3) (hk : 3 ≤ o.kd ∧ o.kd ≤ 9) (x : FI) (hX : B.f j = some x) (D : DS) (hD : B.d x.dk = some D) (sp : Option Addr) (cap : Nat) (ho : OpOk w o sp cap), Calls Tryz.prog 8 #[.pointer (some ⟨P.xw, 0, none⟩), .agg (o.C (.slice sp o.raw.length cap))] w fun e w' => Told w.heap.size w' (filF D x.s x.nx x.ep o).2.2.2 e ∧ RNF base (P.Fr x.dk) (P.px x.dk) (P.gx j) w (m + 3) (filF D x.s x.nx x.ep o).1 (filF D x.s x.nx x.ep o).2.1 (filF D x.s x.nx x.ep o).2.2.1 x.ep w') := by
 refine ⟨?_, ?_, ?_⟩
 focus
  intro w base m hm P A B rm h o i hi j hjj hk how D hD sp cap ho
 rotate_left
 focus
  intro w base m hm P A B rm h o i hi j hjj hk how x hX D hD sp cap ho
 rotate_left
 focus
  intro w base m hm P A B rm h o i hi j hjj hk x hX D hD sp cap ho
 rotate_left
 all_goals
  have hi2 : i < 2 := by rw [hi]; exact plc_lt _ _ (by omega)
  have hj : j < 3 := by rw [hjj]; exact plc_lt _ _ (by omega)
  have hP := Pro.mk' w o (.slice sp o.raw.length cap)
  have k0 := hP.cell 0
  have k1' := hP.cell 1
  have k2' := hP.cell 2
  have k3' := hP.cell 3
  have k4' := hP.cell 4
  obtain ⟨w2, hw2⟩ : ∃ w2, w2 = (w.alloc (.cells (o.C (.slice sp o.raw.length cap)) 37)).alloc (.cells zzA 43) := ⟨_, rfl⟩
  have hW2 := hid hw2
  rw [← hw2] at hP k0 k1' k2' k3' k4'
  have h2 := h.below hP.bl
  have o2 := ho.below hP.bl
  have hb2 : base ≤ w2.drew.heap.size := Nat.le_trans h.sep.hb hP.bl.size
  have od : OpOk w2.drew o sp cap := ⟨o2.src.below (Below.refl _ w2).drew (Nat.le_refl _), o2.nil, o2.bts, o2.len, o2.bt, o2.n⟩
  have hGd : Gl w2.drew := h2.gl.below (B := w2.heap.size) (Below.refl _ w2).drew (by have := h2.gl.1; omega)
  obtain ⟨bd, cd, bf, cf, e1, e2, c1, c2, x0', x1', kd', kf'⟩ := h2.rowsX
 focus
  have hR := h.atR i hi2 hD
  have hLT : ∀ k ∈ P.Fr i, k < w.heap.size := fun k hk => (hR.lt k hk).2
  have HXD := hid (xdisk_any w2.drew base (P.Fr i) (P.px i) m (by omega) hb2 D (h2.atR i hi2 hD).drew o ⟨by omega, by omega⟩ sp cap od)
 rotate_left
 focus
  have hx2 : x.dk < 2 := by have := (h.gb.fi j x hX).1; omega
  have hR := h.atR x.dk hx2 hD
  have hLT : ∀ k ∈ P.Fr x.dk, k < w.heap.size := fun k hk => (hR.lt k hk).2
  have hG2 := h2.atG j hj hX
  have hg0 : w2.drew.cell? ⟨P.gx j, 0, none⟩ = some (.pointer (some ⟨P.px x.dk, 0, none⟩)) := hG2.drew.c0
  have HXD := hid (xdisk_any w2.drew base (P.Fr x.dk) (P.px x.dk) m (by omega) hb2 D (h2.atR x.dk hx2 hD).drew o ⟨by omega, by omega⟩ sp cap od)
 rotate_left
 focus
  obtain ⟨hx01, D0, hD0, hfo⟩ := h.gb.fi j x hX
  have hx2 : x.dk < 2 := by omega
  rw [hD] at hD0
  cases hD0
  have hR := h.atR x.dk hx2 hD
  have hG2 := h2.atG j hj hX
  have hGW := hlt_ (h.atG j hj hX)
  have hLT : ∀ k ∈ P.Fr x.dk, k < w.heap.size := fun k hk => (hR.lt k hk).2
  have HXF := hid (xfile_any w2.drew hGd base h.b0 (P.Fr x.dk) (P.px x.dk) m (by omega) hb2 D (h2.atR x.dk hx2 hD).drew (P.gx j) x.s x.nx x.ep hG2.drew hfo o hk sp cap od)
 rotate_left
 all_goals
  rw [e1] at x0'
  rw [e2] at x1'
  have xd' := kd' i hi2
  have xf' := kf' j hj
 focus
  have hpt : ptrD P.px B i = .pointer (some ⟨P.px i, 0, none⟩) := by unfold ptrD; rw [hD]; rfl
  obtain ⟨fp, hfp⟩ : ∃ fp, fp = (B.f j).map (fun _ => (⟨P.gx j, 0, none⟩ : Addr)) := ⟨_, rfl⟩
  have hpf : ptrF P.gx B j = .pointer fp := by unfold ptrF; rw [hfp]
 rotate_left
 focus
  obtain ⟨dp, hdp⟩ : ∃ dp, dp = (B.d i).map (fun _ => (⟨P.px i, 0, none⟩ : Addr)) := ⟨_, rfl⟩
  have hpt : ptrD P.px B i = .pointer dp := by unfold ptrD; rw [hdp]
  have hpf : ptrF P.gx B j = .pointer (some ⟨P.gx j, 0, none⟩) := by unfold ptrF; rw [hX]; rfl
 rotate_left
 focus
  obtain ⟨dp, hdp⟩ : ∃ dp, dp = (B.d i).map (fun _ => (⟨P.px i, 0, none⟩ : Addr)) := ⟨_, rfl⟩
  have hpt : ptrD P.px B i = .pointer dp := by unfold ptrD; rw [hdp]
  have hpf : ptrF P.gx B j = .pointer (some ⟨P.gx j, 0, none⟩) := by unfold ptrF; rw [hX]; rfl
 rotate_left
 all_goals
  rw [hpt] at xd'
  rw [hpf] at xf'
  have lt : ∀ {k jj : Nat} {v : Value}, w2.cell? ⟨k, jj, none⟩ = some v → k < w2.heap.size := fun hv => World.block_lt_of_cell? _ _ hv
  have HPI := hid (fun (w4 : World) => (show Calls Tryz.prog 14 #[.int .i64 o.dk, .int .i64 2] w4 fun e w' => e = .returned (.int .i64 (i : Nat)) ∧ w4 = w' by rw [hi]; exact xplace_any w4 o.dk 2 (Or.inl rfl) 2 rfl))
  have HPJ := hid (fun (w4 : World) => (show Calls Tryz.prog 14 #[.int .i64 o.fl, .int .i64 3] w4 fun e w' => e = .returned (.int .i64 (j : Nat)) ∧ w4 = w' by rw [hjj]; exact xplace_any w4 o.fl 3 (Or.inr rfl) 3 rfl))
  obtain ⟨O, hO⟩ : ∃ O, O = w.heap.size := ⟨_, rfl⟩
  rw [← hO] at k0 k1' k2' k3' k4'
  obtain ⟨xw, hxw⟩ : ∃ xw, xw = P.xw := ⟨_, rfl⟩
  rw [← hxw] at x0' x1' ⊢
  have HOE := hid hO
  have HOPR := hid (show w2.heap[O]? = some (.cells (o.C (.slice sp o.raw.length cap)) 37 (0, 0)) by rw [hO]; exact hP.op)
  have x0 := hid x0'
  have xd := hid xd'
  have k1 := hid (show w2.cell? ⟨O, 1, none⟩ = some (.int .i64 o.dk) from k1')
  have HXL := hid (lt x0')
  have HOL := hid (lt k0)
  have HDL := hid (lt xd')
  have k0d : w2.drew.cell? ⟨O, 0, none⟩ = some (.int .i64 o.kd) := k0
  have k2d : w2.drew.cell? ⟨O, 2, none⟩ = some (.int .i64 o.fl) := k2'
 focus
  have k3d : w2.drew.cell? ⟨O, 3, none⟩ = some (.bool false) := by rw [← how]; exact k3'
 rotate_left
 focus
  have k3d : w2.drew.cell? ⟨O, 3, none⟩ = some (.bool false) := by rw [← how]; exact k3'
 rotate_left
 focus
  have k3d : w2.drew.cell? ⟨O, 3, none⟩ = some (.bool o.ow) := k3'
 rotate_left
 all_goals
  have k4d : w2.drew.cell? ⟨O, 4, none⟩ = some (.int .i64 o.n) := k4'
  have x1d : w2.drew.cell? ⟨xw, 1, none⟩ = some (.slice (some ⟨bf, 0, none⟩) 3 cf) := x1'
 focus
  have xfd : w2.drew.cell? ⟨bf, j, none⟩ = some (.pointer fp) := xf'
 rotate_left
 focus
  have xfd : w2.drew.cell? ⟨bf, j, none⟩ = some (.pointer (some ⟨P.gx j, 0, none⟩)) := xf'
 rotate_left
 focus
  have xfd : w2.drew.cell? ⟨bf, j, none⟩ = some (.pointer (some ⟨P.gx j, 0, none⟩)) := xf'
 rotate_left
 all_goals
  have ij : (j : Int) < 3 := by omega
  have ii : (i : Int) < 2 := by omega
  have n1 : (o.kd == 1) = false := by simp; omega
  have n2 : (o.kd == 2) = false := by simp; omega
  have n3 : 3 ≤ o.kd := by omega
 focus
  have n4 : ¬ o.kd ≤ 9 := by omega
  have n5 : 10 ≤ o.kd := by omega
  have n6 : o.kd ≤ 21 := by omega
  have n7 : (o.kd != 21) = false := by simp; omega
  generalize dskF D o = Y at *
  generalize P.px i = p at *
  generalize P.Fr i = F at *
 rotate_left
 focus
  have n4 : ¬ o.kd ≤ 9 := by omega
  have n5 : 10 ≤ o.kd := by omega
  have n6 : o.kd ≤ 21 := by omega
  have n7 : (o.kd != 21) = true := by simp; omega
  generalize dskF D o = Y at *
  generalize P.px x.dk = p at *
  generalize P.Fr x.dk = F at *
 rotate_left
 focus
  have n4 : o.kd ≤ 9 := by omega
  generalize filF D x.s x.nx x.ep o = Y at *
  generalize P.px x.dk = p at *
  generalize P.Fr x.dk = F at *
 rotate_left
 all_goals
  have HP := hid hP
  have HLT := hid hLT
  clear hR hLT
 rotate_left
 focus
  clear hG2
 rotate_left
 focus
  have HGW := hid hGW
  have HLG := hid (show ∀ k ∈ P.gx j :: F, k < w.heap.size from fun k hk => (List.mem_cons.mp hk).elim (fun e => e ▸ hGW) (fun e => HLT.out k e))
  clear hG2 hGW hfo hx01
 rotate_left
 all_goals
  clear hP k0 k1' k2' k3' k4' h2 o2 od hGd h ho x0' x1' xd' xf' kd' kf' lt e1 e2 hi hjj hO hxw hw2 hpt hpf
  go_enter Tryz.func8, Tryz.ntmps8
  go_wp2_with (first
    | refine wpList_box_op rfl (.tmp 1) rfl o sp o.raw.length cap rfl ?_)
  rw [← hW2.out, ← HOE.out]
  refine rgA (fun w' => Below w2.heap.size w2 w') (Below.refl _ _).drew (fun hq0 => ?_)
  refine tkA 0 (.pointer (some ⟨xw, 0, none⟩)) rfl hq0 ?_
  go_frame
  refine tkA 4 (.pointer (some ⟨O, 1, none⟩)) rfl hq0 ?_
  go_frame
  refine tkA 1 (.pointer (some ⟨xw, 0, none⟩)) rfl hq0 ?_
  go_frame
  refine tqA 5 (.int .i64 o.dk) rfl (yA (by intro w hS; have hc := (hS.cell (p := ⟨O, 1, none⟩) HOL.out).trans k1.out; go_simp)) hq0 ?_
  go_frame
  refine tkA 2 (.pointer (some ⟨xw, 0, none⟩)) rfl hq0 ?_
  go_frame
  refine tqA 3 (.slice (some ⟨bd, 0, none⟩) 2 cd) rfl (yA (by intro w hS; have hc := (hS.cell (p := ⟨xw, 0, none⟩) HXL.out).trans x0.out; go_simp)) hq0 ?_
  go_frame
  refine rdA 6 rfl (fun K hK => ?_)
  go_simp
  go_at_call 14
  refine (HPI.out _).mono ?_
  rintro e w4 ⟨rfl, rfl⟩
  go_wp2_with fail
  refine hK.out _ _ (hq0) ?_
  clear hK K hq0
  intro hq0
  try go_frame
  refine tkA 7 (.pointer (some ⟨bd, 0 + i, none⟩)) rfl hq0 ?_
  go_frame
 focus
  refine tqA 8 (.pointer (some ⟨p, 0, none⟩)) rfl (yA (by intro w hS; have hc := (hS.cell (p := ⟨bd, i, none⟩) HDL.out).trans xd.out; go_simp)) hq0 ?_
 rotate_left
 focus
  refine tqA 8 (.pointer dp) rfl (yA (by intro w hS; have hc := (hS.cell (p := ⟨bd, i, none⟩) HDL.out).trans xd.out; go_simp)) hq0 ?_
 rotate_left
 focus
  refine tqA 8 (.pointer dp) rfl (yA (by intro w hS; have hc := (hS.cell (p := ⟨bd, i, none⟩) HDL.out).trans xd.out; go_simp)) hq0 ?_
 rotate_left
 all_goals
  go_frame
 focus
  refine tkA 9 (.pointer (some ⟨p, 0, none⟩)) rfl hq0 ?_
 rotate_left
 focus
  refine tkA 9 (.pointer dp) rfl hq0 ?_
 rotate_left
 focus
  refine tkA 9 (.pointer dp) rfl hq0 ?_
 rotate_left
 all_goals
  go_frame
  refine wdA ?_
  clear hq0
 focus
  go_wp2_with (first
    | (go_at_call 14; refine (HPJ.out _).mono ?_; rintro e w4 ⟨rfl, rfl⟩)
    | (refine wpList_load_row_w (by rfl) 37 (.tmp 3) (by rfl) O (by rfl) 37 (o.C (.slice sp o.raw.length cap)) (0, 0) _ (by exact HOPR.out) Tryz.underlying37 rfl (by rw [size_op]; rfl) ?_)
    | (go_at_call 18; refine HXD.out.mono ?_; rintro e w5 ⟨⟨v, rfl, hO5⟩, hX5⟩; have HO5 := hid hO5; have HX5 := hid (show RX base F p w2 (m + 1) Y.1 w5 from hX5.drew'); obtain ⟨sv, cv, hv, _, _⟩ := hO5.form; subst hv; have HAN := hid (show w5.heap[O + 1]? = some (.cells zzA 43 (0, 0)) by rw [HOE.out]; exact HP.out.keep HLT.out HX5.out.choose_spec.2.1); clear hO5 hX5)
    | (refine wpList_store_row rfl 43 (.tmp 4) _ rfl (O + 1) (ansC Y.2.e Y.2.n (.slice sv Y.2.raw.length cv) Y.2.s Y.2.c1 Y.2.c2 Y.2.c3 Y.2.c4) rfl rfl 43 zzA HAN.out (ansN _ _ _ _ _ _ _ _) rfl (ansO _ _ _ _ _ _ _ _ _ _) ?_))
 rotate_left
 focus
  go_wp2_with (first
    | (go_at_call 14; refine (HPJ.out _).mono ?_; rintro e w4 ⟨rfl, rfl⟩)
    | (refine wpList_load_row_w (by rfl) 37 (.tmp 3) (by rfl) O (by rfl) 37 (o.C (.slice sp o.raw.length cap)) (0, 0) _ (by exact HOPR.out) Tryz.underlying37 rfl (by rw [size_op]; rfl) ?_)
    | (go_at_call 18; refine HXD.out.mono ?_; rintro e w5 ⟨⟨v, rfl, hO5⟩, hX5⟩; have HO5 := hid hO5; have HX5 := hid (show RX base F p w2 (m + 1) Y.1 w5 from hX5.drew'); obtain ⟨sv, cv, hv, _, _⟩ := hO5.form; subst hv; have HAN := hid (show w5.heap[O + 1]? = some (.cells zzA 43 (0, 0)) by rw [HOE.out]; exact HP.out.keep HLT.out HX5.out.choose_spec.2.1); clear hO5 hX5)
    | (refine wpList_store_row rfl 43 (.tmp 4) _ rfl (O + 1) (ansC Y.2.e Y.2.n (.slice sv Y.2.raw.length cv) Y.2.s Y.2.c1 Y.2.c2 Y.2.c3 Y.2.c4) rfl rfl 43 zzA HAN.out (ansN _ _ _ _ _ _ _ _) rfl (ansO _ _ _ _ _ _ _ _ _ _) ?_))
 rotate_left
 focus
  go_wp2_with (first
    | (go_at_call 14; refine (HPJ.out _).mono ?_; rintro e w4 ⟨rfl, rfl⟩)
    | (refine wpList_load_row_w (by rfl) 37 (.tmp 3) (by rfl) O (by rfl) 37 (o.C (.slice sp o.raw.length cap)) (0, 0) _ (by exact HOPR.out) Tryz.underlying37 rfl (by rw [size_op]; rfl) ?_)
    | (go_at_call 17; refine HXF.out.mono ?_; rintro e w5 ⟨⟨v, rfl, hO5⟩, hX5⟩; have HO5 := hid hO5; have HX5 := hid (show RNF base F p (P.gx j) w2 (m + 3) Y.1 Y.2.1 Y.2.2.1 x.ep w5 from hX5.drew'); obtain ⟨sv, cv, hv, _, _⟩ := hO5.form; subst hv; have HAN := hid (show w5.heap[O + 1]? = some (.cells zzA 43 (0, 0)) by rw [HOE.out]; exact HP.out.keep HLG.out HX5.out.choose_spec.2.2.1); clear hO5 hX5)
    | (refine wpList_store_row rfl 43 (.tmp 4) _ rfl (O + 1) (ansC Y.2.2.2.e Y.2.2.2.n (.slice sv Y.2.2.2.raw.length cv) Y.2.2.2.s Y.2.2.2.c1 Y.2.2.2.c2 Y.2.2.2.c3 Y.2.2.2.c4) rfl rfl 43 zzA HAN.out (ansN _ _ _ _ _ _ _ _) rfl (ansO _ _ _ _ _ _ _ _ _ _) ?_))
 rotate_left
 all_goals
  refine bodyPost_ret (results_c1 Tryz.results8 _ _ (O + 1) 43 _ _ _ rfl (setRow_heap _ _ _ _ _ _ HAN.out) Tryz.underlying43 rfl (ansN _ _ _ _ _ _ _ _)) rfl ?_
  have hO := HOE.out
  subst hO
 · exact ⟨⟨_, rfl, HP.out.own HO5.out _⟩, HP.out.endR HLT.out HX5.out _⟩
 · exact ⟨⟨_, rfl, HP.out.own HO5.out _⟩, HP.out.endR HLT.out HX5.out _⟩
 · exact ⟨⟨_, rfl, HP.out.own HO5.out _⟩, HP.out.endF HLT.out HGW.out HX5.out _⟩
theorem xStC : (∀ (w : World) (base m : Nat) (hm : m + 8 < 400000000000) (P : PL) (A B : AW) (rm : List Int) (h : Inv base m w P A B rm) (o : OP) (i : Nat) (hi : i = plc o.dk 2) (j : Nat) (hjj : j = plc o.fl 3) (hk : o.kd = 1) (hD : B.d i = none) (sp : Option Addr) (cap : Nat) (ho : OpOk w o sp cap), Calls Tryz.prog 8 #[.pointer (some ⟨P.xw, 0, none⟩), .agg (o.C (.slice sp o.raw.length cap))] w fun e w' => Told w.heap.size w' { an0 with e := 1 } e ∧ Below w.heap.size w w') ∧ (∀ (w : World) (base m : Nat) (hm : m + 8 < 400000000000) (P : PL) (A B : AW) (rm : List Int) (h : Inv base m w P A B rm) (o : OP) (i : Nat) (hi : i = plc o.dk 2) (j : Nat) (hjj : j = plc o.fl 3) (hk : o.kd = 1) (D : DS) (hD : B.d i = some D) (sp : Option Addr) (cap : Nat) (ho : OpOk w o sp cap), Calls Tryz.prog 8 #[.pointer (some ⟨P.xw, 0, none⟩), .agg (o.C (.slice sp o.raw.length cap))] w fun e w' => Told w.heap.size w' { an0 with e := (fmtF D o.n).2 } e ∧ RX base (P.Fr i) (P.px i) w (m + 6) (fmtF D o.n).1 w') ∧ (∀ (w : World) (base m : Nat) (hm : m + 8 < 400000000000) (P : PL) (A B : AW) (rm : List Int) (h : Inv base m w P A B rm) (o : OP) (i : Nat) (hi : i = plc o.dk 2) (j : Nat) (hjj : j = plc o.fl 3) (hk : o.kd ≤ 0) (sp : Option Addr) (cap : Nat) (ho : OpOk w o sp cap), Calls Tryz.prog 8 #[.pointer (some ⟨P.xw, 0, none⟩), .agg (o.C (.slice sp o.raw.length cap))] w fun e w' => Told w.heap.size w' an0 e ∧ Below w.heap.size w w') ∧ (∀ (w : World) (base m : Nat) (hm : m + 8 < 400000000000) (P : PL) (A B : AW) (rm : List Int) (h : Inv base m w P A B rm) (o : OP) (i : Nat) (hi : i = plc o.dk 2) (j : Nat) (hjj : j = plc o.fl 3) (hk : 22 ≤ o.kd) (sp : Option Addr) (cap : Nat) (ho : OpOk w o sp cap), Calls Tryz.prog 8 #[.pointer (some ⟨P.xw, 0, none⟩), .agg (o.C (.slice sp o.raw.length cap))] w fun e w' => Told w.heap.size w' an0 e ∧ Below w.heap.size w w') ∧ (∀ (w : World) (base m : Nat) (hm : m + 8 < 400000000000) (P : PL) (A B : AW) (rm : List Int) (h : Inv base m w P A B rm) (o : OP) (i : Nat) (hi : i = plc o.dk 2) (j : Nat) (hjj : j = plc o.fl 3) (hk : o.kd = 2) (hD : B.d i = none) (sp : Option Addr) (cap : Nat) (ho : OpOk w o sp cap), Calls Tryz.prog 8 #[.pointer (some ⟨P.xw, 0, none⟩), .agg (o.C (.slice sp o.raw.length cap))] w fun e w' => Told w.heap.size w' { an0 with e := 1 } e ∧ Below w.heap.size w w') := by
 refine ⟨?_, ?_, ?_, ?_, ?_⟩
 focus
  intro w base m hm P A B rm h o i hi j hjj hk hD sp cap ho
 rotate_left
 focus
  intro w base m hm P A B rm h o i hi j hjj hk D hD sp cap ho
 rotate_left
 focus
  intro w base m hm P A B rm h o i hi j hjj hk sp cap ho
 rotate_left
 focus
  intro w base m hm P A B rm h o i hi j hjj hk sp cap ho
 rotate_left
 focus
  intro w base m hm P A B rm h o i hi j hjj hk hD sp cap ho
 rotate_left
 all_goals
  have hi2 : i < 2 := by rw [hi]; exact plc_lt _ _ (by omega)
  have hj : j < 3 := by rw [hjj]; exact plc_lt _ _ (by omega)
  have hP := Pro.mk' w o (.slice sp o.raw.length cap)
  have k0 := hP.cell 0
  have k1' := hP.cell 1
  have k2' := hP.cell 2
  have k3' := hP.cell 3
  have k4' := hP.cell 4
  obtain ⟨w2, hw2⟩ : ∃ w2, w2 = (w.alloc (.cells (o.C (.slice sp o.raw.length cap)) 37)).alloc (.cells zzA 43) := ⟨_, rfl⟩
  have hW2 := hid hw2
  rw [← hw2] at hP k0 k1' k2' k3' k4'
  have h2 := h.below hP.bl
  have o2 := ho.below hP.bl
  have hb2 : base ≤ w2.drew.heap.size := Nat.le_trans h.sep.hb hP.bl.size
  have od : OpOk w2.drew o sp cap := ⟨o2.src.below (Below.refl _ w2).drew (Nat.le_refl _), o2.nil, o2.bts, o2.len, o2.bt, o2.n⟩
  have hGd : Gl w2.drew := h2.gl.below (B := w2.heap.size) (Below.refl _ w2).drew (by have := h2.gl.1; omega)
  obtain ⟨bd, cd, bf, cf, e1, e2, c1, c2, x0', x1', kd', kf'⟩ := h2.rowsX
 rotate_left
 focus
  have hR := h.atR i hi2 hD
  have hLT : ∀ k ∈ P.Fr i, k < w.heap.size := fun k hk => (hR.lt k hk).2
  have HXD := hid (xFormat_any w2.drew hGd base h.b0 (P.Fr i) (P.px i) m (by omega) hb2 D (h2.atR i hi2 hD).drew o.n)
 rotate_left
 rotate_left
 rotate_left
 rotate_left
 all_goals
  rw [e1] at x0'
  rw [e2] at x1'
  have xd' := kd' i hi2
  have xf' := kf' j hj
 focus
  have hpt : ptrD P.px B i = .pointer none := by unfold ptrD; rw [hD]; rfl
 rotate_left
 focus
  have hpt : ptrD P.px B i = .pointer (some ⟨P.px i, 0, none⟩) := by unfold ptrD; rw [hD]; rfl
 rotate_left
 focus
  obtain ⟨dp, hdp⟩ : ∃ dp, dp = (B.d i).map (fun _ => (⟨P.px i, 0, none⟩ : Addr)) := ⟨_, rfl⟩
  have hpt : ptrD P.px B i = .pointer dp := by unfold ptrD; rw [hdp]
 rotate_left
 focus
  obtain ⟨dp, hdp⟩ : ∃ dp, dp = (B.d i).map (fun _ => (⟨P.px i, 0, none⟩ : Addr)) := ⟨_, rfl⟩
  have hpt : ptrD P.px B i = .pointer dp := by unfold ptrD; rw [hdp]
 rotate_left
 focus
  have hpt : ptrD P.px B i = .pointer none := by unfold ptrD; rw [hD]; rfl
 rotate_left
 all_goals
  obtain ⟨fp, hfp⟩ : ∃ fp, fp = (B.f j).map (fun _ => (⟨P.gx j, 0, none⟩ : Addr)) := ⟨_, rfl⟩
  have hpf : ptrF P.gx B j = .pointer fp := by unfold ptrF; rw [hfp]
  rw [hpt] at xd'
  rw [hpf] at xf'
  have lt : ∀ {k jj : Nat} {v : Value}, w2.cell? ⟨k, jj, none⟩ = some v → k < w2.heap.size := fun hv => World.block_lt_of_cell? _ _ hv
  have HPI := hid (fun (w4 : World) => (show Calls Tryz.prog 14 #[.int .i64 o.dk, .int .i64 2] w4 fun e w' => e = .returned (.int .i64 (i : Nat)) ∧ w4 = w' by rw [hi]; exact xplace_any w4 o.dk 2 (Or.inl rfl) 2 rfl))
  have HPJ := hid (fun (w4 : World) => (show Calls Tryz.prog 14 #[.int .i64 o.fl, .int .i64 3] w4 fun e w' => e = .returned (.int .i64 (j : Nat)) ∧ w4 = w' by rw [hjj]; exact xplace_any w4 o.fl 3 (Or.inr rfl) 3 rfl))
  obtain ⟨O, hO⟩ : ∃ O, O = w.heap.size := ⟨_, rfl⟩
  rw [← hO] at k0 k1' k2' k3' k4'
  obtain ⟨xw, hxw⟩ : ∃ xw, xw = P.xw := ⟨_, rfl⟩
  rw [← hxw] at x0' x1' ⊢
  have HOE := hid hO
  have HOPR := hid (show w2.heap[O]? = some (.cells (o.C (.slice sp o.raw.length cap)) 37 (0, 0)) by rw [hO]; exact hP.op)
  have x0 := hid x0'
  have xd := hid xd'
  have k1 := hid (show w2.cell? ⟨O, 1, none⟩ = some (.int .i64 o.dk) from k1')
  have HXL := hid (lt x0')
  have HOL := hid (lt k0)
  have HDL := hid (lt xd')
  have k0d : w2.drew.cell? ⟨O, 0, none⟩ = some (.int .i64 o.kd) := k0
  have k2d : w2.drew.cell? ⟨O, 2, none⟩ = some (.int .i64 o.fl) := k2'
  have k3d : w2.drew.cell? ⟨O, 3, none⟩ = some (.bool o.ow) := k3'
  have k4d : w2.drew.cell? ⟨O, 4, none⟩ = some (.int .i64 o.n) := k4'
  have x1d : w2.drew.cell? ⟨xw, 1, none⟩ = some (.slice (some ⟨bf, 0, none⟩) 3 cf) := x1'
  have xfd : w2.drew.cell? ⟨bf, j, none⟩ = some (.pointer fp) := xf'
  have ij : (j : Int) < 3 := by omega
  have ii : (i : Int) < 2 := by omega
 focus
  have n1 : (o.kd == 1) = true := by simp; omega
 rotate_left
 focus
  have n1 : (o.kd == 1) = true := by simp; omega
  generalize fmtF D o.n = Y at *
  generalize P.px i = p at *
  generalize P.Fr i = F at *
 rotate_left
 focus
  have n1 : (o.kd == 1) = false := by simp; omega
  have n2 : (o.kd == 2) = false := by simp; omega
  have n3 : ¬ 3 ≤ o.kd := by omega
  have n5 : ¬ 10 ≤ o.kd := by omega
 rotate_left
 focus
  have n1 : (o.kd == 1) = false := by simp; omega
  have n2 : (o.kd == 2) = false := by simp; omega
  have n3 : 3 ≤ o.kd := by omega
  have n4 : ¬ o.kd ≤ 9 := by omega
  have n5 : 10 ≤ o.kd := by omega
  have n6 : ¬ o.kd ≤ 21 := by omega
 rotate_left
 focus
  have n1 : (o.kd == 1) = false := by simp; omega
  have n2 : (o.kd == 2) = true := by simp; omega
 rotate_left
 all_goals
  have HP := hid hP
 focus
  have HAN := hid (show w2.drew.heap[O + 1]? = some (.cells zzA 43 (0, 0)) by rw [hO]; exact hP.an)
 rotate_left
 focus
  have HLT := hid hLT
  clear hR hLT
 rotate_left
 focus
  have HAN := hid (show w2.drew.heap[O + 1]? = some (.cells zzA 43 (0, 0)) by rw [hO]; exact hP.an)
 rotate_left
 focus
  have HAN := hid (show w2.drew.heap[O + 1]? = some (.cells zzA 43 (0, 0)) by rw [hO]; exact hP.an)
 rotate_left
 focus
  have HAN := hid (show w2.drew.heap[O + 1]? = some (.cells zzA 43 (0, 0)) by rw [hO]; exact hP.an)
 rotate_left
 all_goals
  clear hP k0 k1' k2' k3' k4' h2 o2 od hGd h ho x0' x1' xd' xf' kd' kf' lt e1 e2 hi hjj hO hxw hw2 hpt hpf
  go_enter Tryz.func8, Tryz.ntmps8
  go_wp2_with (first
    | refine wpList_box_op rfl (.tmp 1) rfl o sp o.raw.length cap rfl ?_)
  rw [← hW2.out, ← HOE.out]
  refine rgA (fun w' => Below w2.heap.size w2 w') (Below.refl _ _).drew (fun hq0 => ?_)
  refine tkA 0 (.pointer (some ⟨xw, 0, none⟩)) rfl hq0 ?_
  go_frame
  refine tkA 4 (.pointer (some ⟨O, 1, none⟩)) rfl hq0 ?_
  go_frame
  refine tkA 1 (.pointer (some ⟨xw, 0, none⟩)) rfl hq0 ?_
  go_frame
  refine tqA 5 (.int .i64 o.dk) rfl (yA (by intro w hS; have hc := (hS.cell (p := ⟨O, 1, none⟩) HOL.out).trans k1.out; go_simp)) hq0 ?_
  go_frame
  refine tkA 2 (.pointer (some ⟨xw, 0, none⟩)) rfl hq0 ?_
  go_frame
  refine tqA 3 (.slice (some ⟨bd, 0, none⟩) 2 cd) rfl (yA (by intro w hS; have hc := (hS.cell (p := ⟨xw, 0, none⟩) HXL.out).trans x0.out; go_simp)) hq0 ?_
  go_frame
  refine rdA 6 rfl (fun K hK => ?_)
  go_simp
  go_at_call 14
  refine (HPI.out _).mono ?_
  rintro e w4 ⟨rfl, rfl⟩
  go_wp2_with fail
  refine hK.out _ _ (hq0) ?_
  clear hK K hq0
  intro hq0
  try go_frame
  refine tkA 7 (.pointer (some ⟨bd, 0 + i, none⟩)) rfl hq0 ?_
  go_frame
 focus
  refine tqA 8 (.pointer none) rfl (yA (by intro w hS; have hc := (hS.cell (p := ⟨bd, i, none⟩) HDL.out).trans xd.out; go_simp)) hq0 ?_
 rotate_left
 focus
  refine tqA 8 (.pointer (some ⟨p, 0, none⟩)) rfl (yA (by intro w hS; have hc := (hS.cell (p := ⟨bd, i, none⟩) HDL.out).trans xd.out; go_simp)) hq0 ?_
 rotate_left
 focus
  refine tqA 8 (.pointer dp) rfl (yA (by intro w hS; have hc := (hS.cell (p := ⟨bd, i, none⟩) HDL.out).trans xd.out; go_simp)) hq0 ?_
 rotate_left
 focus
  refine tqA 8 (.pointer dp) rfl (yA (by intro w hS; have hc := (hS.cell (p := ⟨bd, i, none⟩) HDL.out).trans xd.out; go_simp)) hq0 ?_
 rotate_left
 focus
  refine tqA 8 (.pointer none) rfl (yA (by intro w hS; have hc := (hS.cell (p := ⟨bd, i, none⟩) HDL.out).trans xd.out; go_simp)) hq0 ?_
 rotate_left
 all_goals
  go_frame
 focus
  refine tkA 9 (.pointer none) rfl hq0 ?_
 rotate_left
 focus
  refine tkA 9 (.pointer (some ⟨p, 0, none⟩)) rfl hq0 ?_
 rotate_left
 focus
  refine tkA 9 (.pointer dp) rfl hq0 ?_
 rotate_left
 focus
  refine tkA 9 (.pointer dp) rfl hq0 ?_
 rotate_left
 focus
  refine tkA 9 (.pointer none) rfl hq0 ?_
 rotate_left
 all_goals
  go_frame
  refine wdA ?_
  clear hq0
 focus
  go_wp2_with (first
    | (go_at_call 14; refine (HPJ.out _).mono ?_; rintro e w4 ⟨rfl, rfl⟩)
    | (refine wpList_load_row_w (by rfl) 37 (.tmp 3) (by rfl) O (by rfl) 37 (o.C (.slice sp o.raw.length cap)) (0, 0) _ (by exact HOPR.out) Tryz.underlying37 rfl (by rw [size_op]; rfl) ?_)
    | (go_at_call 15; refine (xFormat_nil _ _).mono ?_; rintro e w4 ⟨rfl, rfl⟩)
    | refine wpA_0 rfl _ rfl _ rfl ?_
    | (refine wpList_store_row rfl 43 (.tmp 4) _ rfl (O + 1) (ansC 1 0 (.slice none 0 0) sup0 0 0 0 0) rfl rfl 43 zzA HAN.out (ansN _ _ _ _ _ _ _ _) rfl (ansO _ _ _ _ _ _ _ _ _ _) ?_))
 rotate_left
 focus
  go_wp2_with (first
    | (go_at_call 14; refine (HPJ.out _).mono ?_; rintro e w4 ⟨rfl, rfl⟩)
    | (refine wpList_load_row_w (by rfl) 37 (.tmp 3) (by rfl) O (by rfl) 37 (o.C (.slice sp o.raw.length cap)) (0, 0) _ (by exact HOPR.out) Tryz.underlying37 rfl (by rw [size_op]; rfl) ?_)
    | (go_at_call 15; refine HXD.out.mono ?_; rintro e w5 ⟨rfl, hX5⟩; have HX5 := hid (show RX base F p w2 (m + 6) Y.1 w5 from hX5.drew'); have HAN := hid (show w5.heap[O + 1]? = some (.cells zzA 43 (0, 0)) by rw [HOE.out]; exact HP.out.keep HLT.out HX5.out.choose_spec.2.1); clear hX5)
    | refine wpA_0 rfl _ rfl _ rfl ?_
    | (refine wpList_store_row rfl 43 (.tmp 4) _ rfl (O + 1) (ansC Y.2 0 (.slice none 0 0) sup0 0 0 0 0) rfl rfl 43 zzA HAN.out (ansN _ _ _ _ _ _ _ _) rfl (ansO _ _ _ _ _ _ _ _ _ _) ?_))
 rotate_left
 focus
  go_wp2_with (first
    | (go_at_call 14; refine (HPJ.out _).mono ?_; rintro e w4 ⟨rfl, rfl⟩)
    | (refine wpList_load_row_w (by rfl) 37 (.tmp 3) (by rfl) O (by rfl) 37 (o.C (.slice sp o.raw.length cap)) (0, 0) _ (by exact HOPR.out) Tryz.underlying37 rfl (by rw [size_op]; rfl) ?_)
    | refine wpA_z rfl rfl ?_
    | (refine wpList_store_row rfl 43 (.tmp 4) _ rfl (O + 1) (ansC 0 0 (.slice none 0 0) sup0 0 0 0 0) rfl rfl 43 zzA HAN.out (ansN _ _ _ _ _ _ _ _) rfl (ansO _ _ _ _ _ _ _ _ _ _) ?_))
 rotate_left
 focus
  go_wp2_with (first
    | (go_at_call 14; refine (HPJ.out _).mono ?_; rintro e w4 ⟨rfl, rfl⟩)
    | (refine wpList_load_row_w (by rfl) 37 (.tmp 3) (by rfl) O (by rfl) 37 (o.C (.slice sp o.raw.length cap)) (0, 0) _ (by exact HOPR.out) Tryz.underlying37 rfl (by rw [size_op]; rfl) ?_)
    | refine wpA_z rfl rfl ?_
    | (refine wpList_store_row rfl 43 (.tmp 4) _ rfl (O + 1) (ansC 0 0 (.slice none 0 0) sup0 0 0 0 0) rfl rfl 43 zzA HAN.out (ansN _ _ _ _ _ _ _ _) rfl (ansO _ _ _ _ _ _ _ _ _ _) ?_))
 rotate_left
 focus
  go_wp2_with (first
    | (go_at_call 14; refine (HPJ.out _).mono ?_; rintro e w4 ⟨rfl, rfl⟩)
    | (refine wpList_load_row_w (by rfl) 37 (.tmp 3) (by rfl) O (by rfl) 37 (o.C (.slice sp o.raw.length cap)) (0, 0) _ (by exact HOPR.out) Tryz.underlying37 rfl (by rw [size_op]; rfl) ?_)
    | (go_at_call 16; refine (xOpen_nil _).mono ?_; rintro e w4 ⟨rfl, rfl⟩)
    | refine wpA_0 rfl _ rfl _ rfl ?_
    | (refine wpList_store_row rfl 43 (.tmp 4) _ rfl (O + 1) (ansC 1 0 (.slice none 0 0) sup0 0 0 0 0) rfl rfl 43 zzA HAN.out (ansN _ _ _ _ _ _ _ _) rfl (ansO _ _ _ _ _ _ _ _ _ _) ?_))
 rotate_left
 all_goals
  refine bodyPost_ret (results_c1 Tryz.results8 _ _ (O + 1) 43 _ _ _ rfl (setRow_heap _ _ _ _ _ _ HAN.out) Tryz.underlying43 rfl (ansN _ _ _ _ _ _ _ _)) rfl ?_
  have hO := HOE.out
  subst hO
 · exact ⟨⟨.slice none 0 0, rfl, Own.nil _ _⟩, HP.out.endB _⟩
 · exact ⟨⟨.slice none 0 0, rfl, Own.nil _ _⟩, HP.out.endR HLT.out HX5.out _⟩
 · exact ⟨⟨.slice none 0 0, rfl, Own.nil _ _⟩, HP.out.endB _⟩
 · exact ⟨⟨.slice none 0 0, rfl, Own.nil _ _⟩, HP.out.endB _⟩
 · exact ⟨⟨.slice none 0 0, rfl, Own.nil _ _⟩, HP.out.endB _⟩
theorem xStep_ope (w : World) (base m : Nat) (hm : m + 8 < 400000000000) (P : PL) (A B : AW) (rm : List Int) (h : Inv base m w P A B rm) (o : OP) (i : Nat) (hi : i = plc o.dk 2) (j : Nat) (hjj : j = plc o.fl 3) (hk : o.kd = 2) (D : DS) (hD : B.d i = some D) (hE : (opnF D).2 ≠ 0) (sp : Option Addr) (cap : Nat) (ho : OpOk w o sp cap) :
   Calls Tryz.prog 8 #[.pointer (some ⟨P.xw, 0, none⟩), .agg (o.C (.slice sp o.raw.length cap))] w fun e w' => Told w.heap.size w' { an0 with e := (opnF D).2 } e ∧ RX base (P.Fr i) (P.px i) w (m + 3) (opnF D).1 w' := by
 have hi2 : i < 2 := by rw [hi]; exact plc_lt _ _ (by omega)
 have hj : j < 3 := by rw [hjj]; exact plc_lt _ _ (by omega)
 have hP := Pro.mk' w o (.slice sp o.raw.length cap)
 have k0 := hP.cell 0
 have k1' := hP.cell 1
 have k2' := hP.cell 2
 have k3' := hP.cell 3
 have k4' := hP.cell 4
 obtain ⟨w2, hw2⟩ : ∃ w2, w2 = (w.alloc (.cells (o.C (.slice sp o.raw.length cap)) 37)).alloc (.cells zzA 43) := ⟨_, rfl⟩
 have hW2 := hid hw2
 rw [← hw2] at hP k0 k1' k2' k3' k4'
 have h2 := h.below hP.bl
 have o2 := ho.below hP.bl
 have hb2 : base ≤ w2.drew.heap.size := Nat.le_trans h.sep.hb hP.bl.size
 have od : OpOk w2.drew o sp cap := ⟨o2.src.below (Below.refl _ w2).drew (Nat.le_refl _), o2.nil, o2.bts, o2.len, o2.bt, o2.n⟩
 have hGd : Gl w2.drew := h2.gl.below (B := w2.heap.size) (Below.refl _ w2).drew (by have := h2.gl.1; omega)
 obtain ⟨bd, cd, bf, cf, e1, e2, c1, c2, x0', x1', kd', kf'⟩ := h2.rowsX
 have hR := h.atR i hi2 hD
 have hLT : ∀ k ∈ P.Fr i, k < w.heap.size := fun k hk => (hR.lt k hk).2
 have HXD := hid ((xOpen_any w2.drew hGd base h.b0 (P.Fr i) (P.px i) m (by omega) hb2 D (h2.atR i hi2 hD).drew).mono (R' := fun e w' => e = .returned (.tuple #[.pointer none, .int .i64 (opnF D).2]) ∧ RX base (P.Fr i) (P.px i) w2 (m + 3) (opnF D).1 w') (fun e w' hh => ⟨hh.2.1 hE, RX.drew' ⟨P.Fr i, hh.2.2.1, hh.2.2.2, Gr.refl _ _⟩⟩))
 rw [e1] at x0'
 rw [e2] at x1'
 have xd' := kd' i hi2
 have xf' := kf' j hj
 have hpt : ptrD P.px B i = .pointer (some ⟨P.px i, 0, none⟩) := by unfold ptrD; rw [hD]; rfl
 obtain ⟨fp, hfp⟩ : ∃ fp, fp = (B.f j).map (fun _ => (⟨P.gx j, 0, none⟩ : Addr)) := ⟨_, rfl⟩
 have hpf : ptrF P.gx B j = .pointer fp := by unfold ptrF; rw [hfp]
 rw [hpt] at xd'
 rw [hpf] at xf'
 have lt : ∀ {k jj : Nat} {v : Value}, w2.cell? ⟨k, jj, none⟩ = some v → k < w2.heap.size := fun hv => World.block_lt_of_cell? _ _ hv
 have HPI := hid (fun (w4 : World) => (show Calls Tryz.prog 14 #[.int .i64 o.dk, .int .i64 2] w4 fun e w' => e = .returned (.int .i64 (i : Nat)) ∧ w4 = w' by rw [hi]; exact xplace_any w4 o.dk 2 (Or.inl rfl) 2 rfl))
 have HPJ := hid (fun (w4 : World) => (show Calls Tryz.prog 14 #[.int .i64 o.fl, .int .i64 3] w4 fun e w' => e = .returned (.int .i64 (j : Nat)) ∧ w4 = w' by rw [hjj]; exact xplace_any w4 o.fl 3 (Or.inr rfl) 3 rfl))
 obtain ⟨O, hO⟩ : ∃ O, O = w.heap.size := ⟨_, rfl⟩
 rw [← hO] at k0 k1' k2' k3' k4'
 obtain ⟨xw, hxw⟩ : ∃ xw, xw = P.xw := ⟨_, rfl⟩
 rw [← hxw] at x0' x1' ⊢
 have HOE := hid hO
 have HOPR := hid (show w2.heap[O]? = some (.cells (o.C (.slice sp o.raw.length cap)) 37 (0, 0)) by rw [hO]; exact hP.op)
 have x0 := hid x0'
 have xd := hid xd'
 have k1 := hid (show w2.cell? ⟨O, 1, none⟩ = some (.int .i64 o.dk) from k1')
 have HXL := hid (lt x0')
 have HOL := hid (lt k0)
 have HDL := hid (lt xd')
 have k0d : w2.drew.cell? ⟨O, 0, none⟩ = some (.int .i64 o.kd) := k0
 have k2d : w2.drew.cell? ⟨O, 2, none⟩ = some (.int .i64 o.fl) := k2'
 have k3d : w2.drew.cell? ⟨O, 3, none⟩ = some (.bool o.ow) := k3'
 have k4d : w2.drew.cell? ⟨O, 4, none⟩ = some (.int .i64 o.n) := k4'
 have x1d : w2.drew.cell? ⟨xw, 1, none⟩ = some (.slice (some ⟨bf, 0, none⟩) 3 cf) := x1'
 have xfd : w2.drew.cell? ⟨bf, j, none⟩ = some (.pointer fp) := xf'
 have ij : (j : Int) < 3 := by omega
 have ii : (i : Int) < 2 := by omega
 have n1 : (o.kd == 1) = false := by simp; omega
 have n2 : (o.kd == 2) = true := by simp; omega
 have n7 : ((opnF D).2 == 0) = false := by simp; exact hE
 generalize opnF D = Y at *
 generalize P.px i = p at *
 generalize P.Fr i = F at *
 have HP := hid hP
 have HLT := hid hLT
 clear hR hLT
 clear hP k0 k1' k2' k3' k4' h2 o2 od hGd h ho x0' x1' xd' xf' kd' kf' lt e1 e2 hi hjj hO hxw hw2 hpt hpf
 go_enter Tryz.func8, Tryz.ntmps8
 go_wp2_with (first
   | refine wpList_box_op rfl (.tmp 1) rfl o sp o.raw.length cap rfl ?_)
 rw [← hW2.out, ← HOE.out]
 refine rgA (fun w' => Below w2.heap.size w2 w') (Below.refl _ _).drew (fun hq0 => ?_)
 refine tkA 0 (.pointer (some ⟨xw, 0, none⟩)) rfl hq0 ?_
 go_frame
 refine tkA 4 (.pointer (some ⟨O, 1, none⟩)) rfl hq0 ?_
 go_frame
 refine tkA 1 (.pointer (some ⟨xw, 0, none⟩)) rfl hq0 ?_
 go_frame
 refine tqA 5 (.int .i64 o.dk) rfl (yA (by intro w hS; have hc := (hS.cell (p := ⟨O, 1, none⟩) HOL.out).trans k1.out; go_simp)) hq0 ?_
 go_frame
 refine tkA 2 (.pointer (some ⟨xw, 0, none⟩)) rfl hq0 ?_
 go_frame
 refine tqA 3 (.slice (some ⟨bd, 0, none⟩) 2 cd) rfl (yA (by intro w hS; have hc := (hS.cell (p := ⟨xw, 0, none⟩) HXL.out).trans x0.out; go_simp)) hq0 ?_
 go_frame
 refine rdA 6 rfl (fun K hK => ?_)
 go_simp
 go_at_call 14
 refine (HPI.out _).mono ?_
 rintro e w4 ⟨rfl, rfl⟩
 go_wp2_with fail
 refine hK.out _ _ (hq0) ?_
 clear hK K hq0
 intro hq0
 try go_frame
 refine tkA 7 (.pointer (some ⟨bd, 0 + i, none⟩)) rfl hq0 ?_
 go_frame
 refine tqA 8 (.pointer (some ⟨p, 0, none⟩)) rfl (yA (by intro w hS; have hc := (hS.cell (p := ⟨bd, i, none⟩) HDL.out).trans xd.out; go_simp)) hq0 ?_
 go_frame
 refine tkA 9 (.pointer (some ⟨p, 0, none⟩)) rfl hq0 ?_
 go_frame
 refine wdA ?_
 clear hq0
 go_wp2_with (first
   | (go_at_call 14; refine (HPJ.out _).mono ?_; rintro e w4 ⟨rfl, rfl⟩)
   | (refine wpList_load_row_w (by rfl) 37 (.tmp 3) (by rfl) O (by rfl) 37 (o.C (.slice sp o.raw.length cap)) (0, 0) _ (by exact HOPR.out) Tryz.underlying37 rfl (by rw [size_op]; rfl) ?_)
   | (go_at_call 16; refine HXD.out.mono ?_; rintro e w5 ⟨rfl, hX5⟩; have HX5 := hid hX5; have HAN := hid (show w5.heap[O + 1]? = some (.cells zzA 43 (0, 0)) by rw [HOE.out]; exact HP.out.keep HLT.out HX5.out.choose_spec.2.1); clear hX5)
   | refine wpA_0 rfl _ rfl _ rfl ?_
   | (refine wpList_store_row rfl 43 (.tmp 4) _ rfl (O + 1) (ansC Y.2 0 (.slice none 0 0) sup0 0 0 0 0) rfl rfl 43 zzA HAN.out (ansN _ _ _ _ _ _ _ _) rfl (ansO _ _ _ _ _ _ _ _ _ _) ?_))
 refine bodyPost_ret (results_c1 Tryz.results8 _ _ (O + 1) 43 _ _ _ rfl (setRow_heap _ _ _ _ _ _ HAN.out) Tryz.underlying43 rfl (ansN _ _ _ _ _ _ _ _)) rfl ?_
 have hO := HOE.out
 subst hO
 exact ⟨⟨.slice none 0 0, rfl, Own.nil _ _⟩, HP.out.endR HLT.out HX5.out _⟩
end
end Go.Proofs.YtjhocjjecfdphaaGreatDoor
