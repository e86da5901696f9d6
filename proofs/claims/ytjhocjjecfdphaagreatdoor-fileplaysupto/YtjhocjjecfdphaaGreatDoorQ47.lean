import Derived.Test.YtjhocjjecfdphaaGreatDoorQ44
namespace Go.Proofs.YtjhocjjecfdphaaGreatDoor
set_option linter.unusedVariables false
set_option linter.unusedSimpArgs false
set_option maxRecDepth 100000
set_option maxHeartbeats 4000000
section
open Go.RowKit
attribute [local go_sem ↓] Go.wp_at_zero Go.wp_at_succ
theorem lStG : (∀ (w : World) (base m : Nat) (P : PL) (A B : AW) (rm : List Int) (h : Inv base m w P A B rm) (o : OP) (i : Nat) (hi : i = plc o.dk 2) (j : Nat) (hjj : j = plc o.fl 3) (had : Bool) (hk : 10 ≤ o.kd ∧ o.kd ≤ 21) (how : o.ow = true) (hD : A.d i = none) (sp : Option Addr) (cap : Nat) (ho : OpOk w o sp cap), Calls Tryz.prog 9 #[.pointer (some ⟨P.pw, 0, none⟩), .agg (o.C (.slice sp o.raw.length cap)), .bool had] w fun e w' => Told2 w.heap.size w' an0 true e ∧ Below w.heap.size w w') ∧ (∀ (w : World) (base m : Nat) (P : PL) (A B : AW) (rm : List Int) (h : Inv base m w P A B rm) (o : OP) (i : Nat) (hi : i = plc o.dk 2) (j : Nat) (hjj : j = plc o.fl 3) (had : Bool) (hk : o.kd = 21) (how : o.ow = false) (hD : A.d i = none) (sp : Option Addr) (cap : Nat) (ho : OpOk w o sp cap), Calls Tryz.prog 9 #[.pointer (some ⟨P.pw, 0, none⟩), .agg (o.C (.slice sp o.raw.length cap)), .bool had] w fun e w' => Told2 w.heap.size w' an0 true e ∧ Below w.heap.size w w') ∧ (∀ (w : World) (base m : Nat) (P : PL) (A B : AW) (rm : List Int) (h : Inv base m w P A B rm) (o : OP) (i : Nat) (hi : i = plc o.dk 2) (j : Nat) (hjj : j = plc o.fl 3) (had : Bool) (hk : 10 ≤ o.kd ∧ o.kd ≤ 20) (how : o.ow = false) (hX : A.f j = none) (sp : Option Addr) (cap : Nat) (ho : OpOk w o sp cap), Calls Tryz.prog 9 #[.pointer (some ⟨P.pw, 0, none⟩), .agg (o.C (.slice sp o.raw.length cap)), .bool had] w fun e w' => Told2 w.heap.size w' an0 true e ∧ Below w.heap.size w w') ∧ (∀ (w : World) (base m : Nat) (P : PL) (A B : AW) (rm : List Int) (h : Inv base m w P A B rm) (o : OP) (i : Nat) (hi : i = plc o.dk 2) (j : Nat) (hjj : j = plc o.fl 3) (had : Bool) (hk : 3 ≤ o.kd ∧ o.kd ≤ 9) (hX : A.f j = none) (sp : Option Addr) (cap : Nat) (ho : OpOk w o sp cap), Calls Tryz.prog 9 #[.pointer (some ⟨P.pw, 0, none⟩), .agg (o.C (.slice sp o.raw.length cap)), .bool had] w fun e w' => Told2 w.heap.size w' an0 true e ∧ Below w.heap.size w w') ∧ (∀ (w : World) (base m : Nat) (P : PL) (A B : AW) (rm : List Int) (h : Inv base m w P A B rm) (o : OP) (i : Nat) (hi : i = plc o.dk 2) (j : Nat) (hjj : j = plc o.fl 3) (had : Bool) (hk : o.kd ≤ 0) (sp : Option Addr) (cap : Nat) (ho : OpOk w o sp cap), Calls Tryz.prog 9 #[.pointer (some ⟨P.pw, 0, none⟩), .agg (o.C (.slice sp o.raw.length cap)), .bool had] w fun e w' => Told2 w.heap.size w' an0 true e ∧ Below w.heap.size w w') ∧ (∀ (w : World) (base m : Nat) (P : PL) (A B : AW) (rm : List Int) (h : Inv base m w P A B rm) (o : OP) (i : Nat) (hi : i = plc o.dk 2) (j : Nat) (hjj : j = plc o.fl 3) (had : Bool) (hk : 22 ≤ o.kd) (sp : Option Addr) (cap : Nat) (ho : OpOk w o sp cap), Calls Tryz.prog 9 #[.pointer (some ⟨P.pw, 0, none⟩), .agg (o.C (.slice sp o.raw.length cap)), .bool had] w fun e w' => Told2 w.heap.size w' an0 true e ∧ Below w.heap.size w w') := by
 refine ⟨?_, ?_, ?_, ?_, ?_, ?_⟩
 focus
  intro w base m P A B rm h o i hi j hjj had hk how hD sp cap ho
 rotate_left
 focus
  intro w base m P A B rm h o i hi j hjj had hk how hD sp cap ho
 rotate_left
 focus
  intro w base m P A B rm h o i hi j hjj had hk how hX sp cap ho
 rotate_left
 focus
  intro w base m P A B rm h o i hi j hjj had hk hX sp cap ho
 rotate_left
 focus
  intro w base m P A B rm h o i hi j hjj had hk sp cap ho
 rotate_left
 focus
  intro w base m P A B rm h o i hi j hjj had hk sp cap ho
 rotate_left
 all_goals
  have hi2 : i < 2 := by rw [hi]; exact plc_lt _ _ (by omega)
  have hj : j < 3 := by rw [hjj]; exact plc_lt _ _ (by omega)
  have hP := Pro.mk' w o (.slice sp o.raw.length cap)
  have k0 := hP.cell 0
  have k1' := hP.cell 1
  have k2' := hP.cell 2
  have k3' := hP.cell 3
  have k4' := hP.cell 4
  obtain ⟨w2, hw2⟩ : ∃ w2, w2 = (w.alloc (.cells (o.C (.slice sp o.raw.length cap)) 37)).alloc (.cells zzA 43) := ⟨_, rfl⟩
  have hW2 := hid hw2
  rw [← hw2] at hP k0 k1' k2' k3' k4'
  have h2 := h.below hP.bl
  have o2 := ho.below hP.bl
  have hb2 : base ≤ w2.drew.heap.size := Nat.le_trans h.sep.hb hP.bl.size
  have od : OpOk w2.drew o sp cap := ⟨o2.src.below (Below.refl _ w2).drew (Nat.le_refl _), o2.nil, o2.bts, o2.len, o2.bt, o2.n⟩
  obtain ⟨bd, cd, bf, cf, e1, e2, c1, c2, x0', x1', kd', kf'⟩ := h2.rowsP
  rw [e1] at x0'
  rw [e2] at x1'
  have xd' := kd' i hi2
  have xf' := kf' j hj
 focus
  have hpt : ptrD P.pd A i = .pointer none := by unfold ptrD; rw [hD]; rfl
  obtain ⟨fp, hfp⟩ : ∃ fp, fp = (A.f j).map (fun _ => (⟨P.gf j, 0, none⟩ : Addr)) := ⟨_, rfl⟩
  have hpf : ptrF P.gf A j = .pointer fp := by unfold ptrF; rw [hfp]
 rotate_left
 focus
  have hpt : ptrD P.pd A i = .pointer none := by unfold ptrD; rw [hD]; rfl
  obtain ⟨fp, hfp⟩ : ∃ fp, fp = (A.f j).map (fun _ => (⟨P.gf j, 0, none⟩ : Addr)) := ⟨_, rfl⟩
  have hpf : ptrF P.gf A j = .pointer fp := by unfold ptrF; rw [hfp]
 rotate_left
 focus
  obtain ⟨dp, hdp⟩ : ∃ dp, dp = (A.d i).map (fun _ => (⟨P.pd i, 0, none⟩ : Addr)) := ⟨_, rfl⟩
  have hpt : ptrD P.pd A i = .pointer dp := by unfold ptrD; rw [hdp]
  have hpf : ptrF P.gf A j = .pointer none := by unfold ptrF; rw [hX]; rfl
 rotate_left
 focus
  obtain ⟨dp, hdp⟩ : ∃ dp, dp = (A.d i).map (fun _ => (⟨P.pd i, 0, none⟩ : Addr)) := ⟨_, rfl⟩
  have hpt : ptrD P.pd A i = .pointer dp := by unfold ptrD; rw [hdp]
  have hpf : ptrF P.gf A j = .pointer none := by unfold ptrF; rw [hX]; rfl
 rotate_left
 focus
  obtain ⟨dp, hdp⟩ : ∃ dp, dp = (A.d i).map (fun _ => (⟨P.pd i, 0, none⟩ : Addr)) := ⟨_, rfl⟩
  have hpt : ptrD P.pd A i = .pointer dp := by unfold ptrD; rw [hdp]
  obtain ⟨fp, hfp⟩ : ∃ fp, fp = (A.f j).map (fun _ => (⟨P.gf j, 0, none⟩ : Addr)) := ⟨_, rfl⟩
  have hpf : ptrF P.gf A j = .pointer fp := by unfold ptrF; rw [hfp]
 rotate_left
 focus
  obtain ⟨dp, hdp⟩ : ∃ dp, dp = (A.d i).map (fun _ => (⟨P.pd i, 0, none⟩ : Addr)) := ⟨_, rfl⟩
  have hpt : ptrD P.pd A i = .pointer dp := by unfold ptrD; rw [hdp]
  obtain ⟨fp, hfp⟩ : ∃ fp, fp = (A.f j).map (fun _ => (⟨P.gf j, 0, none⟩ : Addr)) := ⟨_, rfl⟩
  have hpf : ptrF P.gf A j = .pointer fp := by unfold ptrF; rw [hfp]
 rotate_left
 all_goals
  rw [hpt] at xd'
  rw [hpf] at xf'
  have lt : ∀ {k jj : Nat} {v : Value}, w2.cell? ⟨k, jj, none⟩ = some v → k < w2.heap.size := fun hv => World.block_lt_of_cell? _ _ hv
  have HPI := hid (fun (w4 : World) => (show Calls Tryz.prog 10 #[.int .i64 o.dk, .int .i64 2] w4 fun e w' => e = .returned (.int .i64 (i : Nat)) ∧ w4 = w' by rw [hi]; exact lplace_any w4 o.dk 2 (Or.inl rfl) 2 rfl))
  have HPJ := hid (fun (w4 : World) => (show Calls Tryz.prog 10 #[.int .i64 o.fl, .int .i64 3] w4 fun e w' => e = .returned (.int .i64 (j : Nat)) ∧ w4 = w' by rw [hjj]; exact lplace_any w4 o.fl 3 (Or.inr rfl) 3 rfl))
  obtain ⟨O, hO⟩ : ∃ O, O = w.heap.size := ⟨_, rfl⟩
  rw [← hO] at k0 k1' k2' k3' k4'
  obtain ⟨pw, hpw⟩ : ∃ pw, pw = P.pw := ⟨_, rfl⟩
  rw [← hpw] at x0' x1' ⊢
  have HOE := hid hO
  have HOPR := hid (show w2.heap[O]? = some (.cells (o.C (.slice sp o.raw.length cap)) 37 (0, 0)) by rw [hO]; exact hP.op)
  have x0 := hid x0'
  have xd := hid xd'
  have k1 := hid (show w2.cell? ⟨O, 1, none⟩ = some (.int .i64 o.dk) from k1')
  have HXL := hid (lt x0')
  have HOL := hid (lt k0)
  have HDL := hid (lt xd')
  have k0d : w2.drew.cell? ⟨O, 0, none⟩ = some (.int .i64 o.kd) := k0
  have k2d : w2.drew.cell? ⟨O, 2, none⟩ = some (.int .i64 o.fl) := k2'
 focus
  have k3d : w2.drew.cell? ⟨O, 3, none⟩ = some (.bool true) := by rw [← how]; exact k3'
 rotate_left
 focus
  have k3d : w2.drew.cell? ⟨O, 3, none⟩ = some (.bool false) := by rw [← how]; exact k3'
 rotate_left
 focus
  have k3d : w2.drew.cell? ⟨O, 3, none⟩ = some (.bool false) := by rw [← how]; exact k3'
 rotate_left
 focus
  have k3d : w2.drew.cell? ⟨O, 3, none⟩ = some (.bool o.ow) := k3'
 rotate_left
 focus
  have k3d : w2.drew.cell? ⟨O, 3, none⟩ = some (.bool o.ow) := k3'
 rotate_left
 focus
  have k3d : w2.drew.cell? ⟨O, 3, none⟩ = some (.bool o.ow) := k3'
 rotate_left
 all_goals
  have k4d : w2.drew.cell? ⟨O, 4, none⟩ = some (.int .i64 o.n) := k4'
  have x1d : w2.drew.cell? ⟨pw, 1, none⟩ = some (.slice (some ⟨bf, 0, none⟩) 3 cf) := x1'
 focus
  have xfd : w2.drew.cell? ⟨bf, j, none⟩ = some (.pointer fp) := xf'
 rotate_left
 focus
  have xfd : w2.drew.cell? ⟨bf, j, none⟩ = some (.pointer fp) := xf'
 rotate_left
 focus
  have xfd : w2.drew.cell? ⟨bf, j, none⟩ = some (.pointer none) := xf'
 rotate_left
 focus
  have xfd : w2.drew.cell? ⟨bf, j, none⟩ = some (.pointer none) := xf'
 rotate_left
 focus
  have xfd : w2.drew.cell? ⟨bf, j, none⟩ = some (.pointer fp) := xf'
 rotate_left
 focus
  have xfd : w2.drew.cell? ⟨bf, j, none⟩ = some (.pointer fp) := xf'
 rotate_left
 all_goals
  have ij : (j : Int) < 3 := by omega
  have ii : (i : Int) < 2 := by omega
  have n1 : (o.kd == 1) = false := by simp; omega
  have n2 : (o.kd == 2) = false := by simp; omega
 focus
  have n3 : 3 ≤ o.kd := by omega
  have n4 : ¬ o.kd ≤ 9 := by omega
  have n5 : 10 ≤ o.kd := by omega
  have n6 : o.kd ≤ 21 := by omega
 rotate_left
 focus
  have n3 : 3 ≤ o.kd := by omega
  have n4 : ¬ o.kd ≤ 9 := by omega
  have n5 : 10 ≤ o.kd := by omega
  have n6 : o.kd ≤ 21 := by omega
  have n7 : (o.kd != 21) = false := by simp; omega
 rotate_left
 focus
  have n3 : 3 ≤ o.kd := by omega
  have n4 : ¬ o.kd ≤ 9 := by omega
  have n5 : 10 ≤ o.kd := by omega
  have n6 : o.kd ≤ 21 := by omega
  have n7 : (o.kd != 21) = true := by simp; omega
 rotate_left
 focus
  have n3 : 3 ≤ o.kd := by omega
  have n4 : o.kd ≤ 9 := by omega
 rotate_left
 focus
  have n3 : ¬ 3 ≤ o.kd := by omega
  have n5 : ¬ 10 ≤ o.kd := by omega
 rotate_left
 focus
  have n3 : 3 ≤ o.kd := by omega
  have n4 : ¬ o.kd ≤ 9 := by omega
  have n5 : 10 ≤ o.kd := by omega
  have n6 : ¬ o.kd ≤ 21 := by omega
 rotate_left
 all_goals
  have HP := hid hP
  have HAN := hid (show w2.drew.heap[O + 1]? = some (.cells zzA 43 (0, 0)) by rw [hO]; exact hP.an)
  clear hP k0 k1' k2' k3' k4' h2 o2 od h ho x0' x1' xd' xf' kd' kf' lt e1 e2 hi hjj hO hpw hw2 hpt hpf
  go_enter Tryz.func9, Tryz.ntmps9
  go_wp2_with (first
    | refine wpList_box_op rfl (.tmp 1) rfl o sp o.raw.length cap rfl ?_)
  rw [← hW2.out, ← HOE.out]
  refine rgA (fun w' => Below w2.heap.size w2 w') (Below.refl _ _).drew (fun hq0 => ?_)
  refine tkA 0 (.pointer (some ⟨pw, 0, none⟩)) rfl hq0 ?_
  go_frame
  refine tkA 4 (.pointer (some ⟨O, 1, none⟩)) rfl hq0 ?_
  go_frame
  refine tkA 1 (.pointer (some ⟨pw, 0, none⟩)) rfl hq0 ?_
  go_frame
  refine tqA 5 (.int .i64 o.dk) rfl (yA (by intro w hS; have hc := (hS.cell (p := ⟨O, 1, none⟩) HOL.out).trans k1.out; go_simp)) hq0 ?_
  go_frame
  refine tkA 2 (.pointer (some ⟨pw, 0, none⟩)) rfl hq0 ?_
  go_frame
  refine tqA 3 (.slice (some ⟨bd, 0, none⟩) 2 cd) rfl (yA (by intro w hS; have hc := (hS.cell (p := ⟨pw, 0, none⟩) HXL.out).trans x0.out; go_simp)) hq0 ?_
  go_frame
  refine rdA 6 rfl (fun K hK => ?_)
  go_simp
  go_at_call 10
  refine (HPI.out _).mono ?_
  rintro e w4 ⟨rfl, rfl⟩
  go_wp2_with fail
  refine hK.out _ _ (hq0) ?_
  clear hK K hq0
  intro hq0
  try go_frame
  refine tkA 7 (.pointer (some ⟨bd, 0 + i, none⟩)) rfl hq0 ?_
  go_frame
 focus
  refine tqA 8 (.pointer none) rfl (yA (by intro w hS; have hc := (hS.cell (p := ⟨bd, i, none⟩) HDL.out).trans xd.out; go_simp)) hq0 ?_
 rotate_left
 focus
  refine tqA 8 (.pointer none) rfl (yA (by intro w hS; have hc := (hS.cell (p := ⟨bd, i, none⟩) HDL.out).trans xd.out; go_simp)) hq0 ?_
 rotate_left
 focus
  refine tqA 8 (.pointer dp) rfl (yA (by intro w hS; have hc := (hS.cell (p := ⟨bd, i, none⟩) HDL.out).trans xd.out; go_simp)) hq0 ?_
 rotate_left
 focus
  refine tqA 8 (.pointer dp) rfl (yA (by intro w hS; have hc := (hS.cell (p := ⟨bd, i, none⟩) HDL.out).trans xd.out; go_simp)) hq0 ?_
 rotate_left
 focus
  refine tqA 8 (.pointer dp) rfl (yA (by intro w hS; have hc := (hS.cell (p := ⟨bd, i, none⟩) HDL.out).trans xd.out; go_simp)) hq0 ?_
 rotate_left
 focus
  refine tqA 8 (.pointer dp) rfl (yA (by intro w hS; have hc := (hS.cell (p := ⟨bd, i, none⟩) HDL.out).trans xd.out; go_simp)) hq0 ?_
 rotate_left
 all_goals
  go_frame
 focus
  refine tkA 9 (.pointer none) rfl hq0 ?_
 rotate_left
 focus
  refine tkA 9 (.pointer none) rfl hq0 ?_
 rotate_left
 focus
  refine tkA 9 (.pointer dp) rfl hq0 ?_
 rotate_left
 focus
  refine tkA 9 (.pointer dp) rfl hq0 ?_
 rotate_left
 focus
  refine tkA 9 (.pointer dp) rfl hq0 ?_
 rotate_left
 focus
  refine tkA 9 (.pointer dp) rfl hq0 ?_
 rotate_left
 all_goals
  go_frame
  refine wdA ?_
  clear hq0
  go_wp2_with (first
    | (go_at_call 10; refine (HPJ.out _).mono ?_; rintro e w4 ⟨rfl, rfl⟩)
    | (refine wpList_load_row_w (by rfl) 37 (.tmp 4) (by rfl) O (by rfl) 37 (o.C (.slice sp o.raw.length cap)) (0, 0) _ (by exact HOPR.out) Tryz.underlying37 rfl (by rw [size_op]; rfl) ?_)
    | refine wpA_z rfl rfl ?_
    | (refine wpList_store_row rfl 43 (.tmp 6) _ rfl (O + 1) (ansC 0 0 (.slice none 0 0) sup0 0 0 0 0) rfl rfl 43 zzA HAN.out (ansN _ _ _ _ _ _ _ _) rfl (ansO _ _ _ _ _ _ _ _ _ _) ?_))
  refine bodyPost_ret (v := .tuple #[.agg (ansC 0 0 (.slice none 0 0) sup0 0 0 0 0), .bool true]) (results_c2 Tryz.results9 _ _ (O + 1) 43 _ _ _ (by first | rfl | simp) (setRow_heap _ _ _ _ _ _ (HAN.out)) Tryz.underlying43 rfl (ansN _ _ _ _ _ _ _ _)) rfl ?_
  have hO := HOE.out
  subst hO
  exact ⟨⟨.slice none 0 0, rfl, Own.nil _ _⟩, HP.out.endB _⟩
theorem lStH : (∀ (w : World) (base m : Nat) (P : PL) (A B : AW) (rm : List Int) (h : Inv base m w P A B rm) (o : OP) (i : Nat) (hi : i = plc o.dk 2) (j : Nat) (hjj : j = plc o.fl 3) (had : Bool) (hk : o.kd = 1) (hD : A.d i = none) (sp : Option Addr) (cap : Nat) (ho : OpOk w o sp cap), Calls Tryz.prog 9 #[.pointer (some ⟨P.pw, 0, none⟩), .agg (o.C (.slice sp o.raw.length cap)), .bool had] w fun e w' => Told2 w.heap.size w' { an0 with e := 1 } true e ∧ Below w.heap.size w w') ∧ (∀ (w : World) (base m : Nat) (P : PL) (A B : AW) (rm : List Int) (h : Inv base m w P A B rm) (o : OP) (i : Nat) (hi : i = plc o.dk 2) (j : Nat) (hjj : j = plc o.fl 3) (had : Bool) (hk : o.kd = 1) (D : DS) (hD : A.d i = some D) (hr : Rm D) (hr4 : D.ops.length + 4 < 400000000000 ∧ D.writes + 4 < 4000000000000000000 ∧ D.syncs + 4 < 4000000000000000000) (sp : Option Addr) (cap : Nat) (ho : OpOk w o sp cap), Calls Tryz.prog 9 #[.pointer (some ⟨P.pw, 0, none⟩), .agg (o.C (.slice sp o.raw.length cap)), .bool had] w fun e w' => Told2 w.heap.size w' { an0 with e := (fmtF D o.n).2 } true e ∧ Nx base (P.Fd i) (P.pd i) w (fmtF D o.n).1 w') ∧ (∀ (w : World) (base m : Nat) (P : PL) (A B : AW) (rm : List Int) (h : Inv base m w P A B rm) (o : OP) (i : Nat) (hi : i = plc o.dk 2) (j : Nat) (hjj : j = plc o.fl 3) (had : Bool) (hk : 10 ≤ o.kd ∧ o.kd ≤ 21) (how : o.ow = true) (D : DS) (hD : A.d i = some D) (hr : Rm D) (sp : Option Addr) (cap : Nat) (ho : OpOk w o sp cap), Calls Tryz.prog 9 #[.pointer (some ⟨P.pw, 0, none⟩), .agg (o.C (.slice sp o.raw.length cap)), .bool had] w fun e w' => Told2 w.heap.size w' (dskF D o).2 true e ∧ Nx base (P.Fd i) (P.pd i) w (dskF D o).1 w') ∧ (∀ (w : World) (base m : Nat) (P : PL) (A B : AW) (rm : List Int) (h : Inv base m w P A B rm) (o : OP) (i : Nat) (hi : i = plc o.dk 2) (j : Nat) (hjj : j = plc o.fl 3) (had : Bool) (hk : o.kd = 21) (how : o.ow = false) (D : DS) (hD : A.d i = some D) (hr : Rm D) (sp : Option Addr) (cap : Nat) (ho : OpOk w o sp cap), Calls Tryz.prog 9 #[.pointer (some ⟨P.pw, 0, none⟩), .agg (o.C (.slice sp o.raw.length cap)), .bool had] w fun e w' => Told2 w.heap.size w' (dskF D o).2 true e ∧ Nx base (P.Fd i) (P.pd i) w (dskF D o).1 w') ∧ (∀ (w : World) (base m : Nat) (P : PL) (A B : AW) (rm : List Int) (h : Inv base m w P A B rm) (o : OP) (i : Nat) (hi : i = plc o.dk 2) (j : Nat) (hjj : j = plc o.fl 3) (had : Bool) (hk : 10 ≤ o.kd ∧ o.kd ≤ 20) (how : o.ow = false) (x : FI) (hX : A.f j = some x) (D : DS) (hD : A.d x.dk = some D) (hr : Rm D) (sp : Option Addr) (cap : Nat) (ho : OpOk w o sp cap), Calls Tryz.prog 9 #[.pointer (some ⟨P.pw, 0, none⟩), .agg (o.C (.slice sp o.raw.length cap)), .bool had] w fun e w' => Told2 w.heap.size w' (dskF D o).2 true e ∧ Nx base (P.Fd x.dk) (P.pd x.dk) w (dskF D o).1 w') := by
 refine ⟨?_, ?_, ?_, ?_, ?_⟩
 focus
  intro w base m P A B rm h o i hi j hjj had hk hD sp cap ho
 rotate_left
 focus
  intro w base m P A B rm h o i hi j hjj had hk D hD hr hr4 sp cap ho
 rotate_left
 focus
  intro w base m P A B rm h o i hi j hjj had hk how D hD hr sp cap ho
 rotate_left
 focus
  intro w base m P A B rm h o i hi j hjj had hk how D hD hr sp cap ho
 rotate_left
 focus
  intro w base m P A B rm h o i hi j hjj had hk how x hX D hD hr sp cap ho
 rotate_left
 all_goals
  have hi2 : i < 2 := by rw [hi]; exact plc_lt _ _ (by omega)
  have hj : j < 3 := by rw [hjj]; exact plc_lt _ _ (by omega)
  have hP := Pro.mk' w o (.slice sp o.raw.length cap)
  have k0 := hP.cell 0
  have k1' := hP.cell 1
  have k2' := hP.cell 2
  have k3' := hP.cell 3
  have k4' := hP.cell 4
  obtain ⟨w2, hw2⟩ : ∃ w2, w2 = (w.alloc (.cells (o.C (.slice sp o.raw.length cap)) 37)).alloc (.cells zzA 43) := ⟨_, rfl⟩
  have hW2 := hid hw2
  rw [← hw2] at hP k0 k1' k2' k3' k4'
  have h2 := h.below hP.bl
  have o2 := ho.below hP.bl
  have hb2 : base ≤ w2.drew.heap.size := Nat.le_trans h.sep.hb hP.bl.size
  have od : OpOk w2.drew o sp cap := ⟨o2.src.below (Below.refl _ w2).drew (Nat.le_refl _), o2.nil, o2.bts, o2.len, o2.bt, o2.n⟩
  obtain ⟨bd, cd, bf, cf, e1, e2, c1, c2, x0', x1', kd', kf'⟩ := h2.rowsP
 rotate_left
 focus
  have hR := h.atD i hi2 hD
  have hLT : ∀ k ∈ P.Fd i, k < w.heap.size := fun k hk => (hR.lt k hk).2
  have HXD := hid (Format_any w2.drew base (P.Fd i) (P.pd i) D (h2.atD i hi2 hD).drew hb2 hr.rd hr4.1 hr4.2.1 hr4.2.2 o.n)
 rotate_left
 focus
  have hR := h.atD i hi2 hD
  have hLT : ∀ k ∈ P.Fd i, k < w.heap.size := fun k hk => (hR.lt k hk).2
  have HXD := hid (byDisk_any w2.drew base (P.Fd i) (P.pd i) hb2 D hr (h2.atD i hi2 hD).drew o ⟨by omega, by omega⟩ sp cap od)
 rotate_left
 focus
  have hR := h.atD i hi2 hD
  have hLT : ∀ k ∈ P.Fd i, k < w.heap.size := fun k hk => (hR.lt k hk).2
  have HXD := hid (byDisk_any w2.drew base (P.Fd i) (P.pd i) hb2 D hr (h2.atD i hi2 hD).drew o ⟨by omega, by omega⟩ sp cap od)
 rotate_left
 focus
  have hx2 : x.dk < 2 := by have := (h.ga.fi j x hX).1; omega
  have hR := h.atD x.dk hx2 hD
  have hLT : ∀ k ∈ P.Fd x.dk, k < w.heap.size := fun k hk => (hR.lt k hk).2
  have hG2 := h2.atF j hj hX
  have HXD := hid (byFile_any w2.drew base (P.Fd x.dk) (P.pd x.dk) hb2 D hr (h2.atD x.dk hx2 hD).drew (P.gf j) x.s x.nx x.ep hG2.drew o ⟨by omega, by omega⟩ sp cap od)
 rotate_left
 all_goals
  rw [e1] at x0'
  rw [e2] at x1'
  have xd' := kd' i hi2
  have xf' := kf' j hj
 focus
  have hpt : ptrD P.pd A i = .pointer none := by unfold ptrD; rw [hD]; rfl
  obtain ⟨fp, hfp⟩ : ∃ fp, fp = (A.f j).map (fun _ => (⟨P.gf j, 0, none⟩ : Addr)) := ⟨_, rfl⟩
  have hpf : ptrF P.gf A j = .pointer fp := by unfold ptrF; rw [hfp]
 rotate_left
 focus
  have hpt : ptrD P.pd A i = .pointer (some ⟨P.pd i, 0, none⟩) := by unfold ptrD; rw [hD]; rfl
  obtain ⟨fp, hfp⟩ : ∃ fp, fp = (A.f j).map (fun _ => (⟨P.gf j, 0, none⟩ : Addr)) := ⟨_, rfl⟩
  have hpf : ptrF P.gf A j = .pointer fp := by unfold ptrF; rw [hfp]
 rotate_left
 focus
  have hpt : ptrD P.pd A i = .pointer (some ⟨P.pd i, 0, none⟩) := by unfold ptrD; rw [hD]; rfl
  obtain ⟨fp, hfp⟩ : ∃ fp, fp = (A.f j).map (fun _ => (⟨P.gf j, 0, none⟩ : Addr)) := ⟨_, rfl⟩
  have hpf : ptrF P.gf A j = .pointer fp := by unfold ptrF; rw [hfp]
 rotate_left
 focus
  have hpt : ptrD P.pd A i = .pointer (some ⟨P.pd i, 0, none⟩) := by unfold ptrD; rw [hD]; rfl
  obtain ⟨fp, hfp⟩ : ∃ fp, fp = (A.f j).map (fun _ => (⟨P.gf j, 0, none⟩ : Addr)) := ⟨_, rfl⟩
  have hpf : ptrF P.gf A j = .pointer fp := by unfold ptrF; rw [hfp]
 rotate_left
 focus
  obtain ⟨dp, hdp⟩ : ∃ dp, dp = (A.d i).map (fun _ => (⟨P.pd i, 0, none⟩ : Addr)) := ⟨_, rfl⟩
  have hpt : ptrD P.pd A i = .pointer dp := by unfold ptrD; rw [hdp]
  have hpf : ptrF P.gf A j = .pointer (some ⟨P.gf j, 0, none⟩) := by unfold ptrF; rw [hX]; rfl
 rotate_left
 all_goals
  rw [hpt] at xd'
  rw [hpf] at xf'
  have lt : ∀ {k jj : Nat} {v : Value}, w2.cell? ⟨k, jj, none⟩ = some v → k < w2.heap.size := fun hv => World.block_lt_of_cell? _ _ hv
  have HPI := hid (fun (w4 : World) => (show Calls Tryz.prog 10 #[.int .i64 o.dk, .int .i64 2] w4 fun e w' => e = .returned (.int .i64 (i : Nat)) ∧ w4 = w' by rw [hi]; exact lplace_any w4 o.dk 2 (Or.inl rfl) 2 rfl))
  have HPJ := hid (fun (w4 : World) => (show Calls Tryz.prog 10 #[.int .i64 o.fl, .int .i64 3] w4 fun e w' => e = .returned (.int .i64 (j : Nat)) ∧ w4 = w' by rw [hjj]; exact lplace_any w4 o.fl 3 (Or.inr rfl) 3 rfl))
  obtain ⟨O, hO⟩ : ∃ O, O = w.heap.size := ⟨_, rfl⟩
  rw [← hO] at k0 k1' k2' k3' k4'
  obtain ⟨pw, hpw⟩ : ∃ pw, pw = P.pw := ⟨_, rfl⟩
  rw [← hpw] at x0' x1' ⊢
  have HOE := hid hO
  have HOPR := hid (show w2.heap[O]? = some (.cells (o.C (.slice sp o.raw.length cap)) 37 (0, 0)) by rw [hO]; exact hP.op)
  have x0 := hid x0'
  have xd := hid xd'
  have k1 := hid (show w2.cell? ⟨O, 1, none⟩ = some (.int .i64 o.dk) from k1')
  have HXL := hid (lt x0')
  have HOL := hid (lt k0)
  have HDL := hid (lt xd')
  have k0d : w2.drew.cell? ⟨O, 0, none⟩ = some (.int .i64 o.kd) := k0
  have k2d : w2.drew.cell? ⟨O, 2, none⟩ = some (.int .i64 o.fl) := k2'
 focus
  have k3d : w2.drew.cell? ⟨O, 3, none⟩ = some (.bool o.ow) := k3'
 rotate_left
 focus
  have k3d : w2.drew.cell? ⟨O, 3, none⟩ = some (.bool o.ow) := k3'
 rotate_left
 focus
  have k3d : w2.drew.cell? ⟨O, 3, none⟩ = some (.bool true) := by rw [← how]; exact k3'
 rotate_left
 focus
  have k3d : w2.drew.cell? ⟨O, 3, none⟩ = some (.bool false) := by rw [← how]; exact k3'
 rotate_left
 focus
  have k3d : w2.drew.cell? ⟨O, 3, none⟩ = some (.bool false) := by rw [← how]; exact k3'
 rotate_left
 all_goals
  have k4d : w2.drew.cell? ⟨O, 4, none⟩ = some (.int .i64 o.n) := k4'
  have x1d : w2.drew.cell? ⟨pw, 1, none⟩ = some (.slice (some ⟨bf, 0, none⟩) 3 cf) := x1'
 focus
  have xfd : w2.drew.cell? ⟨bf, j, none⟩ = some (.pointer fp) := xf'
 rotate_left
 focus
  have xfd : w2.drew.cell? ⟨bf, j, none⟩ = some (.pointer fp) := xf'
 rotate_left
 focus
  have xfd : w2.drew.cell? ⟨bf, j, none⟩ = some (.pointer fp) := xf'
 rotate_left
 focus
  have xfd : w2.drew.cell? ⟨bf, j, none⟩ = some (.pointer fp) := xf'
 rotate_left
 focus
  have xfd : w2.drew.cell? ⟨bf, j, none⟩ = some (.pointer (some ⟨P.gf j, 0, none⟩)) := xf'
 rotate_left
 all_goals
  have ij : (j : Int) < 3 := by omega
  have ii : (i : Int) < 2 := by omega
 focus
  have n1 : (o.kd == 1) = true := by simp; omega
 rotate_left
 focus
  have n1 : (o.kd == 1) = true := by simp; omega
  generalize fmtF D o.n = Y at *
  generalize P.pd i = p at *
  generalize P.Fd i = F at *
 rotate_left
 focus
  have n1 : (o.kd == 1) = false := by simp; omega
  have n2 : (o.kd == 2) = false := by simp; omega
  have n3 : 3 ≤ o.kd := by omega
  have n4 : ¬ o.kd ≤ 9 := by omega
  have n5 : 10 ≤ o.kd := by omega
  have n6 : o.kd ≤ 21 := by omega
  generalize dskF D o = Y at *
  generalize P.pd i = p at *
  generalize P.Fd i = F at *
 rotate_left
 focus
  have n1 : (o.kd == 1) = false := by simp; omega
  have n2 : (o.kd == 2) = false := by simp; omega
  have n3 : 3 ≤ o.kd := by omega
  have n4 : ¬ o.kd ≤ 9 := by omega
  have n5 : 10 ≤ o.kd := by omega
  have n6 : o.kd ≤ 21 := by omega
  have n7 : (o.kd != 21) = false := by simp; omega
  generalize dskF D o = Y at *
  generalize P.pd i = p at *
  generalize P.Fd i = F at *
 rotate_left
 focus
  have n1 : (o.kd == 1) = false := by simp; omega
  have n2 : (o.kd == 2) = false := by simp; omega
  have n3 : 3 ≤ o.kd := by omega
  have n4 : ¬ o.kd ≤ 9 := by omega
  have n5 : 10 ≤ o.kd := by omega
  have n6 : o.kd ≤ 21 := by omega
  have n7 : (o.kd != 21) = true := by simp; omega
  generalize dskF D o = Y at *
  generalize P.pd x.dk = p at *
  generalize P.Fd x.dk = F at *
 rotate_left
 all_goals
  have HP := hid hP
 focus
  have HAN := hid (show w2.drew.heap[O + 1]? = some (.cells zzA 43 (0, 0)) by rw [hO]; exact hP.an)
 rotate_left
 focus
  have HLT := hid hLT
  clear hR hLT
 rotate_left
 focus
  have HLT := hid hLT
  clear hR hLT
 rotate_left
 focus
  have HLT := hid hLT
  clear hR hLT
 rotate_left
 focus
  have HLT := hid hLT
  clear hR hLT
  clear hG2
 rotate_left
 all_goals
  clear hP k0 k1' k2' k3' k4' h2 o2 od h ho x0' x1' xd' xf' kd' kf' lt e1 e2 hi hjj hO hpw hw2 hpt hpf
  go_enter Tryz.func9, Tryz.ntmps9
  go_wp2_with (first
    | refine wpList_box_op rfl (.tmp 1) rfl o sp o.raw.length cap rfl ?_)
  rw [← hW2.out, ← HOE.out]
  refine rgA (fun w' => Below w2.heap.size w2 w') (Below.refl _ _).drew (fun hq0 => ?_)
  refine tkA 0 (.pointer (some ⟨pw, 0, none⟩)) rfl hq0 ?_
  go_frame
  refine tkA 4 (.pointer (some ⟨O, 1, none⟩)) rfl hq0 ?_
  go_frame
  refine tkA 1 (.pointer (some ⟨pw, 0, none⟩)) rfl hq0 ?_
  go_frame
  refine tqA 5 (.int .i64 o.dk) rfl (yA (by intro w hS; have hc := (hS.cell (p := ⟨O, 1, none⟩) HOL.out).trans k1.out; go_simp)) hq0 ?_
  go_frame
  refine tkA 2 (.pointer (some ⟨pw, 0, none⟩)) rfl hq0 ?_
  go_frame
  refine tqA 3 (.slice (some ⟨bd, 0, none⟩) 2 cd) rfl (yA (by intro w hS; have hc := (hS.cell (p := ⟨pw, 0, none⟩) HXL.out).trans x0.out; go_simp)) hq0 ?_
  go_frame
  refine rdA 6 rfl (fun K hK => ?_)
  go_simp
  go_at_call 10
  refine (HPI.out _).mono ?_
  rintro e w4 ⟨rfl, rfl⟩
  go_wp2_with fail
  refine hK.out _ _ (hq0) ?_
  clear hK K hq0
  intro hq0
  try go_frame
  refine tkA 7 (.pointer (some ⟨bd, 0 + i, none⟩)) rfl hq0 ?_
  go_frame
 focus
  refine tqA 8 (.pointer none) rfl (yA (by intro w hS; have hc := (hS.cell (p := ⟨bd, i, none⟩) HDL.out).trans xd.out; go_simp)) hq0 ?_
 rotate_left
 focus
  refine tqA 8 (.pointer (some ⟨p, 0, none⟩)) rfl (yA (by intro w hS; have hc := (hS.cell (p := ⟨bd, i, none⟩) HDL.out).trans xd.out; go_simp)) hq0 ?_
 rotate_left
 focus
  refine tqA 8 (.pointer (some ⟨p, 0, none⟩)) rfl (yA (by intro w hS; have hc := (hS.cell (p := ⟨bd, i, none⟩) HDL.out).trans xd.out; go_simp)) hq0 ?_
 rotate_left
 focus
  refine tqA 8 (.pointer (some ⟨p, 0, none⟩)) rfl (yA (by intro w hS; have hc := (hS.cell (p := ⟨bd, i, none⟩) HDL.out).trans xd.out; go_simp)) hq0 ?_
 rotate_left
 focus
  refine tqA 8 (.pointer dp) rfl (yA (by intro w hS; have hc := (hS.cell (p := ⟨bd, i, none⟩) HDL.out).trans xd.out; go_simp)) hq0 ?_
 rotate_left
 all_goals
  go_frame
 focus
  refine tkA 9 (.pointer none) rfl hq0 ?_
 rotate_left
 focus
  refine tkA 9 (.pointer (some ⟨p, 0, none⟩)) rfl hq0 ?_
 rotate_left
 focus
  refine tkA 9 (.pointer (some ⟨p, 0, none⟩)) rfl hq0 ?_
 rotate_left
 focus
  refine tkA 9 (.pointer (some ⟨p, 0, none⟩)) rfl hq0 ?_
 rotate_left
 focus
  refine tkA 9 (.pointer dp) rfl hq0 ?_
 rotate_left
 all_goals
  go_frame
  refine wdA ?_
  clear hq0
 focus
  go_wp2_with (first
    | (go_at_call 10; refine (HPJ.out _).mono ?_; rintro e w4 ⟨rfl, rfl⟩)
    | (refine wpList_load_row_w (by rfl) 37 (.tmp 4) (by rfl) O (by rfl) 37 (o.C (.slice sp o.raw.length cap)) (0, 0) _ (by exact HOPR.out) Tryz.underlying37 rfl (by rw [size_op]; rfl) ?_)
    | (go_at_call 19; refine (Format_nil _ _).mono ?_; rintro e w4 ⟨rfl, rfl⟩)
    | refine wpA_0 rfl _ rfl _ rfl ?_
    | (refine wpList_store_row rfl 43 (.tmp 6) _ rfl (O + 1) (ansC 1 0 (.slice none 0 0) sup0 0 0 0 0) rfl rfl 43 zzA HAN.out (ansN _ _ _ _ _ _ _ _) rfl (ansO _ _ _ _ _ _ _ _ _ _) ?_))
  refine bodyPost_ret (v := .tuple #[.agg (ansC 1 0 (.slice none 0 0) sup0 0 0 0 0), .bool true]) (results_c2 Tryz.results9 _ _ (O + 1) 43 _ _ _ (by first | rfl | simp) (setRow_heap _ _ _ _ _ _ (HAN.out)) Tryz.underlying43 rfl (ansN _ _ _ _ _ _ _ _)) rfl ?_
 rotate_left
 focus
  go_wp2_with (first
    | (go_at_call 10; refine (HPJ.out _).mono ?_; rintro e w4 ⟨rfl, rfl⟩)
    | (refine wpList_load_row_w (by rfl) 37 (.tmp 4) (by rfl) O (by rfl) 37 (o.C (.slice sp o.raw.length cap)) (0, 0) _ (by exact HOPR.out) Tryz.underlying37 rfl (by rw [size_op]; rfl) ?_)
    | (go_at_call 19; refine HXD.out.mono ?_; rintro e w5 ⟨rfl, hX5⟩; have HX5 := hid (show Nx base F p w2 Y.1 w5 from hX5.drew'); have HAN := hid (show w5.heap[O + 1]? = some (.cells zzA 43 (0, 0)) by rw [HOE.out]; exact HP.out.keep HLT.out HX5.out.choose_spec.2.1); clear hX5)
    | refine wpA_0 rfl _ rfl _ rfl ?_
    | (refine wpList_store_row rfl 43 (.tmp 6) _ rfl (O + 1) (ansC Y.2 0 (.slice none 0 0) sup0 0 0 0 0) rfl rfl 43 zzA HAN.out (ansN _ _ _ _ _ _ _ _) rfl (ansO _ _ _ _ _ _ _ _ _ _) ?_))
  refine bodyPost_ret (v := .tuple #[.agg (ansC Y.2 0 (.slice none 0 0) sup0 0 0 0 0), .bool true]) (results_c2 Tryz.results9 _ _ (O + 1) 43 _ _ _ (by first | rfl | simp) (setRow_heap _ _ _ _ _ _ (HAN.out)) Tryz.underlying43 rfl (ansN _ _ _ _ _ _ _ _)) rfl ?_
 rotate_left
 focus
  go_wp2_with (first
    | (go_at_call 10; refine (HPJ.out _).mono ?_; rintro e w4 ⟨rfl, rfl⟩)
    | (refine wpList_load_row_w (by rfl) 37 (.tmp 4) (by rfl) O (by rfl) 37 (o.C (.slice sp o.raw.length cap)) (0, 0) _ (by exact HOPR.out) Tryz.underlying37 rfl (by rw [size_op]; rfl) ?_)
    | (go_at_call 23; refine HXD.out.mono ?_; rintro e w5 ⟨⟨v, rfl, hO5⟩, hX5⟩; have HO5 := hid hO5; have HX5 := hid (show Nx base F p w2 Y.1 w5 from hX5.drew'); obtain ⟨sv, cv, hv, _, _⟩ := hO5.form; subst hv; have HAN := hid (show w5.heap[O + 1]? = some (.cells zzA 43 (0, 0)) by rw [HOE.out]; exact HP.out.keep HLT.out HX5.out.choose_spec.2.1); clear hO5 hX5)
    | (refine wpList_store_row rfl 43 (.tmp 6) _ rfl (O + 1) (ansC Y.2.e Y.2.n (.slice sv Y.2.raw.length cv) Y.2.s Y.2.c1 Y.2.c2 Y.2.c3 Y.2.c4) rfl rfl 43 zzA HAN.out (ansN _ _ _ _ _ _ _ _) rfl (ansO _ _ _ _ _ _ _ _ _ _) ?_))
  refine bodyPost_ret (v := .tuple #[.agg (ansC Y.2.e Y.2.n (.slice sv Y.2.raw.length cv) Y.2.s Y.2.c1 Y.2.c2 Y.2.c3 Y.2.c4), .bool true]) (results_c2 Tryz.results9 _ _ (O + 1) 43 _ _ _ (by first | rfl | simp) (setRow_heap _ _ _ _ _ _ (HAN.out)) Tryz.underlying43 rfl (ansN _ _ _ _ _ _ _ _)) rfl ?_
 rotate_left
 focus
  go_wp2_with (first
    | (go_at_call 10; refine (HPJ.out _).mono ?_; rintro e w4 ⟨rfl, rfl⟩)
    | (refine wpList_load_row_w (by rfl) 37 (.tmp 4) (by rfl) O (by rfl) 37 (o.C (.slice sp o.raw.length cap)) (0, 0) _ (by exact HOPR.out) Tryz.underlying37 rfl (by rw [size_op]; rfl) ?_)
    | (go_at_call 23; refine HXD.out.mono ?_; rintro e w5 ⟨⟨v, rfl, hO5⟩, hX5⟩; have HO5 := hid hO5; have HX5 := hid (show Nx base F p w2 Y.1 w5 from hX5.drew'); obtain ⟨sv, cv, hv, _, _⟩ := hO5.form; subst hv; have HAN := hid (show w5.heap[O + 1]? = some (.cells zzA 43 (0, 0)) by rw [HOE.out]; exact HP.out.keep HLT.out HX5.out.choose_spec.2.1); clear hO5 hX5)
    | (refine wpList_store_row rfl 43 (.tmp 6) _ rfl (O + 1) (ansC Y.2.e Y.2.n (.slice sv Y.2.raw.length cv) Y.2.s Y.2.c1 Y.2.c2 Y.2.c3 Y.2.c4) rfl rfl 43 zzA HAN.out (ansN _ _ _ _ _ _ _ _) rfl (ansO _ _ _ _ _ _ _ _ _ _) ?_))
  refine bodyPost_ret (v := .tuple #[.agg (ansC Y.2.e Y.2.n (.slice sv Y.2.raw.length cv) Y.2.s Y.2.c1 Y.2.c2 Y.2.c3 Y.2.c4), .bool true]) (results_c2 Tryz.results9 _ _ (O + 1) 43 _ _ _ (by first | rfl | simp) (setRow_heap _ _ _ _ _ _ (HAN.out)) Tryz.underlying43 rfl (ansN _ _ _ _ _ _ _ _)) rfl ?_
 rotate_left
 focus
  go_wp2_with (first
    | (go_at_call 10; refine (HPJ.out _).mono ?_; rintro e w4 ⟨rfl, rfl⟩)
    | (refine wpList_load_row_w (by rfl) 37 (.tmp 4) (by rfl) O (by rfl) 37 (o.C (.slice sp o.raw.length cap)) (0, 0) _ (by exact HOPR.out) Tryz.underlying37 rfl (by rw [size_op]; rfl) ?_)
    | (go_at_call 22; refine HXD.out.mono ?_; rintro e w5 ⟨⟨v, rfl, hO5⟩, hX5⟩; have HO5 := hid hO5; have HX5 := hid (show Nx base F p w2 Y.1 w5 from hX5.drew'); obtain ⟨sv, cv, hv, _, _⟩ := hO5.form; subst hv; have HAN := hid (show w5.heap[O + 1]? = some (.cells zzA 43 (0, 0)) by rw [HOE.out]; exact HP.out.keep HLT.out HX5.out.choose_spec.2.1); clear hO5 hX5)
    | (refine wpList_store_row rfl 43 (.tmp 6) _ rfl (O + 1) (ansC Y.2.e Y.2.n (.slice sv Y.2.raw.length cv) Y.2.s Y.2.c1 Y.2.c2 Y.2.c3 Y.2.c4) rfl rfl 43 zzA HAN.out (ansN _ _ _ _ _ _ _ _) rfl (ansO _ _ _ _ _ _ _ _ _ _) ?_))
  refine bodyPost_ret (v := .tuple #[.agg (ansC Y.2.e Y.2.n (.slice sv Y.2.raw.length cv) Y.2.s Y.2.c1 Y.2.c2 Y.2.c3 Y.2.c4), .bool true]) (results_c2 Tryz.results9 _ _ (O + 1) 43 _ _ _ (by first | rfl | simp) (setRow_heap _ _ _ _ _ _ (HAN.out)) Tryz.underlying43 rfl (ansN _ _ _ _ _ _ _ _)) rfl ?_
 rotate_left
 all_goals
  have hO := HOE.out
  subst hO
 · exact ⟨⟨.slice none 0 0, rfl, Own.nil _ _⟩, HP.out.endB _⟩
 · exact ⟨⟨.slice none 0 0, rfl, Own.nil _ _⟩, HP.out.endD HLT.out HX5.out _⟩
 · exact ⟨⟨_, rfl, HP.out.own HO5.out _⟩, HP.out.endD HLT.out HX5.out _⟩
 · exact ⟨⟨_, rfl, HP.out.own HO5.out _⟩, HP.out.endD HLT.out HX5.out _⟩
 · exact ⟨⟨_, rfl, HP.out.own HO5.out _⟩, HP.out.endD HLT.out HX5.out _⟩
end
end Go.Proofs.YtjhocjjecfdphaaGreatDoor
