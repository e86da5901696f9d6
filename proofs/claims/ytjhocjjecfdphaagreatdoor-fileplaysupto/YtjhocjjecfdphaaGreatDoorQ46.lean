import Derived.Test.YtjhocjjecfdphaaGreatDoorQ45
namespace Go.Proofs.YtjhocjjecfdphaaGreatDoor
set_option linter.unusedVariables false
set_option linter.unusedSimpArgs false
set_option maxRecDepth 100000
set_option maxHeartbeats 4000000
section
open Go.RowKit
attribute [local go_sem ↓] Go.wp_at_zero Go.wp_at_succ
theorem lStI : (∀ (w : World) (base m : Nat) (P : PL) (A B : AW) (rm : List Int) (h : Inv base m w P A B rm) (o : OP) (i : Nat) (hi : i = plc o.dk 2) (j : Nat) (hjj : j = plc o.fl 3) (had : Bool) (hk : o.kd = 2) (hD : A.d i = none) (hX : A.f j = none) (hh : had = false) (sp : Option Addr) (cap : Nat) (ho : OpOk w o sp cap), Calls Tryz.prog 9 #[.pointer (some ⟨P.pw, 0, none⟩), .agg (o.C (.slice sp o.raw.length cap)), .bool had] w fun e w' => Told2 w.heap.size w' { an0 with e := 1 } true e ∧ Below w.heap.size w w') ∧ (∀ (w : World) (base m : Nat) (P : PL) (A B : AW) (rm : List Int) (h : Inv base m w P A B rm) (o : OP) (i : Nat) (hi : i = plc o.dk 2) (j : Nat) (hjj : j = plc o.fl 3) (had : Bool) (hk : o.kd = 2) (hD : A.d i = none) (x : FI) (hX : A.f j = some x) (hh : had = true) (sp : Option Addr) (cap : Nat) (ho : OpOk w o sp cap), Calls Tryz.prog 9 #[.pointer (some ⟨P.pw, 0, none⟩), .agg (o.C (.slice sp o.raw.length cap)), .bool had] w fun e w' => Told2 w.heap.size w' { an0 with e := 1 } true e ∧ Below w.heap.size w w') ∧ (∀ (w : World) (base m : Nat) (P : PL) (A B : AW) (rm : List Int) (h : Inv base m w P A B rm) (o : OP) (i : Nat) (hi : i = plc o.dk 2) (j : Nat) (hjj : j = plc o.fl 3) (had : Bool) (hk : o.kd = 2) (D : DS) (hD : A.d i = some D) (hE : (opnF D).2 ≠ 0) (hr : Rm D) (hX : A.f j = none) (hh : had = false) (sp : Option Addr) (cap : Nat) (ho : OpOk w o sp cap), Calls Tryz.prog 9 #[.pointer (some ⟨P.pw, 0, none⟩), .agg (o.C (.slice sp o.raw.length cap)), .bool had] w fun e w' => Told2 w.heap.size w' { an0 with e := (opnF D).2 } true e ∧ Nx base (P.Fd i) (P.pd i) w (opnF D).1 w') ∧ (∀ (w : World) (base m : Nat) (P : PL) (A B : AW) (rm : List Int) (h : Inv base m w P A B rm) (o : OP) (i : Nat) (hi : i = plc o.dk 2) (j : Nat) (hjj : j = plc o.fl 3) (had : Bool) (hk : o.kd = 2) (D : DS) (hD : A.d i = some D) (hE : (opnF D).2 ≠ 0) (hr : Rm D) (x : FI) (hX : A.f j = some x) (hh : had = true) (sp : Option Addr) (cap : Nat) (ho : OpOk w o sp cap), Calls Tryz.prog 9 #[.pointer (some ⟨P.pw, 0, none⟩), .agg (o.C (.slice sp o.raw.length cap)), .bool had] w fun e w' => Told2 w.heap.size w' { an0 with e := (opnF D).2 } true e ∧ Nx base (P.Fd i) (P.pd i) w (opnF D).1 w') ∧ (∀ (w : World) (base m : Nat) (P : PL) (A B : AW) (rm : List Int) (h : Inv base m w P A B rm) (o : OP) (i : Nat) (hi : i = plc o.dk 2) (j : Nat) (hjj : j = plc o.fl 3) (had : Bool) (hk : o.kd = 2) (D : DS) (hD : A.d i = some D) (hE : (opnF D).2 = 0) (hr : Rm D) (hh : had = true) (sp : Option Addr) (cap : Nat) (ho : OpOk w o sp cap), Calls Tryz.prog 9 #[.pointer (some ⟨P.pw, 0, none⟩), .agg (o.C (.slice sp o.raw.length cap)), .bool had] w fun e w' => Told2 w.heap.size w' an0 true e ∧ ∃ P', P'.pw = P.pw ∧ P'.xw = P.xw ∧ Inv base m w' P' ⟨upC A.d i (some (opnF D).1), upC A.f j (some ⟨i, (chooseF (D.readOf 0) (D.readOf 1)).1, (chooseF (D.readOf 0) (D.readOf 1)).1.ma, D.epoch + 1⟩)⟩ B rm ∧ Below base w w' ∧ ∀ k, k < w.heap.size → (∀ c, pgm c → k ∉ (comp base m P A B rm c).fp) → w'.heap[k]? = w.heap[k]?) := by
 refine ⟨?_, ?_, ?_, ?_, ?_⟩
 focus
  intro w base m P A B rm h o i hi j hjj had hk hD hX hh sp cap ho
 rotate_left
 focus
  intro w base m P A B rm h o i hi j hjj had hk hD x hX hh sp cap ho
 rotate_left
 focus
  intro w base m P A B rm h o i hi j hjj had hk D hD hE hr hX hh sp cap ho
 rotate_left
 focus
  intro w base m P A B rm h o i hi j hjj had hk D hD hE hr x hX hh sp cap ho
 rotate_left
 focus
  intro w base m P A B rm h o i hi j hjj had hk D hD hE hr hh sp cap ho
 rotate_left
 all_goals
  have hi2 : i < 2 := by rw [hi]; exact plc_lt _ _ (by omega)
  have hj : j < 3 := by rw [hjj]; exact plc_lt _ _ (by omega)
  have hP := Pro.mk' w o (.slice sp o.raw.length cap)
  have k0 := hP.cell 0
  have k1' := hP.cell 1
  have k2' := hP.cell 2
  have k3' := hP.cell 3
  have k4' := hP.cell 4
  obtain ⟨w2, hw2⟩ : ∃ w2, w2 = (w.alloc (.cells (o.C (.slice sp o.raw.length cap)) 37)).alloc (.cells zzA 43) := ⟨_, rfl⟩
  have hW2 := hid hw2
  rw [← hw2] at hP k0 k1' k2' k3' k4'
  have h2 := h.below hP.bl
  have o2 := ho.below hP.bl
  have hb2 : base ≤ w2.drew.heap.size := Nat.le_trans h.sep.hb hP.bl.size
  have od : OpOk w2.drew o sp cap := ⟨o2.src.below (Below.refl _ w2).drew (Nat.le_refl _), o2.nil, o2.bts, o2.len, o2.bt, o2.n⟩
  obtain ⟨bd, cd, bf, cf, e1, e2, c1, c2, x0', x1', kd', kf'⟩ := h2.rowsP
  subst hh
  have hPW : P.pw < w.heap.size := cm_lt h.sep P.pw 0 (by show P.pw ∈ [P.pw]; simp)
  have hBF : bf < w.heap.size := cm_lt h.sep bf 2 (by show bf ∈ P.Fv.ownBlock.toList; rw [e2]; simp [Value.ownBlock])
 rotate_left
 rotate_left
 focus
  have hR := h.atD i hi2 hD
  have hLT : ∀ k ∈ P.Fd i, k < w.heap.size := fun k hk => (hR.lt k hk).2
  have hn : (opnF D).1.np = D.np := (Pgn.of hR.ok).opnF.np
  have HXD := hid ((Open_any w2.drew base (P.Fd i) (P.pd i) D (h2.atD i hi2 hD).drew hr.rd hr.ep).mono (R' := fun e w' => e = .returned (.tuple #[.pointer none, .int .i64 (opnF D).2]) ∧ Nx base (P.Fd i) (P.pd i) w2 (opnF D).1 w' ∧ w'.cell? ⟨P.pw, 1, none⟩ = some (.slice (some ⟨bf, 0, none⟩) 3 cf) ∧ w'.cell? ⟨bf, j, none⟩ = some (ptrF P.gf A j)) (fun e w' hh => by
    have hFr2 : Go.Proofs.YtjhocjjecfdphaaGreatDoor.Fr (P.Fd i) w2 w' := (Fr.refl _ w2).drew.trans hh.2.2.2 (Gr.refl _ _)
    have I5 := h2.pdisk i hi2 hD hn hh.2.2.1 hFr2 (Gr.refl _ _)
    obtain ⟨bd', cd', bf', cf', f1, f2, f3, f4, f5, f6, f7, f8⟩ := I5.rowsP
    have f2' : P.Fv = .slice (some ⟨bf', 0, none⟩) 3 cf' := f2
    rw [e2] at f2'
    simp only [Value.slice.injEq, Option.some.injEq, Addr.mk.injEq] at f2'
    obtain ⟨⟨rfl, -, -⟩, -, rfl⟩ := f2'
    refine ⟨hh.2.1 hE, ⟨P.Fd i, hh.2.2.1, hFr2, Gr.refl _ _⟩, ?_, f8 j hj⟩
    have f6' : w'.cell? ⟨P.pw, 1, none⟩ = some P.Fv := f6
    rw [f6', e2]))
 rotate_left
 focus
  have hR := h.atD i hi2 hD
  have hLT : ∀ k ∈ P.Fd i, k < w.heap.size := fun k hk => (hR.lt k hk).2
  have hn : (opnF D).1.np = D.np := (Pgn.of hR.ok).opnF.np
  have HXD := hid ((Open_any w2.drew base (P.Fd i) (P.pd i) D (h2.atD i hi2 hD).drew hr.rd hr.ep).mono (R' := fun e w' => e = .returned (.tuple #[.pointer none, .int .i64 (opnF D).2]) ∧ Nx base (P.Fd i) (P.pd i) w2 (opnF D).1 w' ∧ w'.cell? ⟨P.pw, 1, none⟩ = some (.slice (some ⟨bf, 0, none⟩) 3 cf) ∧ w'.cell? ⟨bf, j, none⟩ = some (ptrF P.gf A j)) (fun e w' hh => by
    have hFr2 : Go.Proofs.YtjhocjjecfdphaaGreatDoor.Fr (P.Fd i) w2 w' := (Fr.refl _ w2).drew.trans hh.2.2.2 (Gr.refl _ _)
    have I5 := h2.pdisk i hi2 hD hn hh.2.2.1 hFr2 (Gr.refl _ _)
    obtain ⟨bd', cd', bf', cf', f1, f2, f3, f4, f5, f6, f7, f8⟩ := I5.rowsP
    have f2' : P.Fv = .slice (some ⟨bf', 0, none⟩) 3 cf' := f2
    rw [e2] at f2'
    simp only [Value.slice.injEq, Option.some.injEq, Addr.mk.injEq] at f2'
    obtain ⟨⟨rfl, -, -⟩, -, rfl⟩ := f2'
    refine ⟨hh.2.1 hE, ⟨P.Fd i, hh.2.2.1, hFr2, Gr.refl _ _⟩, ?_, f8 j hj⟩
    have f6' : w'.cell? ⟨P.pw, 1, none⟩ = some P.Fv := f6
    rw [f6', e2]))
 rotate_left
 focus
  have hR := h.atD i hi2 hD
  have hLT : ∀ k ∈ P.Fd i, k < w.heap.size := fun k hk => (hR.lt k hk).2
  have HXD := hid ((Open_any w2.drew base (P.Fd i) (P.pd i) D (h2.atD i hi2 hD).drew hr.rd hr.ep).mono (R' := fun e w' => ∃ g, e = .returned (.tuple #[.pointer (some ⟨g, 0, none⟩), .int .i64 0]) ∧ w'.cell? ⟨P.pw, 1, none⟩ = some (.slice (some ⟨bf, 0, none⟩) 3 cf) ∧ w'.cell? ⟨bf, j, none⟩ = some (ptrF P.gf A j) ∧ w'.frozen? ⟨bf, j, none⟩ = false ∧ (w'.setCell ⟨bf, j, none⟩ (.pointer (some ⟨g, 0, none⟩))).cell? ⟨P.pw, 1, none⟩ = some (.slice (some ⟨bf, 0, none⟩) 3 cf) ∧ (w'.setCell ⟨bf, j, none⟩ (.pointer (some ⟨g, 0, none⟩))).cell? ⟨bf, j, none⟩ = some (.pointer (some ⟨g, 0, none⟩)) ∧ (w'.setCell ⟨bf, j, none⟩ (.pointer (some ⟨g, 0, none⟩))).heap[w.heap.size + 1]? = some (.cells zzA 43 (0, 0)) ∧ ∀ cs, ∃ P', P'.pw = P.pw ∧ P'.xw = P.xw ∧ Inv base m ((w'.setCell ⟨bf, j, none⟩ (.pointer (some ⟨g, 0, none⟩))).drew.setRow (w.heap.size + 1) cs) P' ⟨upC A.d i (some (opnF D).1), upC A.f j (some ⟨i, (chooseF (D.readOf 0) (D.readOf 1)).1, (chooseF (D.readOf 0) (D.readOf 1)).1.ma, D.epoch + 1⟩)⟩ B rm ∧ Below base w ((w'.setCell ⟨bf, j, none⟩ (.pointer (some ⟨g, 0, none⟩))).drew.setRow (w.heap.size + 1) cs) ∧ ∀ k, k < w.heap.size → (∀ c, pgm c → k ∉ (comp base m P A B rm c).fp) → ((w'.setCell ⟨bf, j, none⟩ (.pointer (some ⟨g, 0, none⟩))).drew.setRow (w.heap.size + 1) cs).heap[k]? = w.heap[k]?) (fun e w' hh => by
    obtain ⟨hs, -, hRD, hFr⟩ := hh
    obtain ⟨g, rfl, hg, hX'⟩ := hs hE
    have hFr2 : Go.Proofs.YtjhocjjecfdphaaGreatDoor.Fr (P.Fd i) w2 w' := (Fr.refl _ w2).drew.trans hFr (Gr.refl _ _)
    have hg' : w2.heap.size ≤ g := hg
    have hsz := hP.sz
    obtain ⟨b5, cap5, e1', c3, y1, y2, y3, y4, y5, y6, I6, fp6⟩ := openP h2 i j hi2 hj hD hE g hg' w.heap.size (fun k q hq => cm_lt h.sep q k hq) hLT hP.bl.size hX' hRD hFr2
    rw [e2] at e1' y1
    simp only [Value.slice.injEq, Option.some.injEq, Addr.mk.injEq] at e1'
    obtain ⟨⟨rfl, -, -⟩, -, rfl⟩ := e1'
    have hbw : base ≤ w.heap.size := h.sep.hb
    obtain ⟨bd', cd', bf', cf', f1, f2, f3, f4, f5, f6, f7, f8⟩ := I6.rowsP
    have f2' : P.Fv = .slice (some ⟨bf', 0, none⟩) 3 cf' := f2
    rw [e2] at f2'
    simp only [Value.slice.injEq, Option.some.injEq, Addr.mk.injEq] at f2'
    obtain ⟨⟨rfl, -, -⟩, -, rfl⟩ := f2'
    have f9 := f8 j hj
    rw [show ptrF (upC P.gf j g) _ j = .pointer (some ⟨g, 0, none⟩) by show Value.pointer ((upC A.f j (some _) j).map fun _ => (⟨upC P.gf j g j, 0, none⟩ : Addr)) = _; rw [upC_at, upC_at]; rfl] at f9
    refine ⟨g, rfl, y1, y2, y3, (cell_apart y6).trans y1, f9, (setCell_row (by omega)).trans (hP.keep hLT hFr2), fun cs => ⟨{ P with gf := upC P.gf j g }, rfl, rfl, (I6.below (Below.refl _ _).drew).aside (w.heap.size + 1) (by omega) (fun k hk => by rcases fp6 k _ hk with q | q <;> omega) cs, ?_, fun k hk hc => ?_⟩⟩
    rotate_left
    · have n1 : k ∉ P.Fd i := by rw [← fp_d i hi2 hD (m := m) (P := P) (A := A) (B := B) (rm := rm) (base := base)]; exact hc _ (pgm7 hi2)
      have n2 : k ≠ bf := fun e => hc 2 (by unfold pgm; omega) (by show k ∈ P.Fv.ownBlock.toList; rw [e2, e]; simp [Value.ownBlock])
      rw [setRow_other _ _ _ _ (by omega)]
      show (w'.setCell ⟨bf, j, none⟩ (.pointer (some ⟨g, 0, none⟩))).heap[k]? = _
      rw [setCell_row (Ne.symm n2), hFr2.block k (by omega) n1, hP.bl.block k hk]
    have b1 : Below base w w2 := hP.bl.mono hbw
    have b2 : Below base w2 w' := hFr2.below (fun k hk => (hR.lt k hk).1) (Nat.le_trans hbw hP.bl.size)
    have b3 : Below base w' (w'.setCell ⟨bf, j, none⟩ (.pointer (some ⟨g, 0, none⟩))) := ((Fr.refl [bf] w').setCell List.mem_cons_self j _).below (fun k hk => by rw [List.mem_singleton.1 hk]; exact y5) (Nat.le_trans (Nat.le_trans hbw hP.bl.size) hFr2.size)
    exact below_setRow ((b1.trans b2).trans b3).drew (by omega) cs))
 rotate_left
 all_goals
  rw [e1] at x0'
  rw [e2] at x1'
  have xd' := kd' i hi2
  have xf' := kf' j hj
 focus
  have hpt : ptrD P.pd A i = .pointer none := by unfold ptrD; rw [hD]; rfl
  have hpf : ptrF P.gf A j = .pointer none := by unfold ptrF; rw [hX]; rfl
 rotate_left
 focus
  have hpt : ptrD P.pd A i = .pointer none := by unfold ptrD; rw [hD]; rfl
  have hpf : ptrF P.gf A j = .pointer (some ⟨P.gf j, 0, none⟩) := by unfold ptrF; rw [hX]; rfl
 rotate_left
 focus
  have hpt : ptrD P.pd A i = .pointer (some ⟨P.pd i, 0, none⟩) := by unfold ptrD; rw [hD]; rfl
  have hpf : ptrF P.gf A j = .pointer none := by unfold ptrF; rw [hX]; rfl
 rotate_left
 focus
  have hpt : ptrD P.pd A i = .pointer (some ⟨P.pd i, 0, none⟩) := by unfold ptrD; rw [hD]; rfl
  have hpf : ptrF P.gf A j = .pointer (some ⟨P.gf j, 0, none⟩) := by unfold ptrF; rw [hX]; rfl
 rotate_left
 focus
  have hpt : ptrD P.pd A i = .pointer (some ⟨P.pd i, 0, none⟩) := by unfold ptrD; rw [hD]; rfl
  obtain ⟨fp, hfp⟩ : ∃ fp, fp = (A.f j).map (fun _ => (⟨P.gf j, 0, none⟩ : Addr)) := ⟨_, rfl⟩
  have hpf : ptrF P.gf A j = .pointer fp := by unfold ptrF; rw [hfp]
 rotate_left
 all_goals
  rw [hpt] at xd'
  rw [hpf] at xf'
  have lt : ∀ {k jj : Nat} {v : Value}, w2.cell? ⟨k, jj, none⟩ = some v → k < w2.heap.size := fun hv => World.block_lt_of_cell? _ _ hv
  have HPI := hid (fun (w4 : World) => (show Calls Tryz.prog 10 #[.int .i64 o.dk, .int .i64 2] w4 fun e w' => e = .returned (.int .i64 (i : Nat)) ∧ w4 = w' by rw [hi]; exact lplace_any w4 o.dk 2 (Or.inl rfl) 2 rfl))
  have HPJ := hid (fun (w4 : World) => (show Calls Tryz.prog 10 #[.int .i64 o.fl, .int .i64 3] w4 fun e w' => e = .returned (.int .i64 (j : Nat)) ∧ w4 = w' by rw [hjj]; exact lplace_any w4 o.fl 3 (Or.inr rfl) 3 rfl))
  obtain ⟨O, hO⟩ : ∃ O, O = w.heap.size := ⟨_, rfl⟩
  rw [← hO] at k0 k1' k2' k3' k4'
  obtain ⟨pw, hpw⟩ : ∃ pw, pw = P.pw := ⟨_, rfl⟩
  rw [← hpw] at x0' x1' ⊢
  have HOE := hid hO
  have HOPR := hid (show w2.heap[O]? = some (.cells (o.C (.slice sp o.raw.length cap)) 37 (0, 0)) by rw [hO]; exact hP.op)
  have x0 := hid x0'
  have xd := hid xd'
  have k1 := hid (show w2.cell? ⟨O, 1, none⟩ = some (.int .i64 o.dk) from k1')
  have HXL := hid (lt x0')
  have HOL := hid (lt k0)
  have HDL := hid (lt xd')
  have k0d : w2.drew.cell? ⟨O, 0, none⟩ = some (.int .i64 o.kd) := k0
  have k2d : w2.drew.cell? ⟨O, 2, none⟩ = some (.int .i64 o.fl) := k2'
  have k3d : w2.drew.cell? ⟨O, 3, none⟩ = some (.bool o.ow) := k3'
  have k4d : w2.drew.cell? ⟨O, 4, none⟩ = some (.int .i64 o.n) := k4'
  have x1d : w2.drew.cell? ⟨pw, 1, none⟩ = some (.slice (some ⟨bf, 0, none⟩) 3 cf) := x1'
 focus
  have xfd : w2.drew.cell? ⟨bf, j, none⟩ = some (.pointer none) := xf'
 rotate_left
 focus
  have xfd : w2.drew.cell? ⟨bf, j, none⟩ = some (.pointer (some ⟨P.gf j, 0, none⟩)) := xf'
 rotate_left
 focus
  have xfd : w2.drew.cell? ⟨bf, j, none⟩ = some (.pointer none) := xf'
 rotate_left
 focus
  have xfd : w2.drew.cell? ⟨bf, j, none⟩ = some (.pointer (some ⟨P.gf j, 0, none⟩)) := xf'
 rotate_left
 focus
  have xfd : w2.drew.cell? ⟨bf, j, none⟩ = some (.pointer fp) := xf'
 rotate_left
 all_goals
  have ij : (j : Int) < 3 := by omega
  have ii : (i : Int) < 2 := by omega
  have n1 : (o.kd == 1) = false := by simp; omega
  have n2 : (o.kd == 2) = true := by simp; omega
  have NP := hid (show pw ≠ O + 1 by omega)
  have NB := hid (show bf ≠ O + 1 by omega)
  clear hPW hBF
 rotate_left
 rotate_left
 focus
  have n7 : ((opnF D).2 == 0) = false := by simp; exact hE
  simp only [← hpw, hpf] at HXD
  generalize opnF D = Y at *
  generalize P.pd i = p at *
  generalize P.Fd i = F at *
 rotate_left
 focus
  have n7 : ((opnF D).2 == 0) = false := by simp; exact hE
  simp only [← hpw, hpf] at HXD
  generalize opnF D = Y at *
  generalize P.pd i = p at *
  generalize P.Fd i = F at *
 rotate_left
 focus
  have n7 : ((opnF D).2 == 0) = true := by simp; exact hE
  simp only [← hpw, ← hO, hpf] at HXD
  generalize P.pd i = p at *
  clear hR hLT
 rotate_left
 all_goals
  have HP := hid hP
 focus
  have HAN := hid (show w2.drew.heap[O + 1]? = some (.cells zzA 43 (0, 0)) by rw [hO]; exact hP.an)
 rotate_left
 focus
  have HAN := hid (show w2.drew.heap[O + 1]? = some (.cells zzA 43 (0, 0)) by rw [hO]; exact hP.an)
 rotate_left
 focus
  have HLT := hid hLT
  clear hR hLT hn
 rotate_left
 focus
  have HLT := hid hLT
  clear hR hLT hn
 rotate_left
 rotate_left
 all_goals
  clear hP k0 k1' k2' k3' k4' h2 o2 od h ho x0' x1' xd' xf' kd' kf' lt e1 e2 hi hjj hO hpw hw2 hpt hpf
  go_enter Tryz.func9, Tryz.ntmps9
  go_wp2_with (first
    | refine wpList_box_op rfl (.tmp 1) rfl o sp o.raw.length cap rfl ?_)
  rw [← hW2.out, ← HOE.out]
  refine rgA (fun w' => Below w2.heap.size w2 w') (Below.refl _ _).drew (fun hq0 => ?_)
  refine tkA 0 (.pointer (some ⟨pw, 0, none⟩)) rfl hq0 ?_
  go_frame
  refine tkA 4 (.pointer (some ⟨O, 1, none⟩)) rfl hq0 ?_
  go_frame
  refine tkA 1 (.pointer (some ⟨pw, 0, none⟩)) rfl hq0 ?_
  go_frame
  refine tqA 5 (.int .i64 o.dk) rfl (yA (by intro w hS; have hc := (hS.cell (p := ⟨O, 1, none⟩) HOL.out).trans k1.out; go_simp)) hq0 ?_
  go_frame
  refine tkA 2 (.pointer (some ⟨pw, 0, none⟩)) rfl hq0 ?_
  go_frame
  refine tqA 3 (.slice (some ⟨bd, 0, none⟩) 2 cd) rfl (yA (by intro w hS; have hc := (hS.cell (p := ⟨pw, 0, none⟩) HXL.out).trans x0.out; go_simp)) hq0 ?_
  go_frame
  refine rdA 6 rfl (fun K hK => ?_)
  go_simp
  go_at_call 10
  refine (HPI.out _).mono ?_
  rintro e w4 ⟨rfl, rfl⟩
  go_wp2_with fail
  refine hK.out _ _ (hq0) ?_
  clear hK K hq0
  intro hq0
  try go_frame
  refine tkA 7 (.pointer (some ⟨bd, 0 + i, none⟩)) rfl hq0 ?_
  go_frame
 focus
  refine tqA 8 (.pointer none) rfl (yA (by intro w hS; have hc := (hS.cell (p := ⟨bd, i, none⟩) HDL.out).trans xd.out; go_simp)) hq0 ?_
 rotate_left
 focus
  refine tqA 8 (.pointer none) rfl (yA (by intro w hS; have hc := (hS.cell (p := ⟨bd, i, none⟩) HDL.out).trans xd.out; go_simp)) hq0 ?_
 rotate_left
 focus
  refine tqA 8 (.pointer (some ⟨p, 0, none⟩)) rfl (yA (by intro w hS; have hc := (hS.cell (p := ⟨bd, i, none⟩) HDL.out).trans xd.out; go_simp)) hq0 ?_
 rotate_left
 focus
  refine tqA 8 (.pointer (some ⟨p, 0, none⟩)) rfl (yA (by intro w hS; have hc := (hS.cell (p := ⟨bd, i, none⟩) HDL.out).trans xd.out; go_simp)) hq0 ?_
 rotate_left
 focus
  refine tqA 8 (.pointer (some ⟨p, 0, none⟩)) rfl (yA (by intro w hS; have hc := (hS.cell (p := ⟨bd, i, none⟩) HDL.out).trans xd.out; go_simp)) hq0 ?_
 rotate_left
 all_goals
  go_frame
 focus
  refine tkA 9 (.pointer none) rfl hq0 ?_
 rotate_left
 focus
  refine tkA 9 (.pointer none) rfl hq0 ?_
 rotate_left
 focus
  refine tkA 9 (.pointer (some ⟨p, 0, none⟩)) rfl hq0 ?_
 rotate_left
 focus
  refine tkA 9 (.pointer (some ⟨p, 0, none⟩)) rfl hq0 ?_
 rotate_left
 focus
  refine tkA 9 (.pointer (some ⟨p, 0, none⟩)) rfl hq0 ?_
 rotate_left
 all_goals
  go_frame
  refine wdA ?_
  clear hq0
 focus
  go_wp2_with (first
    | (go_at_call 10; refine (HPJ.out _).mono ?_; rintro e w4 ⟨rfl, rfl⟩)
    | (go_at_call 20; refine (Open_nil _).mono ?_; rintro e w4 ⟨rfl, rfl⟩)
    )
  refine rgA (fun w' => w'.cell? ⟨pw, 1, none⟩ = some (.slice (some ⟨bf, 0, none⟩) 3 cf) ∧ w'.cell? ⟨bf, j, none⟩ = some (.pointer none)) ⟨x1d, xfd⟩ (fun hq0 => ?_)
  refine tkA 0 (.int .i64 1) rfl hq0 ?_
 rotate_left
 focus
  go_wp2_with (first
    | (go_at_call 10; refine (HPJ.out _).mono ?_; rintro e w4 ⟨rfl, rfl⟩)
    | (go_at_call 20; refine (Open_nil _).mono ?_; rintro e w4 ⟨rfl, rfl⟩)
    )
  refine rgA (fun w' => w'.cell? ⟨pw, 1, none⟩ = some (.slice (some ⟨bf, 0, none⟩) 3 cf) ∧ w'.cell? ⟨bf, j, none⟩ = some (.pointer (some ⟨P.gf j, 0, none⟩))) ⟨x1d, xfd⟩ (fun hq0 => ?_)
  refine tkA 0 (.int .i64 1) rfl hq0 ?_
 rotate_left
 focus
  go_wp2_with (first
    | (go_at_call 10; refine (HPJ.out _).mono ?_; rintro e w4 ⟨rfl, rfl⟩)
    | (go_at_call 20; refine HXD.out.mono ?_; rintro e w5 ⟨rfl, hX5, y1, y2⟩; have HX5 := hid hX5; have HAN := hid (show w5.heap[O + 1]? = some (.cells zzA 43 (0, 0)) by rw [HOE.out]; exact HP.out.keep HLT.out HX5.out.choose_spec.2.1); clear hX5)
    )
  refine rgA (fun w' => w'.cell? ⟨pw, 1, none⟩ = some (.slice (some ⟨bf, 0, none⟩) 3 cf) ∧ w'.cell? ⟨bf, j, none⟩ = some (.pointer none)) ⟨y1, y2⟩ (fun hq0 => ?_)
  refine tkA 0 (.int .i64 Y.2) rfl hq0 ?_
 rotate_left
 focus
  go_wp2_with (first
    | (go_at_call 10; refine (HPJ.out _).mono ?_; rintro e w4 ⟨rfl, rfl⟩)
    | (go_at_call 20; refine HXD.out.mono ?_; rintro e w5 ⟨rfl, hX5, y1, y2⟩; have HX5 := hid hX5; have HAN := hid (show w5.heap[O + 1]? = some (.cells zzA 43 (0, 0)) by rw [HOE.out]; exact HP.out.keep HLT.out HX5.out.choose_spec.2.1); clear hX5)
    )
  refine rgA (fun w' => w'.cell? ⟨pw, 1, none⟩ = some (.slice (some ⟨bf, 0, none⟩) 3 cf) ∧ w'.cell? ⟨bf, j, none⟩ = some (.pointer (some ⟨P.gf j, 0, none⟩))) ⟨y1, y2⟩ (fun hq0 => ?_)
  refine tkA 0 (.int .i64 Y.2) rfl hq0 ?_
 rotate_left
 focus
  go_wp2_with (first
    | (go_at_call 10; refine (HPJ.out _).mono ?_; rintro e w4 ⟨rfl, rfl⟩)
    | (go_at_call 20; refine HXD.out.mono ?_; rintro e w5 ⟨g, rfl, y1, y2, y3, y7', y8', HAN', HEN'⟩; have HAN := hid HAN'; have HEN := hid HEN'; have y7 := hid y7'; have y8 := hid y8'; clear HAN' HEN' y7' y8')
    )
  refine rgA (fun w' => w'.cell? ⟨pw, 1, none⟩ = some (.slice (some ⟨bf, 0, none⟩) 3 cf) ∧ w'.cell? ⟨bf, j, none⟩ = some (.pointer (some ⟨g, 0, none⟩))) ⟨y7.out, y8.out⟩ (fun hq0 => ?_)
  refine tkA 0 (.int .i64 0) rfl hq0 ?_
 rotate_left
 all_goals
  go_frame
  refine tkA 2 (.pointer (some ⟨pw, 0, none⟩)) rfl hq0 ?_
  go_frame
  refine tkA 6 (.int .i64 j) rfl hq0 ?_
  go_frame
 focus
  refine tkA 10 (.bool false) rfl hq0 ?_
 rotate_left
 focus
  refine tkA 10 (.bool true) rfl hq0 ?_
 rotate_left
 focus
  refine tkA 10 (.bool false) rfl hq0 ?_
 rotate_left
 focus
  refine tkA 10 (.bool true) rfl hq0 ?_
 rotate_left
 focus
  refine tkA 10 (.bool true) rfl hq0 ?_
 rotate_left
 all_goals
  go_frame
 focus
  refine tqA 1 (.agg (ansC 1 0 (.slice none 0 0) sup0 0 0 0 0)) rfl (yields_ans0 (by rfl) _ rfl _ rfl) hq0 ?_
 rotate_left
 focus
  refine tqA 1 (.agg (ansC 1 0 (.slice none 0 0) sup0 0 0 0 0)) rfl (yields_ans0 (by rfl) _ rfl _ rfl) hq0 ?_
 rotate_left
 focus
  refine tqA 1 (.agg (ansC Y.2 0 (.slice none 0 0) sup0 0 0 0 0)) rfl (yields_ans0 (by rfl) _ rfl _ rfl) hq0 ?_
 rotate_left
 focus
  refine tqA 1 (.agg (ansC Y.2 0 (.slice none 0 0) sup0 0 0 0 0)) rfl (yields_ans0 (by rfl) _ rfl _ rfl) hq0 ?_
 rotate_left
 focus
  refine tqA 1 (.agg (ansC 0 0 (.slice none 0 0) sup0 0 0 0 0)) rfl (yields_ans0 (by rfl) _ rfl _ rfl) hq0 ?_
 rotate_left
 all_goals
  go_frame
  refine tkA 3 (.pointer (some ⟨pw, 0, none⟩)) rfl hq0 ?_
  go_frame
  refine tkA 4 (.pointer (some ⟨pw, 1, none⟩)) rfl hq0 ?_
  go_frame
  refine tqA 5 (.slice (some ⟨bf, 0, none⟩) 3 cf) rfl (yA (by intro w hS; have hc := hS.1; go_simp)) hq0 ?_
  go_frame
  refine tkA 7 (.pointer (some ⟨bf, 0 + j, none⟩)) rfl hq0 ?_
  go_frame
 focus
  refine tqA 8 (.pointer none) rfl (yA (by intro w hS; have hc := hS.2; go_simp)) hq0 ?_
 rotate_left
 focus
  refine tqA 8 (.pointer (some ⟨P.gf j, 0, none⟩)) rfl (yA (by intro w hS; have hc := hS.2; go_simp)) hq0 ?_
 rotate_left
 focus
  refine tqA 8 (.pointer none) rfl (yA (by intro w hS; have hc := hS.2; go_simp)) hq0 ?_
 rotate_left
 focus
  refine tqA 8 (.pointer (some ⟨P.gf j, 0, none⟩)) rfl (yA (by intro w hS; have hc := hS.2; go_simp)) hq0 ?_
 rotate_left
 focus
  refine tqA 8 (.pointer (some ⟨g, 0, none⟩)) rfl (yA (by intro w hS; have hc := hS.2; go_simp)) hq0 ?_
 rotate_left
 all_goals
  go_frame
 focus
  refine tkA 9 (.bool false) rfl hq0 ?_
 rotate_left
 focus
  refine tkA 9 (.bool true) rfl hq0 ?_
 rotate_left
 focus
  refine tkA 9 (.bool false) rfl hq0 ?_
 rotate_left
 focus
  refine tkA 9 (.bool true) rfl hq0 ?_
 rotate_left
 focus
  refine tkA 9 (.bool true) rfl hq0 ?_
 rotate_left
 all_goals
  go_frame
  refine tkA 11 (.bool true) rfl hq0 ?_
  go_frame
  refine rdA 12 rfl (fun K hK => ?_)
  rw [if_pos (by rfl)]
 focus
  refine wp_store_row 43 _ _ rfl (O + 1) (ansC 1 0 (.slice none 0 0) sup0 0 0 0 0) rfl rfl 43 zzA HAN.out (ansN _ _ _ _ _ _ _ _) rfl (ansO _ _ _ _ _ _ _ _ _ _) ?_
 rotate_left
 focus
  refine wp_store_row 43 _ _ rfl (O + 1) (ansC 1 0 (.slice none 0 0) sup0 0 0 0 0) rfl rfl 43 zzA HAN.out (ansN _ _ _ _ _ _ _ _) rfl (ansO _ _ _ _ _ _ _ _ _ _) ?_
 rotate_left
 focus
  refine wp_store_row 43 _ _ rfl (O + 1) (ansC Y.2 0 (.slice none 0 0) sup0 0 0 0 0) rfl rfl 43 zzA HAN.out (ansN _ _ _ _ _ _ _ _) rfl (ansO _ _ _ _ _ _ _ _ _ _) ?_
 rotate_left
 focus
  refine wp_store_row 43 _ _ rfl (O + 1) (ansC Y.2 0 (.slice none 0 0) sup0 0 0 0 0) rfl rfl 43 zzA HAN.out (ansN _ _ _ _ _ _ _ _) rfl (ansO _ _ _ _ _ _ _ _ _ _) ?_
 rotate_left
 focus
  refine wp_store_row 43 _ _ rfl (O + 1) (ansC 0 0 (.slice none 0 0) sup0 0 0 0 0) rfl rfl 43 zzA HAN.out (ansN _ _ _ _ _ _ _ _) rfl (ansO _ _ _ _ _ _ _ _ _ _) ?_
 rotate_left
 all_goals
  refine hK.out _ _ (⟨(cell_aside _ NP.out).trans hq0.1, (cell_aside _ NB.out).trans hq0.2⟩) ?_
  clear hK K hq0
  intro hq0
  try go_frame
  refine tkA 13 (.bool true) rfl hq0 ?_
  go_frame
  refine wdA ?_
  clear hq0
  go_wp2_with fail
 focus
  refine bodyPost_ret (v := .tuple #[.agg (ansC 1 0 (.slice none 0 0) sup0 0 0 0 0), .bool true]) (results_c2 Tryz.results9 _ _ (O + 1) 43 _ _ _ (by first | rfl | simp) (setRow_heap _ _ _ _ _ _ (HAN.out)) Tryz.underlying43 rfl (ansN _ _ _ _ _ _ _ _)) rfl ?_
 rotate_left
 focus
  refine bodyPost_ret (v := .tuple #[.agg (ansC 1 0 (.slice none 0 0) sup0 0 0 0 0), .bool true]) (results_c2 Tryz.results9 _ _ (O + 1) 43 _ _ _ (by first | rfl | simp) (setRow_heap _ _ _ _ _ _ (HAN.out)) Tryz.underlying43 rfl (ansN _ _ _ _ _ _ _ _)) rfl ?_
 rotate_left
 focus
  refine bodyPost_ret (v := .tuple #[.agg (ansC Y.2 0 (.slice none 0 0) sup0 0 0 0 0), .bool true]) (results_c2 Tryz.results9 _ _ (O + 1) 43 _ _ _ (by first | rfl | simp) (setRow_heap _ _ _ _ _ _ (HAN.out)) Tryz.underlying43 rfl (ansN _ _ _ _ _ _ _ _)) rfl ?_
 rotate_left
 focus
  refine bodyPost_ret (v := .tuple #[.agg (ansC Y.2 0 (.slice none 0 0) sup0 0 0 0 0), .bool true]) (results_c2 Tryz.results9 _ _ (O + 1) 43 _ _ _ (by first | rfl | simp) (setRow_heap _ _ _ _ _ _ (HAN.out)) Tryz.underlying43 rfl (ansN _ _ _ _ _ _ _ _)) rfl ?_
 rotate_left
 focus
  refine bodyPost_ret (v := .tuple #[.agg (ansC 0 0 (.slice none 0 0) sup0 0 0 0 0), .bool true]) (results_c2 Tryz.results9 _ _ (O + 1) 43 _ _ _ (by first | rfl | simp) (setRow_heap _ _ _ _ _ _ (HAN.out)) Tryz.underlying43 rfl (ansN _ _ _ _ _ _ _ _)) rfl ?_
 rotate_left
 all_goals
  have hO := HOE.out
  subst hO
 · exact ⟨⟨.slice none 0 0, rfl, Own.nil _ _⟩, below_setRow HP.out.bl.drew.drew (by omega) _⟩
 · exact ⟨⟨.slice none 0 0, rfl, Own.nil _ _⟩, below_setRow HP.out.bl.drew.drew (by omega) _⟩
 · exact ⟨⟨.slice none 0 0, rfl, Own.nil _ _⟩, HP.out.endD HLT.out (HX5.out.post (Below.refl _ _).drew) _⟩
 · exact ⟨⟨.slice none 0 0, rfl, Own.nil _ _⟩, HP.out.endD HLT.out (HX5.out.post (Below.refl _ _).drew) _⟩
 · obtain ⟨P1, q1, q2, q3, q4, q5⟩ := HEN.out _
   exact ⟨⟨.slice none 0 0, rfl, Own.nil _ _⟩, P1, by rw [q1], q2, q3, q4, q5⟩
end
end Go.Proofs.YtjhocjjecfdphaaGreatDoor
