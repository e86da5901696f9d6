import Derived.Test.YtjhocjjecfdphaaGreatDoorQ44
namespace Go.Proofs.YtjhocjjecfdphaaGreatDoor
set_option linter.unusedVariables false
set_option linter.unusedSimpArgs false
set_option maxRecDepth 100000
set_option maxHeartbeats 4000000
section
open Go.RowKit
attribute [local go_sem ↓] Go.wp_at_zero Go.wp_at_succ
theorem lown_any (w : World) (base : Nat) (F : List Nat) (p pw : Nat) (hbw : base ≤ w.heap.size) (D : DS) (hr : Rm D) (hr3 : D.ops.length + 3 < 400000000000 ∧ D.writes + 3 < 4000000000000000000 ∧ D.syncs + 3 < 4000000000000000000) (h : DA w base F p D) (g : Nat) (s : Sup) (nx ep : Int) (hf : FK w g p s nx ep) (hfo : FiOk D s nx) (o : OP) (hk : 3 ≤ o.kd ∧ o.kd ≤ 9) (hk7 : o.kd ≠ 7) (sp : Option Addr) (cap : Nat) (ho : OpOk w o sp cap) :
   Calls Tryz.prog 21 #[.pointer (some ⟨pw, 0, none⟩), .pointer (some ⟨g, 0, none⟩), .agg (o.C (.slice sp o.raw.length cap))] w fun e w' => Told2 w.heap.size w' (filF D s nx ep o).2.2.2 true e ∧ NxF base F p g w (filF D s nx ep o).1 (filF D s nx ep o).2.1 (filF D s nx ep o).2.2.1 ep w' := by
 have hc : o.kd = 3 ∨ o.kd = 4 ∨ o.kd = 5 ∨ o.kd = 6 ∨ o.kd = 8 ∨ o.kd = 9 := by omega
 rcases hc with e | e | e | e | e | e
 · exact own0.1 w base F p pw hbw D hr hr3 h g s nx ep hf hfo o e sp cap ho
 · exact own0.2.1 w base F p pw hbw D hr hr3 h g s nx ep hf hfo o e sp cap ho
 · exact own0.2.2.1 w base F p pw hbw D hr hr3 h g s nx ep hf hfo o e sp cap ho
 · exact own0.2.2.2 w base F p pw hbw D hr hr3 h g s nx ep hf hfo o e sp cap ho
 · exact own1.1 w base F p pw hbw D hr hr3 h g s nx ep hf hfo o e sp cap ho
 · exact own1.2 w base F p pw hbw D hr hr3 h g s nx ep hf hfo o e sp cap ho
theorem cell_aside {w : World} {b k j : Nat} (cs : Array Value) (h : k ≠ b) : (w.setRow b cs).cell? ⟨k, j, none⟩ = w.cell? ⟨k, j, none⟩ := by
 unfold World.cell?
 rw [show (w.setRow b cs).heap[(⟨k, j, none⟩ : Addr).block]? = w.heap[(⟨k, j, none⟩ : Addr).block]? from setRow_other _ _ _ _ h]
theorem cell_apart {w : World} {b jj k j : Nat} {v : Value} (h : k ≠ b) : (w.setCell ⟨b, jj, none⟩ v).cell? ⟨k, j, none⟩ = w.cell? ⟨k, j, none⟩ := by
 unfold World.cell?
 rw [show (w.setCell ⟨b, jj, none⟩ v).heap[(⟨k, j, none⟩ : Addr).block]? = w.heap[(⟨k, j, none⟩ : Addr).block]? from heap_setCell_other _ _ _ _ h]
theorem yields_ans0 {ops : Array Oper} {S : World → Prop} {o : Oper} {a : Act} (hw : Region.wanted o (yielded ops a.tmps) = true) (x : Operand) (ho : o.op = .build 43 #[(0, x)]) (e : Int) (hx : a.eval x = .int .i64 e) :
   YieldsIf Tryz.prog ops S o (.agg (ansC e 0 (.slice none 0 0) sup0 0 0 0 0)) a :=
 .inl ⟨hw, fun w _ => by
   unfold execOp
   simp only [ho, List.map_toArray, List.map_cons, List.map_nil, hx, Sem.run_bind, bA_0, Result.andThen_ok, Sem.run_pure]⟩
def pgm (c : Nat) : Prop := c = 0 ∨ c = 1 ∨ c = 2 ∨ c = 3 ∨ c = 7 ∨ c = 8 ∨ c = 11 ∨ c = 12 ∨ c = 13
theorem pgm7 {i : Nat} (hi : i < 2) : pgm (7 + i) := by unfold pgm; omega
theorem pgm11 {j : Nat} (hj : j < 3) : pgm (11 + j) := by unfold pgm; omega
theorem fp_d {base m : Nat} {P : PL} {A B : AW} {rm : List Int} (i : Nat) (hi : i < 2) {D : DS} (hD : A.d i = some D) : (comp base m P A B rm (7 + i)).fp = P.Fd i := by
 have hi2 : i = 0 ∨ i = 1 := by omega
 rcases hi2 with rfl | rfl
 · show (cmD base (P.Fd 0) (P.pd 0) (A.d 0)).fp = _; rw [hD]; rfl
 · show (cmD base (P.Fd 1) (P.pd 1) (A.d 1)).fp = _; rw [hD]; rfl
theorem fps_d {base m : Nat} {P : PL} {A B : AW} {rm : List Int} (i : Nat) (hi : i < 2) {D' : DS} (F' : List Nat) : ∀ k q, q ∈ (comp base m { P with Fd := upC P.Fd i F' } { A with d := upC A.d i (some D') } B rm k).fp → q ∈ F' ∨ q ∈ (comp base m P A B rm k).fp := fun k q hq => by
 have hi2 : i = 0 ∨ i = 1 := by omega
 rcases hi2 with rfl | rfl
 · rcases k with _ | _ | _ | _ | _ | _ | _ | _ | _ | _ | _ | _ | _ | _ | _ | _ | _ | k
   all_goals first | exact Or.inr hq | exact Or.inl hq
 · rcases k with _ | _ | _ | _ | _ | _ | _ | _ | _ | _ | _ | _ | _ | _ | _ | _ | _ | k
   all_goals first | exact Or.inr hq | exact Or.inl hq
theorem fps_f {base m : Nat} {P : PL} {A B : AW} {rm : List Int} (j : Nat) (hj : j < 3) (x : FI) (g : Nat) : ∀ k q, q ∈ (comp base m { P with gf := upC P.gf j g } { A with f := upC A.f j (some x) } B rm k).fp → q = g ∨ q ∈ (comp base m P A B rm k).fp := fun k q hq => by
 have hj2 : j = 0 ∨ j = 1 ∨ j = 2 := by omega
 rcases hj2 with rfl | rfl | rfl
 all_goals
   rcases k with _ | _ | _ | _ | _ | _ | _ | _ | _ | _ | _ | _ | _ | _ | _ | _ | _ | k
   all_goals first | exact Or.inr hq | exact Or.inl (List.mem_singleton.1 hq)
theorem openP {base m : Nat} {w2 w5 : World} {P : PL} {A B : AW} {rm : List Int} (h : Inv base m w2 P A B rm) (i j : Nat) (hi : i < 2) (hj : j < 3) {D : DS} (hD : A.d i = some D) (hE : (opnF D).2 = 0) (g : Nat) (hg : w2.heap.size ≤ g) (N : Nat) (hN : ∀ k q, q ∈ (comp base m P A B rm k).fp → q < N) (hNF : ∀ q ∈ P.Fd i, q < N) (hNw : N ≤ w2.heap.size)
   (hX : FK w5 g (P.pd i) (chooseF (D.readOf 0) (D.readOf 1)).1 (chooseF (D.readOf 0) (D.readOf 1)).1.ma (D.epoch + 1)) (hR : DA w5 base (P.Fd i) (P.pd i) (opnF D).1) (hF : Go.Proofs.YtjhocjjecfdphaaGreatDoor.Fr (P.Fd i) w2 w5) :
   ∃ b cap, P.Fv = .slice (some ⟨b, 0, none⟩) 3 cap ∧ 3 ≤ cap ∧ w5.cell? ⟨P.pw, 1, none⟩ = some P.Fv ∧ w5.cell? ⟨b, j, none⟩ = some (ptrF P.gf A j) ∧ w5.frozen? ⟨b, j, none⟩ = false ∧ b < N ∧ base ≤ b ∧ P.pw ≠ b ∧
     Inv base m (w5.setCell ⟨b, j, none⟩ (.pointer (some ⟨g, 0, none⟩))) { P with gf := upC P.gf j g } ⟨upC A.d i (some (opnF D).1), upC A.f j (some ⟨i, (chooseF (D.readOf 0) (D.readOf 1)).1, (chooseF (D.readOf 0) (D.readOf 1)).1.ma, D.epoch + 1⟩)⟩ B rm ∧
     (∀ k q, q ∈ (comp base m { P with gf := upC P.gf j g } ⟨upC A.d i (some (opnF D).1), upC A.f j (some ⟨i, (chooseF (D.readOf 0) (D.readOf 1)).1, (chooseF (D.readOf 0) (D.readOf 1)).1.ma, D.epoch + 1⟩)⟩ B rm k).fp → q = g ∨ q < N) := by
 have hok := (h.atD i hi hD).ok
 have hn : (opnF D).1.np = D.np := (Pgn.of hok).opnF.np
 have I5 := h.pdisk i hi hD hn hR hF (Gr.refl _ _)
 rw [upC_self] at I5
 have hlt : ∀ k q, q ∈ (comp base m P { A with d := upC A.d i (some (opnF D).1) } B rm k).fp → q < N := fun k q hq => by
   have hq' : q ∈ (comp base m { P with Fd := upC P.Fd i (P.Fd i) } { A with d := upC A.d i (some (opnF D).1) } B rm k).fp := by rw [upC_self]; exact hq
   rcases fps_d i hi (P.Fd i) k q hq' with q1 | q1
   · exact hNF q q1
   · exact hN k q q1
 obtain ⟨b, cap, e1, e2, e3, e4, I6⟩ := I5.popen i j hi hj (D := (opnF D).1) (upC_at _ _ _) ⟨i, (chooseF (D.readOf 0) (D.readOf 1)).1, (chooseF (D.readOf 0) (D.readOf 1)).1.ma, D.epoch + 1⟩ rfl (opn_fi hok hE) g hX (Nat.le_trans h.sep.hb hg) (fun k hk => by have := hlt k g hk; omega)
 obtain ⟨bd, cd, bf, cf, f1, f2, f3, f4, f5, f6, f7, f8⟩ := I5.rowsP
 have hb6 : b ∈ (comp base m P { A with d := upC A.d i (some (opnF D).1) } B rm 2).fp := by
   show b ∈ P.Fv.ownBlock.toList
   rw [e1]; simp [Value.ownBlock]
 refine ⟨b, cap, e1, e2, f6, e3, e4, hlt 2 b hb6, ((I5.sep.ok 2).1 b hb6).1, fun e => ?_, I6, fun k q hq => ?_⟩
 · exact I5.sep.ap 0 2 (by omega) P.pw (by show P.pw ∈ [P.pw]; simp) (by rw [e]; exact hb6)
 · rcases fps_f (A := { A with d := upC A.d i (some (opnF D).1) }) j hj _ g k q hq with q1 | q1
   · exact Or.inl q1
   · exact Or.inr (hlt k q q1)
theorem lstF : (∀ (w : World) (base m : Nat) (P : PL) (A B : AW) (rm : List Int) (h : Inv base m w P A B rm) (o : OP) (i : Nat) (hi : i = plc o.dk 2) (j : Nat) (hjj : j = plc o.fl 3) (had : Bool) (hk : 3 ≤ o.kd ∧ o.kd ≤ 9) (hk7 : o.kd ≠ 7) (x : FI) (hX : A.f j = some x) (D : DS) (hD : A.d x.dk = some D) (hr : Rm D) (hr4 : D.ops.length + 4 < 400000000000 ∧ D.writes + 4 < 4000000000000000000 ∧ D.syncs + 4 < 4000000000000000000) (sp : Option Addr) (cap : Nat) (ho : OpOk w o sp cap), Calls Tryz.prog 9 #[.pointer (some ⟨P.pw, 0, none⟩), .agg (o.C (.slice sp o.raw.length cap)), .bool had] w fun e w' => Told2 w.heap.size w' (filF D x.s x.nx x.ep o).2.2.2 true e ∧ NxF base (P.Fd x.dk) (P.pd x.dk) (P.gf j) w (filF D x.s x.nx x.ep o).1 (filF D x.s x.nx x.ep o).2.1 (filF D x.s x.nx x.ep o).2.2.1 x.ep w') ∧ (∀ (w : World) (base m : Nat) (P : PL) (A B : AW) (rm : List Int) (h : Inv base m w P A B rm) (o : OP) (i : Nat) (hi : i = plc o.dk 2) (j : Nat) (hjj : j = plc o.fl 3) (had : Bool) (hk : o.kd = 7) (x : FI) (hX : A.f j = some x) (D : DS) (hD : A.d x.dk = some D) (hr : Rm D) (sp : Option Addr) (cap : Nat) (hsb : ∀ a, 0 < o.raw.length → sp = some a → a.block < base) (ho : OpOk w o sp cap), Calls Tryz.prog 9 #[.pointer (some ⟨P.pw, 0, none⟩), .agg (o.C (.slice sp o.raw.length cap)), .bool had] w fun e w' => Told2 w.heap.size w' (filF D x.s x.nx x.ep o).2.2.2 true e ∧ Own7 base (P.Fd x.dk) (P.pd x.dk) P.pw (P.gf j) P.Dv P.Fv P.Rv w (filF D x.s x.nx x.ep o).1 x.s (filF D x.s x.nx x.ep o).2.2.1 x.ep w') := by
 refine ⟨?_, ?_⟩
 focus
  intro w base m P A B rm h o i hi j hjj had hk hk7 x hX D hD hr hr4 sp cap ho
 rotate_left
 focus
  intro w base m P A B rm h o i hi j hjj had hk x hX D hD hr sp cap hsb ho
 rotate_left
 all_goals
  have hi2 : i < 2 := by rw [hi]; exact plc_lt _ _ (by omega)
  have hj : j < 3 := by rw [hjj]; exact plc_lt _ _ (by omega)
  have hP := Pro.mk' w o (.slice sp o.raw.length cap)
  have k0 := hP.cell 0
  have k1' := hP.cell 1
  have k2' := hP.cell 2
  have k3' := hP.cell 3
  have k4' := hP.cell 4
  obtain ⟨w2, hw2⟩ : ∃ w2, w2 = (w.alloc (.cells (o.C (.slice sp o.raw.length cap)) 37)).alloc (.cells zzA 43) := ⟨_, rfl⟩
  have hW2 := hid hw2
  rw [← hw2] at hP k0 k1' k2' k3' k4'
  have h2 := h.below hP.bl
  have o2 := ho.below hP.bl
  have hb2 : base ≤ w2.drew.heap.size := Nat.le_trans h.sep.hb hP.bl.size
  have od : OpOk w2.drew o sp cap := ⟨o2.src.below (Below.refl _ w2).drew (Nat.le_refl _), o2.nil, o2.bts, o2.len, o2.bt, o2.n⟩
  obtain ⟨bd, cd, bf, cf, e1, e2, c1, c2, x0', x1', kd', kf'⟩ := h2.rowsP
  obtain ⟨hx01, D0, hD0, hfo⟩ := h.ga.fi j x hX
  have hx2 : x.dk < 2 := by omega
  rw [hD] at hD0
  cases hD0
  have hR := h.atD x.dk hx2 hD
  have hG2 := h2.atF j hj hX
  have hGW := hlt_ (h.atF j hj hX)
  have hLT : ∀ k ∈ P.Fd x.dk, k < w.heap.size := fun k hk => (hR.lt k hk).2
 focus
  have HXF := hid (lown_any w2.drew base (P.Fd x.dk) (P.pd x.dk) P.pw hb2 D hr ⟨by omega, by omega, by omega⟩ (h2.atD x.dk hx2 hD).drew (P.gf j) x.s x.nx x.ep hG2.drew hfo o hk hk7 sp cap od)
 rotate_left
 focus
  have hRm : Own w2 base P.Rv rm := h2.sep.here 3
  have hWK : WK w2 P.pw P.Dv P.Fv P.Rv := h2.sep.here 0
  have hRV : ∀ k, P.Rv.ownBlock = some k → k < w.heap.size := fun k e => cm_lt h.sep k 3 (by show k ∈ P.Rv.ownBlock.toList; rw [e]; simp)
  have hPW : P.pw < w.heap.size := cm_lt h.sep P.pw 0 (by show P.pw ∈ [P.pw]; simp)
  have hRF : ∀ k, P.Rv.ownBlock = some k → k ∉ P.Fd x.dk := fun k e hk => by
    have hd2 : x.dk = 0 ∨ x.dk = 1 := by omega
    have h3 : k ∈ (comp base m P A B rm 3).fp := by show k ∈ P.Rv.ownBlock.toList; rw [e]; simp
    have h7 : k ∈ (comp base m P A B rm (7 + x.dk)).fp := by
      rcases hd2 with q | q
      · rw [q] at hk hD ⊢; show k ∈ (cmD base (P.Fd 0) (P.pd 0) (A.d 0)).fp; rw [hD]; exact hk
      · rw [q] at hk hD ⊢; show k ∈ (cmD base (P.Fd 1) (P.pd 1) (A.d 1)).fp; rw [hD]; exact hk
    exact h.sep.ap 3 (7 + x.dk) (by omega) k h3 h7
  have hgb : base ≤ P.gf j := by
    have hj2 : j = 0 ∨ j = 1 ∨ j = 2 := by omega
    have hfp : P.gf j ∈ (comp base m P A B rm (11 + j)).fp := by
      rcases hj2 with rfl | rfl | rfl
      · show P.gf 0 ∈ (cmF (P.gf 0) P.pd (A.f 0)).fp; rw [hX]; exact List.mem_cons_self
      · show P.gf 1 ∈ (cmF (P.gf 1) P.pd (A.f 1)).fp; rw [hX]; exact List.mem_cons_self
      · show P.gf 2 ∈ (cmF (P.gf 2) P.pd (A.f 2)).fp; rw [hX]; exact List.mem_cons_self
    exact ((h.sep.ok _).1 _ hfp).1
  have hpb : base ≤ P.pw := ((h.sep.ok 0).1 P.pw (by show P.pw ∈ [P.pw]; simp)).1
  have hE : filF D x.s x.nx x.ep o = ((appF D x.nx x.ep o.n o.raw).1, x.s, (appF D x.nx x.ep o.n o.raw).2.1, { an0 with e := (appF D x.nx x.ep o.n o.raw).2.2.2, n := (appF D x.nx x.ep o.n o.raw).2.2.1 }) := by unfold filF; rw [if_neg (by rw [hk]; decide), if_neg (by rw [hk]; decide), if_neg (by rw [hk]; decide), if_neg (by rw [hk]; decide), if_pos hk]
  obtain ⟨q, hq⟩ : ∃ q : Nat, x.nx = (q : Int) := ⟨x.nx.toNat, by have := (validS_iff x.s).1 hfo.va; have := hfo.lo; omega⟩
  have hq2 : 2 ≤ q ∧ q ≤ D.np := by have := (validS_iff x.s).1 hfo.va; have := hfo.lo; have := hfo.hi; omega
  have HXF := hid (own_7 w2.drew base (P.Fd x.dk) (P.pd x.dk) P.pw hb2 D hr (h2.atD x.dk hx2 hD).drew (P.gf j) x.s q x.ep (by rw [← hq]; exact hG2.drew) hq2 P.Dv P.Fv P.Rv rm hWK (hRm.of_heap fun _ _ => rfl) h.rm1 hRF hgb hpb o hk sp cap od hsb)
  rw [← hq] at HXF
 rotate_left
 all_goals
  rw [e1] at x0'
  rw [e2] at x1'
  have xd' := kd' i hi2
  have xf' := kf' j hj
  obtain ⟨dp, hdp⟩ : ∃ dp, dp = (A.d i).map (fun _ => (⟨P.pd i, 0, none⟩ : Addr)) := ⟨_, rfl⟩
  have hpt : ptrD P.pd A i = .pointer dp := by unfold ptrD; rw [hdp]
  have hpf : ptrF P.gf A j = .pointer (some ⟨P.gf j, 0, none⟩) := by unfold ptrF; rw [hX]; rfl
  rw [hpt] at xd'
  rw [hpf] at xf'
  have lt : ∀ {k jj : Nat} {v : Value}, w2.cell? ⟨k, jj, none⟩ = some v → k < w2.heap.size := fun hv => World.block_lt_of_cell? _ _ hv
  have HPI := hid (fun (w4 : World) => (show Calls Tryz.prog 10 #[.int .i64 o.dk, .int .i64 2] w4 fun e w' => e = .returned (.int .i64 (i : Nat)) ∧ w4 = w' by rw [hi]; exact lplace_any w4 o.dk 2 (Or.inl rfl) 2 rfl))
  have HPJ := hid (fun (w4 : World) => (show Calls Tryz.prog 10 #[.int .i64 o.fl, .int .i64 3] w4 fun e w' => e = .returned (.int .i64 (j : Nat)) ∧ w4 = w' by rw [hjj]; exact lplace_any w4 o.fl 3 (Or.inr rfl) 3 rfl))
  obtain ⟨O, hO⟩ : ∃ O, O = w.heap.size := ⟨_, rfl⟩
  rw [← hO] at k0 k1' k2' k3' k4'
  obtain ⟨pw, hpw⟩ : ∃ pw, pw = P.pw := ⟨_, rfl⟩
  rw [← hpw] at x0' x1' ⊢
  have HOE := hid hO
  have HOPR := hid (show w2.heap[O]? = some (.cells (o.C (.slice sp o.raw.length cap)) 37 (0, 0)) by rw [hO]; exact hP.op)
  have x0 := hid x0'
  have xd := hid xd'
  have k1 := hid (show w2.cell? ⟨O, 1, none⟩ = some (.int .i64 o.dk) from k1')
  have HXL := hid (lt x0')
  have HOL := hid (lt k0)
  have HDL := hid (lt xd')
  have k0d : w2.drew.cell? ⟨O, 0, none⟩ = some (.int .i64 o.kd) := k0
  have k2d : w2.drew.cell? ⟨O, 2, none⟩ = some (.int .i64 o.fl) := k2'
  have k3d : w2.drew.cell? ⟨O, 3, none⟩ = some (.bool o.ow) := k3'
  have k4d : w2.drew.cell? ⟨O, 4, none⟩ = some (.int .i64 o.n) := k4'
  have x1d : w2.drew.cell? ⟨pw, 1, none⟩ = some (.slice (some ⟨bf, 0, none⟩) 3 cf) := x1'
  have xfd : w2.drew.cell? ⟨bf, j, none⟩ = some (.pointer (some ⟨P.gf j, 0, none⟩)) := xf'
  have ij : (j : Int) < 3 := by omega
  have ii : (i : Int) < 2 := by omega
  have n1 : (o.kd == 1) = false := by simp; omega
  have n2 : (o.kd == 2) = false := by simp; omega
  have n3 : 3 ≤ o.kd := by omega
  have n4 : o.kd ≤ 9 := by omega
  simp only [← hpw] at HXF
 focus
  generalize filF D x.s x.nx x.ep o = Y at *
 rotate_left
 focus
  have HPW := hid (show pw < w.heap.size by rw [hpw]; exact hPW)
  have HRV := hid hRV
  rw [hE]
  generalize appF D x.nx x.ep o.n o.raw = Y at *
 rotate_left
 all_goals
  generalize P.pd x.dk = p at *
  generalize P.Fd x.dk = F at *
 rotate_left
 focus
  clear hRm hWK hPW hRF hgb hpb hRV hE hq hq2
 rotate_left
 all_goals
  have HP := hid hP
  have HLT := hid hLT
  clear hR hLT
  have HGW := hid hGW
 focus
  have HLG := hid (show ∀ k ∈ P.gf j :: F, k < w.heap.size from fun k hk => (List.mem_cons.mp hk).elim (fun e => e ▸ hGW) (fun e => HLT.out k e))
 rotate_left
 rotate_left
 all_goals
  clear hG2 hGW hfo hx01
  clear hP k0 k1' k2' k3' k4' h2 o2 od h ho x0' x1' xd' xf' kd' kf' lt e1 e2 hi hjj hO hpw hw2 hpt hpf
  go_enter Tryz.func9, Tryz.ntmps9
  go_wp2_with (first
    | refine wpList_box_op rfl (.tmp 1) rfl o sp o.raw.length cap rfl ?_)
  rw [← hW2.out, ← HOE.out]
  refine rgA (fun w' => Below w2.heap.size w2 w') (Below.refl _ _).drew (fun hq0 => ?_)
  refine tkA 0 (.pointer (some ⟨pw, 0, none⟩)) rfl hq0 ?_
  go_frame
  refine tkA 4 (.pointer (some ⟨O, 1, none⟩)) rfl hq0 ?_
  go_frame
  refine tkA 1 (.pointer (some ⟨pw, 0, none⟩)) rfl hq0 ?_
  go_frame
  refine tqA 5 (.int .i64 o.dk) rfl (yA (by intro w hS; have hc := (hS.cell (p := ⟨O, 1, none⟩) HOL.out).trans k1.out; go_simp)) hq0 ?_
  go_frame
  refine tkA 2 (.pointer (some ⟨pw, 0, none⟩)) rfl hq0 ?_
  go_frame
  refine tqA 3 (.slice (some ⟨bd, 0, none⟩) 2 cd) rfl (yA (by intro w hS; have hc := (hS.cell (p := ⟨pw, 0, none⟩) HXL.out).trans x0.out; go_simp)) hq0 ?_
  go_frame
  refine rdA 6 rfl (fun K hK => ?_)
  go_simp
  go_at_call 10
  refine (HPI.out _).mono ?_
  rintro e w4 ⟨rfl, rfl⟩
  go_wp2_with fail
  refine hK.out _ _ (hq0) ?_
  clear hK K hq0
  intro hq0
  try go_frame
  refine tkA 7 (.pointer (some ⟨bd, 0 + i, none⟩)) rfl hq0 ?_
  go_frame
  refine tqA 8 (.pointer dp) rfl (yA (by intro w hS; have hc := (hS.cell (p := ⟨bd, i, none⟩) HDL.out).trans xd.out; go_simp)) hq0 ?_
  go_frame
  refine tkA 9 (.pointer dp) rfl hq0 ?_
  go_frame
  refine wdA ?_
  clear hq0
 focus
  go_wp2_with (first
    | (go_at_call 10; refine (HPJ.out _).mono ?_; rintro e w4 ⟨rfl, rfl⟩)
    | (refine wpList_load_row_w (by rfl) 37 (.tmp 4) (by rfl) O (by rfl) 37 (o.C (.slice sp o.raw.length cap)) (0, 0) _ (by exact HOPR.out) Tryz.underlying37 rfl (by rw [size_op]; rfl) ?_)
    | (go_at_call 21; refine HXF.out.mono ?_; rintro e w5 ⟨⟨v, rfl, hO5⟩, hX5⟩; have HO5 := hid hO5; have HX5 := hid (show NxF base F p (P.gf j) w2 Y.1 Y.2.1 Y.2.2.1 x.ep w5 from hX5.drew'); obtain ⟨sv, cv, hv, _, _⟩ := hO5.form; subst hv; have HAN := hid (show w5.heap[O + 1]? = some (.cells zzA 43 (0, 0)) by rw [HOE.out]; exact HP.out.keep HLG.out HX5.out.choose_spec.2.2.1); clear hO5 hX5)
    | (refine wpList_store_row rfl 43 (.tmp 6) _ rfl (O + 1) (ansC Y.2.2.2.e Y.2.2.2.n (.slice sv Y.2.2.2.raw.length cv) Y.2.2.2.s Y.2.2.2.c1 Y.2.2.2.c2 Y.2.2.2.c3 Y.2.2.2.c4) rfl rfl 43 zzA HAN.out (ansN _ _ _ _ _ _ _ _) rfl (ansO _ _ _ _ _ _ _ _ _ _) ?_))
  refine bodyPost_ret (v := .tuple #[.agg (ansC Y.2.2.2.e Y.2.2.2.n (.slice sv Y.2.2.2.raw.length cv) Y.2.2.2.s Y.2.2.2.c1 Y.2.2.2.c2 Y.2.2.2.c3 Y.2.2.2.c4), .bool true]) (results_c2 Tryz.results9 _ _ (O + 1) 43 _ _ _ (by first | rfl | simp) (setRow_heap _ _ _ _ _ _ (HAN.out)) Tryz.underlying43 rfl (ansN _ _ _ _ _ _ _ _)) rfl ?_
 rotate_left
 focus
  go_wp2_with (first
    | (go_at_call 10; refine (HPJ.out _).mono ?_; rintro e w4 ⟨rfl, rfl⟩)
    | (refine wpList_load_row_w (by rfl) 37 (.tmp 4) (by rfl) O (by rfl) 37 (o.C (.slice sp o.raw.length cap)) (0, 0) _ (by exact HOPR.out) Tryz.underlying37 rfl (by rw [size_op]; rfl) ?_)
    | (go_at_call 21; refine HXF.out.mono ?_; rintro e w5 ⟨⟨v, rfl, hO5⟩, hX5⟩; have HO5 := hid hO5; have HX5 := hid (show Own7 base F p pw (P.gf j) P.Dv P.Fv P.Rv w2 Y.1 x.s Y.2.1 x.ep w5 from hX5.drew'); obtain ⟨sv, cv, hv, _, _⟩ := hO5.form; subst hv; have HAN := hid (show w5.heap[O + 1]? = some (.cells zzA 43 (0, 0)) by rw [HOE.out]; exact (HX5.out.block _ (by have := HP.out.sz; omega) (by have := HPW.out; omega) (by have := HGW.out; omega) (fun e => by have := HRV.out _ e; omega) (fun e => by have := HLT.out _ e; omega)).trans HP.out.an); clear hO5 hX5)
    | (refine wpList_store_row rfl 43 (.tmp 6) _ rfl (O + 1) (ansC Y.2.2.2 Y.2.2.1 (.slice sv ([] : List Int).length cv) sup0 0 0 0 0) rfl rfl 43 zzA HAN.out (ansN _ _ _ _ _ _ _ _) rfl (ansO _ _ _ _ _ _ _ _ _ _) ?_))
  refine bodyPost_ret (v := .tuple #[.agg (ansC Y.2.2.2 Y.2.2.1 (.slice sv ([] : List Int).length cv) sup0 0 0 0 0), .bool true]) (results_c2 Tryz.results9 _ _ (O + 1) 43 _ _ _ (by first | rfl | simp) (setRow_heap _ _ _ _ _ _ (HAN.out)) Tryz.underlying43 rfl (ansN _ _ _ _ _ _ _ _)) rfl ?_
 rotate_left
 all_goals
  have hO := HOE.out
  subst hO
 · exact ⟨⟨_, rfl, HP.out.own HO5.out _⟩, HP.out.endN HLT.out HGW.out HX5.out _⟩
 · exact ⟨⟨_, rfl, HP.out.own HO5.out _⟩, HP.out.end7 HLT.out HGW.out HPW.out HRV.out HX5.out _⟩
end
end Go.Proofs.YtjhocjjecfdphaaGreatDoor
