import Derived.Test.YtjhocjjecfdphaaGreatDoorQ42
namespace Go.Proofs.YtjhocjjecfdphaaGreatDoor
set_option linter.unusedVariables false
set_option linter.unusedSimpArgs false
set_option maxRecDepth 100000
set_option maxHeartbeats 4000000
section
open Go.RowKit
attribute [local go_sem ↓] Go.wp_at_zero Go.wp_at_succ
theorem Sep.aside {base : Nat} {w : World} {C : Nat → Cm} (h : Sep base w C) (b : Nat) (hb : ∀ k, b ∉ (C k).fp) (cs : Array Value) : Sep base (w.setRow b cs) C := by
 refine ⟨by rw [setRow_size]; exact h.hb, fun k => ?_, h.ap⟩
 have hk := h.ok k
 refine ⟨fun q hq => by rw [setRow_size]; exact hk.1 q hq, fun w1 h1 => hk.2 w1 fun q hq => (h1 q hq).trans (setRow_other _ _ _ _ fun e => hb k (e ▸ hq))⟩
theorem Inv.aside {base m : Nat} {w : World} {P : PL} {A B : AW} {rm : List Int} (h : Inv base m w P A B rm) (b : Nat) (hbb : base ≤ b) (hb : ∀ k, b ∉ (comp base m P A B rm k).fp) (cs : Array Value) : Inv base m (w.setRow b cs) P A B rm := by
 refine ⟨h.sep.aside b hb cs, ?_, h.b0, h.rm1, h.ga, h.gb⟩
 refine ⟨by rw [setRow_size]; exact h.gl.1, fun j hj => ?_⟩
 rw [← h.gl.2 j hj]
 unfold World.cell?
 rw [show (w.setRow b cs).heap[(⟨0, j, none⟩ : Addr).block]? = w.heap[(⟨0, j, none⟩ : Addr).block]? from setRow_other _ _ _ _ (by show 0 ≠ b; have := h.b0; omega)]
theorem fps_r {base m m' : Nat} {P : PL} {A B : AW} {rm : List Int} (i : Nat) (hi : i < 2) {D D' : DS} (hD : B.d i = some D) (F' : List Nat) : ∀ k q, q ∈ (comp base m' { P with Fr := upC P.Fr i F' } A { B with d := upC B.d i (some D') } rm k).fp → q ∈ F' ∨ q ∈ (comp base m P A B rm k).fp := fun k q hq => by
 have hi2 : i = 0 ∨ i = 1 := by omega
 rcases hi2 with rfl | rfl
 · rcases k with _ | _ | _ | _ | _ | _ | _ | _ | _ | _ | _ | _ | _ | _ | _ | _ | _ | k
   all_goals first | exact Or.inr hq | skip
   · exact Or.inl hq
   · refine Or.inr ?_
     have hq : q ∈ (cmR base (P.Fr 1) (P.px 1) m' (B.d 1)).fp := hq
     show q ∈ (cmR base (P.Fr 1) (P.px 1) m (B.d 1)).fp
     cases hB : B.d 1 with
     | none => rw [hB] at hq; exact hq
     | some D => rw [hB] at hq; exact hq
 · rcases k with _ | _ | _ | _ | _ | _ | _ | _ | _ | _ | _ | _ | _ | _ | _ | _ | _ | k
   all_goals first | exact Or.inr hq | skip
   · refine Or.inr ?_
     have hq : q ∈ (cmR base (P.Fr 0) (P.px 0) m' (B.d 0)).fp := hq
     show q ∈ (cmR base (P.Fr 0) (P.px 0) m (B.d 0)).fp
     cases hB : B.d 0 with
     | none => rw [hB] at hq; exact hq
     | some D => rw [hB] at hq; exact hq
   · exact Or.inl hq
theorem fps_g {base m : Nat} {P : PL} {A B : AW} {rm : List Int} (j : Nat) (hj : j < 3) (x : FI) (g : Nat) : ∀ k q, q ∈ (comp base m { P with gx := upC P.gx j g } A { B with f := upC B.f j (some x) } rm k).fp → q = g ∨ q ∈ (comp base m P A B rm k).fp := fun k q hq => by
 have hj2 : j = 0 ∨ j = 1 ∨ j = 2 := by omega
 rcases hj2 with rfl | rfl | rfl
 all_goals
   rcases k with _ | _ | _ | _ | _ | _ | _ | _ | _ | _ | _ | _ | _ | _ | _ | _ | _ | k
   all_goals first | exact Or.inr hq | exact Or.inl (List.mem_singleton.1 hq)
theorem fp_r {base m : Nat} {P : PL} {A B : AW} {rm : List Int} (i : Nat) (hi : i < 2) {D : DS} (hD : B.d i = some D) : (comp base m P A B rm (9 + i)).fp = P.Fr i := by
 have hi2 : i = 0 ∨ i = 1 := by omega
 rcases hi2 with rfl | rfl
 · show (cmR base (P.Fr 0) (P.px 0) m (B.d 0)).fp = _; rw [hD]; rfl
 · show (cmR base (P.Fr 1) (P.px 1) m (B.d 1)).fp = _; rw [hD]; rfl
theorem upC_self {α : Type} (f : Nat → α) (i : Nat) : upC f i (f i) = f := by
 funext k
 by_cases e : k = i
 · subst e; rw [upC_at]
 · rw [upC_ne _ _ _ e]
theorem openR {base m : Nat} {w2 w5 : World} {P : PL} {A B : AW} {rm : List Int} (h : Inv base m w2 P A B rm) (i j : Nat) (hi : i < 2) (hj : j < 3) {D : DS} (hD : B.d i = some D) (hE : (opnF D).2 = 0) (g : Nat) (hg : w2.heap.size ≤ g) (N : Nat) (hN : ∀ k q, q ∈ (comp base m P A B rm k).fp → q < N) (hNF : ∀ q ∈ P.Fr i, q < N) (hNw : N ≤ w2.heap.size)
   (hX : XK w5 g (P.px i) (chooseF (D.readOf 0) (D.readOf 1)).1 (chooseF (D.readOf 0) (D.readOf 1)).1.ma (D.epoch + 1)) (hR : RD w5 base (P.Fr i) (P.px i) (m + 3) (opnF D).1) (hF : Go.Proofs.YtjhocjjecfdphaaGreatDoor.Fr (P.Fr i) w2 w5) :
   ∃ b cap, P.Fx = .slice (some ⟨b, 0, none⟩) 3 cap ∧ 3 ≤ cap ∧ w5.cell? ⟨P.xw, 1, none⟩ = some P.Fx ∧ w5.cell? ⟨b, j, none⟩ = some (ptrF P.gx B j) ∧ w5.frozen? ⟨b, j, none⟩ = false ∧ b < N ∧ base ≤ b ∧
     Inv base (m + 3) (w5.setCell ⟨b, j, none⟩ (.pointer (some ⟨g, 0, none⟩))) { P with gx := upC P.gx j g } A ⟨upC B.d i (some (opnF D).1), upC B.f j (some ⟨i, (chooseF (D.readOf 0) (D.readOf 1)).1, (chooseF (D.readOf 0) (D.readOf 1)).1.ma, D.epoch + 1⟩)⟩ rm ∧
     (∀ k q, q ∈ (comp base (m + 3) { P with gx := upC P.gx j g } A ⟨upC B.d i (some (opnF D).1), upC B.f j (some ⟨i, (chooseF (D.readOf 0) (D.readOf 1)).1, (chooseF (D.readOf 0) (D.readOf 1)).1.ma, D.epoch + 1⟩)⟩ rm k).fp → q = g ∨ q < N) := by
 have hok := (h.atR i hi hD).ok
 have hn : (opnF D).1.np = D.np := (Pgn.of hok).opnF.np
 have I5 := h.rdisk i hi hD hn (m' := m + 3) (by omega) hR hF (Gr.refl _ _)
 rw [upC_self] at I5
 have hlt : ∀ k q, q ∈ (comp base (m + 3) P A { B with d := upC B.d i (some (opnF D).1) } rm k).fp → q < N := fun k q hq => by
   have hq' : q ∈ (comp base (m + 3) { P with Fr := upC P.Fr i (P.Fr i) } A { B with d := upC B.d i (some (opnF D).1) } rm k).fp := by rw [upC_self]; exact hq
   rcases fps_r (m := m) i hi hD (P.Fr i) k q hq' with q1 | q1
   · exact hNF q q1
   · exact hN k q q1
 obtain ⟨b, cap, e1, e2, e3, e4, I6⟩ := I5.ropen i j hi hj (D := (opnF D).1) (upC_at _ _ _) ⟨i, (chooseF (D.readOf 0) (D.readOf 1)).1, (chooseF (D.readOf 0) (D.readOf 1)).1.ma, D.epoch + 1⟩ rfl (opn_fi hok hE) g hX (Nat.le_trans h.sep.hb hg) (fun k hk => by have := hlt k g hk; omega)
 obtain ⟨bd, cd, bf, cf, f1, f2, f3, f4, f5, f6, f7, f8⟩ := I5.rowsX
 have hb6 : b ∈ (comp base (m + 3) P A { B with d := upC B.d i (some (opnF D).1) } rm 6).fp := by
   show b ∈ P.Fx.ownBlock.toList
   rw [e1]; simp [Value.ownBlock]
 refine ⟨b, cap, e1, e2, f6, e3, e4, hlt 6 b hb6, ((I5.sep.ok 6).1 b hb6).1, I6, fun k q hq => ?_⟩
 · rcases fps_g (m := m + 3) (B := { B with d := upC B.d i (some (opnF D).1) }) j hj _ g k q hq with q1 | q1
   · exact Or.inl q1
   · exact Or.inr (hlt k q q1)
theorem setCell_row {w : World} {b j : Nat} {v : Value} {q : Nat} (hne : b ≠ q) : (w.setCell ⟨b, j, none⟩ v).heap[q]? = w.heap[q]? := heap_setCell_other _ _ _ _ (Ne.symm hne)
theorem xStep_opk (w : World) (base m : Nat) (hm : m + 8 < 400000000000) (P : PL) (A B : AW) (rm : List Int) (h : Inv base m w P A B rm) (o : OP) (i : Nat) (hi : i = plc o.dk 2) (j : Nat) (hjj : j = plc o.fl 3) (hk : o.kd = 2) (D : DS) (hD : B.d i = some D) (hE : (opnF D).2 = 0) (sp : Option Addr) (cap : Nat) (ho : OpOk w o sp cap) :
   Calls Tryz.prog 8 #[.pointer (some ⟨P.xw, 0, none⟩), .agg (o.C (.slice sp o.raw.length cap))] w fun e w' => Told w.heap.size w' an0 e ∧ ∃ gx', Inv base (m + 3) w' { P with gx := gx' } A ⟨upC B.d i (some (opnF D).1), upC B.f j (some ⟨i, (chooseF (D.readOf 0) (D.readOf 1)).1, (chooseF (D.readOf 0) (D.readOf 1)).1.ma, D.epoch + 1⟩)⟩ rm ∧ Below base w w' ∧ ∀ k, k < w.heap.size → (∀ c, k ∉ (comp base m P A B rm c).fp) → w'.heap[k]? = w.heap[k]? := by
 have hi2 : i < 2 := by rw [hi]; exact plc_lt _ _ (by omega)
 have hj : j < 3 := by rw [hjj]; exact plc_lt _ _ (by omega)
 have hP := Pro.mk' w o (.slice sp o.raw.length cap)
 have k0 := hP.cell 0
 have k1' := hP.cell 1
 have k2' := hP.cell 2
 have k3' := hP.cell 3
 have k4' := hP.cell 4
 obtain ⟨w2, hw2⟩ : ∃ w2, w2 = (w.alloc (.cells (o.C (.slice sp o.raw.length cap)) 37)).alloc (.cells zzA 43) := ⟨_, rfl⟩
 have hW2 := hid hw2
 rw [← hw2] at hP k0 k1' k2' k3' k4'
 have h2 := h.below hP.bl
 have o2 := ho.below hP.bl
 have hb2 : base ≤ w2.drew.heap.size := Nat.le_trans h.sep.hb hP.bl.size
 have od : OpOk w2.drew o sp cap := ⟨o2.src.below (Below.refl _ w2).drew (Nat.le_refl _), o2.nil, o2.bts, o2.len, o2.bt, o2.n⟩
 have hGd : Gl w2.drew := h2.gl.below (B := w2.heap.size) (Below.refl _ w2).drew (by have := h2.gl.1; omega)
 obtain ⟨bd, cd, bf, cf, e1, e2, c1, c2, x0', x1', kd', kf'⟩ := h2.rowsX
 have hR := h.atR i hi2 hD
 have hLT : ∀ k ∈ P.Fr i, k < w.heap.size := fun k hk => (hR.lt k hk).2
 have HXD := hid ((xOpen_any w2.drew hGd base h.b0 (P.Fr i) (P.px i) m (by omega) hb2 D (h2.atR i hi2 hD).drew).mono (R' := fun e w' => ∃ g, e = .returned (.tuple #[.pointer (some ⟨g, 0, none⟩), .int .i64 0]) ∧ w'.cell? ⟨P.xw, 1, none⟩ = some (.slice (some ⟨bf, 0, none⟩) 3 cf) ∧ w'.cell? ⟨bf, j, none⟩ = some (ptrF P.gx B j) ∧ w'.frozen? ⟨bf, j, none⟩ = false ∧ (w'.setCell ⟨bf, j, none⟩ (.pointer (some ⟨g, 0, none⟩))).heap[w.heap.size + 1]? = some (.cells zzA 43 (0, 0)) ∧ ∀ cs, ∃ gx', Inv base (m + 3) ((w'.setCell ⟨bf, j, none⟩ (.pointer (some ⟨g, 0, none⟩))).setRow (w.heap.size + 1) cs) { P with gx := gx' } A ⟨upC B.d i (some (opnF D).1), upC B.f j (some ⟨i, (chooseF (D.readOf 0) (D.readOf 1)).1, (chooseF (D.readOf 0) (D.readOf 1)).1.ma, D.epoch + 1⟩)⟩ rm ∧ Below base w ((w'.setCell ⟨bf, j, none⟩ (.pointer (some ⟨g, 0, none⟩))).setRow (w.heap.size + 1) cs) ∧ ∀ k, k < w.heap.size → (∀ c, k ∉ (comp base m P A B rm c).fp) → ((w'.setCell ⟨bf, j, none⟩ (.pointer (some ⟨g, 0, none⟩))).setRow (w.heap.size + 1) cs).heap[k]? = w.heap[k]?) (fun e w' hh => by
   obtain ⟨hs, -, hRD, hFr⟩ := hh
   obtain ⟨g, rfl, hg, hX⟩ := hs hE
   have hFr2 : Go.Proofs.YtjhocjjecfdphaaGreatDoor.Fr (P.Fr i) w2 w' := (Fr.refl _ w2).drew.trans hFr (Gr.refl _ _)
   have hg' : w2.heap.size ≤ g := hg
   have hsz := hP.sz
   obtain ⟨b5, cap5, e1', c3, y1, y2, y3, y4, y5, I6, fp6⟩ := openR h2 i j hi2 hj hD hE g hg' w.heap.size (fun k q hq => cm_lt h.sep q k hq) hLT hP.bl.size hX hRD hFr2
   rw [e2] at e1' y1
   simp only [Value.slice.injEq, Option.some.injEq, Addr.mk.injEq] at e1'
   obtain ⟨⟨rfl, -, -⟩, -, rfl⟩ := e1'
   have hbw : base ≤ w.heap.size := h.sep.hb
   refine ⟨g, rfl, y1, y2, y3, (setCell_row (by omega)).trans (hP.keep hLT hFr2), fun cs => ⟨_, I6.aside (w.heap.size + 1) (by omega) (fun k hk => by rcases fp6 k _ hk with q | q <;> omega) cs, ?_, fun k hk hc => ?_⟩⟩
   rotate_left
   · have n1 : k ∉ P.Fr i := by rw [← fp_r i hi2 hD (m := m) (P := P) (A := A) (B := B) (rm := rm) (base := base)]; exact hc _
     have n2 : k ≠ bf := fun e => hc 6 (by show k ∈ P.Fx.ownBlock.toList; rw [e2, e]; simp [Value.ownBlock])
     rw [setRow_other _ _ _ _ (by omega), setCell_row (Ne.symm n2), hFr2.block k (by omega) n1, hP.bl.block k hk]
   have b1 : Below base w w2 := hP.bl.mono hbw
   have b2 : Below base w2 w' := hFr2.below (fun k hk => (hR.lt k hk).1) (Nat.le_trans hbw hP.bl.size)
   have b3 : Below base w' (w'.setCell ⟨bf, j, none⟩ (.pointer (some ⟨g, 0, none⟩))) := ((Fr.refl [bf] w').setCell List.mem_cons_self j _).below (fun k hk => by rw [List.mem_singleton.1 hk]; exact y5) (Nat.le_trans (Nat.le_trans hbw hP.bl.size) hFr2.size)
   exact below_setRow ((b1.trans b2).trans b3) (by omega) cs))
 rw [e1] at x0'
 rw [e2] at x1'
 have xd' := kd' i hi2
 have xf' := kf' j hj
 have hpt : ptrD P.px B i = .pointer (some ⟨P.px i, 0, none⟩) := by unfold ptrD; rw [hD]; rfl
 obtain ⟨fp, hfp⟩ : ∃ fp, fp = (B.f j).map (fun _ => (⟨P.gx j, 0, none⟩ : Addr)) := ⟨_, rfl⟩
 have hpf : ptrF P.gx B j = .pointer fp := by unfold ptrF; rw [hfp]
 rw [hpt] at xd'
 rw [hpf] at xf'
 have lt : ∀ {k jj : Nat} {v : Value}, w2.cell? ⟨k, jj, none⟩ = some v → k < w2.heap.size := fun hv => World.block_lt_of_cell? _ _ hv
 have HPI := hid (fun (w4 : World) => (show Calls Tryz.prog 14 #[.int .i64 o.dk, .int .i64 2] w4 fun e w' => e = .returned (.int .i64 (i : Nat)) ∧ w4 = w' by rw [hi]; exact xplace_any w4 o.dk 2 (Or.inl rfl) 2 rfl))
 have HPJ := hid (fun (w4 : World) => (show Calls Tryz.prog 14 #[.int .i64 o.fl, .int .i64 3] w4 fun e w' => e = .returned (.int .i64 (j : Nat)) ∧ w4 = w' by rw [hjj]; exact xplace_any w4 o.fl 3 (Or.inr rfl) 3 rfl))
 obtain ⟨O, hO⟩ : ∃ O, O = w.heap.size := ⟨_, rfl⟩
 rw [← hO] at k0 k1' k2' k3' k4'
 obtain ⟨xw, hxw⟩ : ∃ xw, xw = P.xw := ⟨_, rfl⟩
 rw [← hxw] at x0' x1' ⊢
 have HOE := hid hO
 have HOPR := hid (show w2.heap[O]? = some (.cells (o.C (.slice sp o.raw.length cap)) 37 (0, 0)) by rw [hO]; exact hP.op)
 have x0 := hid x0'
 have xd := hid xd'
 have k1 := hid (show w2.cell? ⟨O, 1, none⟩ = some (.int .i64 o.dk) from k1')
 have HXL := hid (lt x0')
 have HOL := hid (lt k0)
 have HDL := hid (lt xd')
 have k0d : w2.drew.cell? ⟨O, 0, none⟩ = some (.int .i64 o.kd) := k0
 have k2d : w2.drew.cell? ⟨O, 2, none⟩ = some (.int .i64 o.fl) := k2'
 have k3d : w2.drew.cell? ⟨O, 3, none⟩ = some (.bool o.ow) := k3'
 have k4d : w2.drew.cell? ⟨O, 4, none⟩ = some (.int .i64 o.n) := k4'
 have x1d : w2.drew.cell? ⟨xw, 1, none⟩ = some (.slice (some ⟨bf, 0, none⟩) 3 cf) := x1'
 have xfd : w2.drew.cell? ⟨bf, j, none⟩ = some (.pointer fp) := xf'
 have ij : (j : Int) < 3 := by omega
 have ii : (i : Int) < 2 := by omega
 have n1 : (o.kd == 1) = false := by simp; omega
 have n2 : (o.kd == 2) = true := by simp; omega
 have n7 : ((opnF D).2 == 0) = true := by simp; exact hE
 simp only [← hxw, ← hO, hpf] at HXD
 generalize P.px i = p at *
 clear hR hLT
 have HP := hid hP
 clear hP k0 k1' k2' k3' k4' h2 o2 od hGd h ho x0' x1' xd' xf' kd' kf' lt e1 e2 hi hjj hO hxw hw2 hpt hpf
 go_enter Tryz.func8, Tryz.ntmps8
 go_wp2_with (first
   | refine wpList_box_op rfl (.tmp 1) rfl o sp o.raw.length cap rfl ?_)
 rw [← hW2.out, ← HOE.out]
 refine rgA (fun w' => Below w2.heap.size w2 w') (Below.refl _ _).drew (fun hq0 => ?_)
 refine tkA 0 (.pointer (some ⟨xw, 0, none⟩)) rfl hq0 ?_
 go_frame
 refine tkA 4 (.pointer (some ⟨O, 1, none⟩)) rfl hq0 ?_
 go_frame
 refine tkA 1 (.pointer (some ⟨xw, 0, none⟩)) rfl hq0 ?_
 go_frame
 refine tqA 5 (.int .i64 o.dk) rfl (yA (by intro w hS; have hc := (hS.cell (p := ⟨O, 1, none⟩) HOL.out).trans k1.out; go_simp)) hq0 ?_
 go_frame
 refine tkA 2 (.pointer (some ⟨xw, 0, none⟩)) rfl hq0 ?_
 go_frame
 refine tqA 3 (.slice (some ⟨bd, 0, none⟩) 2 cd) rfl (yA (by intro w hS; have hc := (hS.cell (p := ⟨xw, 0, none⟩) HXL.out).trans x0.out; go_simp)) hq0 ?_
 go_frame
 refine rdA 6 rfl (fun K hK => ?_)
 go_simp
 go_at_call 14
 refine (HPI.out _).mono ?_
 rintro e w4 ⟨rfl, rfl⟩
 go_wp2_with fail
 refine hK.out _ _ (hq0) ?_
 clear hK K hq0
 intro hq0
 try go_frame
 refine tkA 7 (.pointer (some ⟨bd, 0 + i, none⟩)) rfl hq0 ?_
 go_frame
 refine tqA 8 (.pointer (some ⟨p, 0, none⟩)) rfl (yA (by intro w hS; have hc := (hS.cell (p := ⟨bd, i, none⟩) HDL.out).trans xd.out; go_simp)) hq0 ?_
 go_frame
 refine tkA 9 (.pointer (some ⟨p, 0, none⟩)) rfl hq0 ?_
 go_frame
 refine wdA ?_
 clear hq0
 go_wp2_with (first
   | (go_at_call 14; refine (HPJ.out _).mono ?_; rintro e w4 ⟨rfl, rfl⟩)
   | (refine wpList_load_row_w (by rfl) 37 (.tmp 3) (by rfl) O (by rfl) 37 (o.C (.slice sp o.raw.length cap)) (0, 0) _ (by exact HOPR.out) Tryz.underlying37 rfl (by rw [size_op]; rfl) ?_)
   | (go_at_call 16; refine HXD.out.mono ?_; rintro e w5 ⟨g, rfl, y1, y2, y3, HAN', HEN'⟩; have HAN := hid HAN'; have HEN := hid HEN'; clear HAN' HEN')
   | refine wpA_0 rfl _ rfl _ rfl ?_
   | (refine wpList_store_row rfl 43 (.tmp 4) _ rfl (O + 1) (ansC 0 0 (.slice none 0 0) sup0 0 0 0 0) rfl rfl 43 zzA HAN.out (ansN _ _ _ _ _ _ _ _) rfl (ansO _ _ _ _ _ _ _ _ _ _) ?_))
 refine bodyPost_ret (results_c1 Tryz.results8 _ _ (O + 1) 43 _ _ _ rfl (setRow_heap _ _ _ _ _ _ HAN.out) Tryz.underlying43 rfl (ansN _ _ _ _ _ _ _ _)) rfl ?_
 have hO := HOE.out
 subst hO
 obtain ⟨gx1, q3, q4, q5⟩ := HEN.out _
 exact ⟨⟨.slice none 0 0, rfl, Own.nil _ _⟩, gx1, q3, q4, q5⟩
theorem Inv.more {base m m' : Nat} {w : World} {P : PL} {A B : AW} {rm : List Int} (h : Inv base m w P A B rm) (hm : m ≤ m') : Inv base m' w P A B rm := ⟨h.sep.more hm, h.gl, h.b0, h.rm1, h.ga, h.gb⟩
def StP (base m : Nat) (w : World) (P : PL) (A B : AW) (rm : List Int) (r : AW × AN) (e : Ending) (w' : World) : Prop := Told w.heap.size w' r.2 e ∧ ∃ Fr' gx', Inv base (m + 6) w' { P with Fr := Fr', gx := gx' } A r.1 rm ∧ Below base w w' ∧ ∀ k, k < w.heap.size → (∀ c, k ∉ (comp base m P A B rm c).fp) → w'.heap[k]? = w.heap[k]?
section
variable {base m : Nat} {w w' : World} {P : PL} {A B : AW} {rm : List Int} {e : Ending}
theorem StP.ofB (h : Inv base m w P A B rm) {a : AN} (hh : Told w.heap.size w' a e ∧ Below w.heap.size w w') : StP base m w P A B rm (B, a) e w' :=
 ⟨hh.1, P.Fr, P.gx, (h.below hh.2).more (by omega), hh.2.mono h.sep.hb, fun k hk _ => hh.2.block k hk⟩
theorem StP.ofR (h : Inv base m w P A B rm) {i : Nat} (hi : i < 2) {D : DS} (hD : B.d i = some D) {r : DS × AN} (hn : r.1.np = D.np) {m' : Nat} (h1 : m ≤ m') (h2 : m' ≤ m + 6) (hh : Told w.heap.size w' r.2 e ∧ RX base (P.Fr i) (P.px i) w m' r.1 w') : StP base m w P A B rm (onD B i r) e w' := by
 obtain ⟨F', y1, y2, y3⟩ := hh.2
 exact ⟨hh.1, _, _, (h.rdisk i hi hD hn h1 y1 y2 y3).more h2, y2.below (fun k hk => ((h.atR i hi hD).lt k hk).1) h.sep.hb, fun k hk hc => y2.block k hk (by rw [← fp_r i hi hD (m := m) (P := P) (A := A) (B := B) (rm := rm) (base := base)]; exact hc _)⟩
theorem StP.ofF (h : Inv base m w P A B rm) {j : Nat} (hj : j < 3) {x : FI} (hx : B.f j = some x) {D : DS} (hD : B.d x.dk = some D) {D' : DS} {s' : Sup} {nx' : Int} {a : AN} (hn : D'.np = D.np) (hf : FiOk D' s' nx') (hh : Told w.heap.size w' a e ∧ RNF base (P.Fr x.dk) (P.px x.dk) (P.gx j) w (m + 3) D' s' nx' x.ep w') : StP base m w P A B rm (⟨upC B.d x.dk (some D'), upC B.f j (some { x with s := s', nx := nx' })⟩, a) e w' := by
 have hi : x.dk < 2 := by have := (h.gb.fi j x hx).1; omega
 obtain ⟨F', hI⟩ := h.rfile x.dk j hi hj hD hx rfl hn (by omega) hf hh.2
 obtain ⟨F1, y1, y2, y3, y4⟩ := hh.2
 have hfp : P.gx j ∈ (comp base m P A B rm (14 + j)).fp := by
   have hj2 : j = 0 ∨ j = 1 ∨ j = 2 := by omega
   rcases hj2 with rfl | rfl | rfl
   · show P.gx 0 ∈ (cmG (P.gx 0) P.px (B.f 0)).fp; rw [hx]; exact List.mem_cons_self
   · show P.gx 1 ∈ (cmG (P.gx 1) P.px (B.f 1)).fp; rw [hx]; exact List.mem_cons_self
   · show P.gx 2 ∈ (cmG (P.gx 2) P.px (B.f 2)).fp; rw [hx]; exact List.mem_cons_self
 refine ⟨hh.1, _, _, hI.more (by omega), y3.below (fun k hk => ?_) h.sep.hb, fun k hk hc => y3.block k hk (fun e => ?_)⟩
 rotate_left
 · rcases List.mem_cons.1 e with rfl | e
   · exact hc _ hfp
   · rw [← fp_r x.dk hi hD (m := m) (P := P) (A := A) (B := B) (rm := rm) (base := base)] at e; exact hc _ e
 rcases List.mem_cons.1 hk with rfl | hk
 · exact ((h.sep.ok _).1 _ hfp).1
 · exact ((h.atR x.dk hi hD).lt k hk).1
end
theorem xStep_any (w : World) (base m : Nat) (hm : m + 8 < 400000000000) (P : PL) (A B : AW) (rm : List Int) (h : Inv base m w P A B rm) (o : OP) (sp : Option Addr) (cap : Nat) (ho : OpOk w o sp cap) :
   Calls Tryz.prog 8 #[.pointer (some ⟨P.xw, 0, none⟩), .agg (o.C (.slice sp o.raw.length cap))] w (StP base m w P A B rm (stpF B o)) := by
 have hi : plc o.dk 2 < 2 := plc_lt _ _ (by omega)
 have hj : plc o.fl 3 < 3 := plc_lt _ _ (by omega)
 have hok : ∀ i, i < 2 → ∀ D, B.d i = some D → DsOk D := fun i hi D hD => (h.atR i hi hD).ok
 unfold stpF
 by_cases k1 : o.kd = 1
 · rw [if_pos k1]
   cases hD : B.d (plc o.dk 2) with
   | none => exact (xStC.1 w base m hm P A B rm h o _ rfl _ rfl k1 hD sp cap ho).mono fun e w' hh => StP.ofB h hh
   | some D =>
     have hk := hok _ hi D hD
     exact (xStC.2.1 w base m hm P A B rm h o _ rfl _ rfl k1 D hD sp cap ho).mono fun e w' hh => StP.ofR h hi hD ((Pgn.of hk).fmtF hk.np.1 hk.np.2.1 o.n).np (by omega) (by omega) hh
 rw [if_neg k1]
 by_cases k2 : o.kd = 2
 · rw [if_pos k2]
   cases hD : B.d (plc o.dk 2) with
   | none => exact (xStC.2.2.2.2 w base m hm P A B rm h o _ rfl _ rfl k2 hD sp cap ho).mono fun e w' hh => StP.ofB h hh
   | some D =>
     have hk := hok _ hi D hD
     show Calls _ _ _ _ (StP base m w P A B rm (if (opnF D).2 = 0 then _ else _))
     by_cases hE : (opnF D).2 = 0
     · rw [if_pos hE]
       refine (xStep_opk w base m hm P A B rm h o _ rfl _ rfl k2 D hD hE sp cap ho).mono fun e w' hh => ?_
       obtain ⟨t, gx', q3, q4, q5⟩ := hh
       exact ⟨t, P.Fr, gx', q3.more (by omega), q4, q5⟩
     · rw [if_neg hE]
       exact (xStep_ope w base m hm P A B rm h o _ rfl _ rfl k2 D hD hE sp cap ho).mono fun e w' hh => StP.ofR h hi hD (r := ((opnF D).1, { an0 with e := (opnF D).2 })) (Pgn.of hk).opnF.np (by omega) (by omega) hh
 rw [if_neg k2]
 by_cases k3 : 3 ≤ o.kd ∧ o.kd ≤ 9
 · rw [if_pos k3]
   cases hX : B.f (plc o.fl 3) with
   | none => exact (xStA.2.2.2 w base m hm P A B rm h o _ rfl _ rfl k3 hX sp cap ho).mono fun e w' hh => StP.ofB h hh
   | some x =>
     obtain ⟨hdk, D, hD, hf⟩ := h.gb.fi _ x hX
     have hk := hok x.dk (by omega) D hD
     show Calls _ _ _ _ (StP base m w P A B rm (match B.d x.dk with | none => _ | some D => _))
     rw [hD]
     have hfi := fil_fi hk hf x.ep o ho.bts
     exact (xStB.2.2 w base m hm P A B rm h o _ rfl _ rfl k3 x hX D hD sp cap ho).mono fun e w' hh => StP.ofF h hj hX hD hfi.1 hfi.2 hh
 rw [if_neg k3]
 by_cases k4 : 10 ≤ o.kd ∧ o.kd ≤ 21
 · rw [if_pos k4]
   by_cases k5 : o.ow = false ∧ o.kd ≠ 21
   · rw [if_pos k5]
     cases hX : B.f (plc o.fl 3) with
     | none => exact (xStA.2.2.1 w base m hm P A B rm h o _ rfl _ rfl ⟨k4.1, by omega⟩ k5.1 hX sp cap ho).mono fun e w' hh => StP.ofB h hh
     | some x =>
       obtain ⟨hdk, D, hD, hf⟩ := h.gb.fi _ x hX
       have hk := hok x.dk (by omega) D hD
       show Calls _ _ _ _ (StP base m w P A B rm (match B.d x.dk with | none => _ | some D => _))
       rw [hD]
       exact (xStB.2.1 w base m hm P A B rm h o _ rfl _ rfl ⟨k4.1, by omega⟩ k5.1 x hX D hD sp cap ho).mono fun e w' hh => StP.ofR h (by omega) hD ((Pgn.of hk).dskF o ho.bts).np (by omega) (by omega) hh
   · rw [if_neg k5]
     cases hD : B.d (plc o.dk 2) with
     | none =>
       cases how : o.ow with
       | true => exact (xStA.1 w base m hm P A B rm h o _ rfl _ rfl k4 how hD sp cap ho).mono fun e w' hh => StP.ofB h hh
       | false => exact (xStA.2.1 w base m hm P A B rm h o _ rfl _ rfl (by rw [how] at k5; simp at k5; exact k5) how hD sp cap ho).mono fun e w' hh => StP.ofB h hh
     | some D =>
       have hk := hok _ hi D hD
       cases how : o.ow with
       | true => exact (xStep_disk w base m hm P A B rm h o k4 how _ rfl D hD sp cap ho).mono fun e w' hh => StP.ofR h hi hD ((Pgn.of hk).dskF o ho.bts).np (by omega) (by omega) hh
       | false => exact (xStB.1 w base m hm P A B rm h o _ rfl _ rfl (by rw [how] at k5; simp at k5; exact k5) how D hD sp cap ho).mono fun e w' hh => StP.ofR h hi hD ((Pgn.of hk).dskF o ho.bts).np (by omega) (by omega) hh
 · rw [if_neg k4]
   by_cases k6 : o.kd ≤ 0
   · exact (xStC.2.2.1 w base m hm P A B rm h o _ rfl _ rfl k6 sp cap ho).mono fun e w' hh => StP.ofB h hh
   · exact (xStC.2.2.2.1 w base m hm P A B rm h o _ rfl _ rfl (by omega) sp cap ho).mono fun e w' hh => StP.ofB h hh
end
end Go.Proofs.YtjhocjjecfdphaaGreatDoor
