import Derived.Test.YtjhocjjecfdphaaGreatDoorQ40
namespace Go.Proofs.YtjhocjjecfdphaaGreatDoor
set_option linter.unusedVariables false
set_option linter.unusedSimpArgs false
set_option maxRecDepth 100000
set_option maxHeartbeats 4000000
section
open Go.RowKit
theorem Sep.stepS {base : Nat} {w w1 : World} {C C' : Nat → Cm} (h : Sep base w C) (S : Nat → Prop) {F : List Nat} (hf : Fr F w w1) (hF : ∀ k ∈ F, ∃ i, S i ∧ k ∈ (C i).fp) (hout : ∀ i, ¬ S i → C' i = C i) (hin : ∀ i, S i → (C' i).ok base w1) (hfp : ∀ i, S i → ∀ k ∈ (C' i).fp, (∃ i', S i' ∧ k ∈ (C i').fp) ∨ w.heap.size ≤ k) (hap : ∀ i j, S i → S j → i ≠ j → Apart (C' i).fp (C' j).fp) : Sep base w1 C' := by
 have far : ∀ i j, S i → ¬ S j → Apart (C' i).fp (C' j).fp := fun i j hi hj k hk hkj => by
   rw [hout j hj] at hkj
   rcases hfp i hi k hk with ⟨i', hi', hk'⟩ | q
   · exact h.ap i' j (fun e => hj (e ▸ hi')) k hk' hkj
   · have := ((h.ok j).1 k hkj).2; omega
 refine ⟨Nat.le_trans h.hb hf.size, fun i => ?_, fun i j hij => ?_⟩
 · by_cases hi : S i
   · exact hin i hi
   · rw [hout i hi]
     exact (h.ok i).to hf.size fun k hk => hf.block k ((h.ok i).1 k hk).2 (fun q => by
       obtain ⟨i', hi', hk'⟩ := hF k q
       exact h.ap i i' (fun e => hi (e ▸ hi')) k hk hk')
 · by_cases hi : S i
   · by_cases hj : S j
     · exact hap i j hi hj hij
     · exact far i j hi hj
   · by_cases hj : S j
     · exact (far j i hj hi).symm
     · rw [hout i hi, hout j hj]; exact h.ap i j hij
theorem Inv.own7 {base m : Nat} {w w1 : World} {P : PL} {A B : AW} {rm : List Int} (h : Inv base m w P A B rm) (i j : Nat) (hi : i < 2) (hj : j < 3) {D D' : DS} {x : FI} (hD : A.d i = some D) (hx : A.f j = some x) (hxi : x.dk = i) (hn : D'.np = D.np) {nx' : Int} (hf : FiOk D' x.s nx') (hR : Own7 base (P.Fd i) (P.pd i) P.pw (P.gf j) P.Dv P.Fv P.Rv w D' x.s nx' x.ep w1) : ∃ F' Rv' rm', Inv base m w1 { P with Fd := upC P.Fd i F', Rv := Rv' } ⟨upC A.d i (some D'), upC A.f j (some { x with nx := nx' })⟩ B rm' := by
 obtain ⟨⟨F', Rv', rm', h1, h2, h3, h4, hl1, hl2, h5, h6⟩, hos, htp, hou, hsz, hbl⟩ := hR
 refine ⟨F', Rv', rm', ?_⟩
 have hs := h.sep
 have hi2 : i = 0 ∨ i = 1 := by omega
 have hj2 : j = 0 ∨ j = 1 ∨ j = 2 := by omega
 have hfp : (comp base m P A B rm (7 + i)).fp = P.Fd i := by
   rcases hi2 with rfl | rfl
   · show (cmD base (P.Fd 0) (P.pd 0) (A.d 0)).fp = _; rw [hD]; rfl
   · show (cmD base (P.Fd 1) (P.pd 1) (A.d 1)).fp = _; rw [hD]; rfl
 have hfg : (comp base m P A B rm (11 + j)).fp = [P.gf j] := by
   rcases hj2 with rfl | rfl | rfl
   · show (cmF (P.gf 0) P.pd (A.f 0)).fp = _; rw [hx]; rfl
   · show (cmF (P.gf 1) P.pd (A.f 1)).fp = _; rw [hx]; rfl
   · show (cmF (P.gf 2) P.pd (A.f 2)).fp = _; rw [hx]; rfl
 have hf0 : (comp base m P A B rm 0).fp = [P.pw] := rfl
 have hf3 : (comp base m P A B rm 3).fp = P.Rv.ownBlock.toList := rfl
 have hg1 := (hs.ok (11 + j)).1 (P.gf j) (by rw [hfg]; exact List.mem_cons_self)
 have hp1 := (hs.ok 0).1 P.pw (by rw [hf0]; exact List.mem_cons_self)
 let C' : Nat → Cm := comp base m { P with Fd := upC P.Fd i F', Rv := Rv' } ⟨upC A.d i (some D'), upC A.f j (some { x with nx := nx' })⟩ B rm'
 have c0 : C' 0 = cmW P.pw P.Dv P.Fv Rv' := rfl
 have c3 : C' 3 = cmRoom base Rv' rm' := rfl
 have c7 : C' (7 + i) = cmD base F' (P.pd i) (some D') := by rcases hi2 with rfl | rfl <;> rfl
 have c11 : C' (11 + j) = cmF (P.gf j) P.pd (some { x with nx := nx' }) := by rcases hj2 with rfl | rfl | rfl <;> rfl
 let S : Nat → Prop := fun k => k = 0 ∨ k = 3 ∨ k = 7 + i ∨ k = 11 + j
 have hfr : Go.Proofs.YtjhocjjecfdphaaGreatDoor.Fr (P.pw :: P.gf j :: (P.Rv.ownBlock.toList ++ P.Fd i)) w w1 := ⟨hos, htp, hou, hsz, fun k hk hn2 => hbl k hk (fun e => hn2 (by rw [e]; exact List.mem_cons_self)) (fun e => hn2 (by rw [e]; exact List.mem_cons_of_mem _ List.mem_cons_self)) (fun e => hn2 (by simp [e])) (fun e => hn2 (by simp [e]))⟩
 have hst : Sep base w1 C' := by
   refine hs.stepS S hfr (fun k hk => ?_) (fun k hk => ?_) (fun k hk => ?_) (fun k hk q hq => ?_) (fun a b ha hb hab => ?_)
   · rcases List.mem_cons.1 hk with e | hk
     · exact ⟨0, Or.inl rfl, by rw [hf0, e]; exact List.mem_cons_self⟩
     · rcases List.mem_cons.1 hk with e | hk
       · exact ⟨11 + j, Or.inr (Or.inr (Or.inr rfl)), by rw [hfg, e]; exact List.mem_cons_self⟩
       · rcases List.mem_append.1 hk with e | e
         · exact ⟨3, Or.inr (Or.inl rfl), by rw [hf3]; exact e⟩
         · exact ⟨7 + i, Or.inr (Or.inr (Or.inl rfl)), by rw [hfp]; exact e⟩
   · have n0 : k ≠ 0 := fun e => hk (Or.inl e)
     have n3 : k ≠ 3 := fun e => hk (Or.inr (Or.inl e))
     have n7 : k ≠ 7 + i := fun e => hk (Or.inr (Or.inr (Or.inl e)))
     have n11 : k ≠ 11 + j := fun e => hk (Or.inr (Or.inr (Or.inr e)))
     have p0 := ptrD_set' P.pd A (D' := D') (f := upC A.f j (some { x with nx := nx' })) hD
     have p1 := ptrF_set P.gf A (x' := { x with nx := nx' }) (d := upC A.d i (some D')) hx
     rcases hi2 with rfl | rfl <;> rcases hj2 with rfl | rfl | rfl
     all_goals
       rcases k with _ | _ | _ | _ | _ | _ | _ | _ | _ | _ | _ | _ | _ | _ | _ | _ | _ | k
       all_goals first | rfl | (exact absurd rfl n0) | (exact absurd rfl n3) | (exact absurd rfl n7) | (exact absurd rfl n11) | (show cmRow base 60 P.Dv 2 _ = cmRow base 60 P.Dv 2 _; rw [p0, p0]) | (show cmRow base 69 P.Fv 3 _ = cmRow base 69 P.Fv 3 _; rw [p1, p1, p1])
   · rcases hk with rfl | rfl | rfl | rfl
     · rw [c0]; exact cmW_ok h3 hp1.1
     · rw [c3]; exact cmRoom_ok h4
     · rw [c7]; exact cmD_ok h1
     · rw [c11]; exact cmF_ok (x := { x with nx := nx' }) (by show FK w1 (P.gf j) (P.pd x.dk) x.s nx' x.ep; rw [hxi]; exact h2) hg1.1
   · rcases hk with rfl | rfl | rfl | rfl
     · rw [c0] at hq; exact Or.inl ⟨0, Or.inl rfl, hq⟩
     · rw [c3] at hq
       have e : Rv'.ownBlock = some q := by simpa [cmRoom] using hq
       rcases (h6 q e).1 with z | z
       · exact Or.inl ⟨3, Or.inr (Or.inl rfl), by rw [hf3, z]; simp⟩
       · exact Or.inr z
     · rw [c7] at hq
       rcases h5 q hq with z | z
       · exact Or.inl ⟨7 + i, Or.inr (Or.inr (Or.inl rfl)), by rw [hfp]; exact z⟩
       · exact Or.inr z
     · rw [c11] at hq; exact Or.inl ⟨11 + j, Or.inr (Or.inr (Or.inr rfl)), by rw [hfg]; exact hq⟩
   · have r0 : ∀ k, Rv'.ownBlock = some k → k ≠ P.pw ∧ k ≠ P.gf j := fun k e => by
       rcases (h6 k e).1 with z | z
       · refine ⟨fun c => ?_, fun c => ?_⟩
         · exact hs.ap 3 0 (by omega) k (by rw [hf3, z]; simp) (by rw [hf0, c]; exact List.mem_cons_self)
         · exact hs.ap 3 (11 + j) (by omega) k (by rw [hf3, z]; simp) (by rw [hfg, c]; exact List.mem_cons_self)
       · omega
     have f0 : ∀ k ∈ F', k ≠ P.pw ∧ k ≠ P.gf j := fun k hk => by
       rcases h5 k hk with z | z
       · refine ⟨fun c => ?_, fun c => ?_⟩
         · exact hs.ap (7 + i) 0 (by omega) k (by rw [hfp]; exact z) (by rw [hf0, c]; exact List.mem_cons_self)
         · exact hs.ap (7 + i) (11 + j) (by omega) k (by rw [hfp]; exact z) (by rw [hfg, c]; exact List.mem_cons_self)
       · omega
     have g0 : P.pw ≠ P.gf j := fun c => hs.ap 0 (11 + j) (by omega) P.pw (by rw [hf0]; exact List.mem_cons_self) (by rw [hfg, c]; exact List.mem_cons_self)
     have a03 : Apart (cmW P.pw P.Dv P.Fv Rv').fp (cmRoom base Rv' rm').fp := fun k hk hk2 => by
       have e1 : k = P.pw := List.mem_singleton.1 hk
       have e2 : Rv'.ownBlock = some k := by simpa [cmRoom] using hk2
       exact (r0 k e2).1 e1
     have a07 : Apart (cmW P.pw P.Dv P.Fv Rv').fp (cmD base F' (P.pd i) (some D')).fp := fun k hk hk2 => (f0 k hk2).1 (List.mem_singleton.1 hk)
     have a011 : Apart (cmW P.pw P.Dv P.Fv Rv').fp (cmF (P.gf j) P.pd (some { x with nx := nx' })).fp := fun k hk hk2 => g0 ((List.mem_singleton.1 hk).symm.trans (List.mem_singleton.1 hk2))
     have a37 : Apart (cmRoom base Rv' rm').fp (cmD base F' (P.pd i) (some D')).fp := fun k hk hk2 => (h6 k (by simpa [cmRoom] using hk)).2 hk2
     have a311 : Apart (cmRoom base Rv' rm').fp (cmF (P.gf j) P.pd (some { x with nx := nx' })).fp := fun k hk hk2 => (r0 k (by simpa [cmRoom] using hk)).2 (List.mem_singleton.1 hk2)
     have a711 : Apart (cmD base F' (P.pd i) (some D')).fp (cmF (P.gf j) P.pd (some { x with nx := nx' })).fp := fun k hk hk2 => (f0 k hk).2 (List.mem_singleton.1 hk2)
     rcases ha with ea | ea | ea | ea <;> rcases hb with eb | eb | eb | eb <;> rw [ea, eb]
     all_goals first | (exact absurd (ea.trans eb.symm) hab) | skip
     · rw [c0, c3]; exact a03
     · rw [c0, c7]; exact a07
     · rw [c0, c11]; exact a011
     · rw [c3, c0]; exact a03.symm
     · rw [c3, c7]; exact a37
     · rw [c3, c11]; exact a311
     · rw [c7, c0]; exact a07.symm
     · rw [c7, c3]; exact a37.symm
     · rw [c7, c11]; exact a711
     · rw [c11, c0]; exact a011.symm
     · rw [c11, c3]; exact a311.symm
     · rw [c11, c7]; exact a711.symm
 have hgl : Gl w1 := h.gl.fr hfr (fun k hk => by
   rcases List.mem_cons.1 hk with e | hk
   · rw [e]; exact hp1.1
   · rcases List.mem_cons.1 hk with e | hk
     · rw [e]; exact hg1.1
     · rcases List.mem_append.1 hk with e | e
       · exact ((hs.ok 3).1 k (by rw [hf3]; exact e)).1
       · exact ((hs.ok (7 + i)).1 k (by rw [hfp]; exact e)).1) h.b0
 exact ⟨hst, hgl, h.b0, ⟨hl1, hl2⟩, h.ga.setF hi hj hD hn (x := { x with nx := nx' }) hxi hf, h.gb⟩
def onD (B : AW) (i : Nat) (r : DS × AN) : AW × AN := ({ B with d := upC B.d i (some r.1) }, r.2)
def stpF (B : AW) (o : OP) : AW × AN :=
 if o.kd = 1 then (match B.d (plc o.dk 2) with
   | none => (B, { an0 with e := 1 })
   | some D => onD B (plc o.dk 2) ((fmtF D o.n).1, { an0 with e := (fmtF D o.n).2 }))
 else if o.kd = 2 then (match B.d (plc o.dk 2) with
   | none => (B, { an0 with e := 1 })
   | some D => if (opnF D).2 = 0 then (⟨upC B.d (plc o.dk 2) (some (opnF D).1), upC B.f (plc o.fl 3) (some ⟨plc o.dk 2, (chooseF (D.readOf 0) (D.readOf 1)).1, (chooseF (D.readOf 0) (D.readOf 1)).1.ma, D.epoch + 1⟩)⟩, an0)
     else onD B (plc o.dk 2) ((opnF D).1, { an0 with e := (opnF D).2 }))
 else if 3 ≤ o.kd ∧ o.kd ≤ 9 then (match B.f (plc o.fl 3) with
   | none => (B, an0)
   | some x => match B.d x.dk with
     | none => (B, an0)
     | some D => (⟨upC B.d x.dk (some (filF D x.s x.nx x.ep o).1), upC B.f (plc o.fl 3) (some { x with s := (filF D x.s x.nx x.ep o).2.1, nx := (filF D x.s x.nx x.ep o).2.2.1 })⟩, (filF D x.s x.nx x.ep o).2.2.2))
 else if 10 ≤ o.kd ∧ o.kd ≤ 21 then (if o.ow = false ∧ o.kd ≠ 21 then (match B.f (plc o.fl 3) with
     | none => (B, an0)
     | some x => match B.d x.dk with
       | none => (B, an0)
       | some D => onD B x.dk (dskF D o))
   else (match B.d (plc o.dk 2) with
     | none => (B, an0)
     | some D => onD B (plc o.dk 2) (dskF D o)))
 else (B, an0)
theorem Inv.rowsX {base m : Nat} {w : World} {P : PL} {A B : AW} {rm : List Int} (h : Inv base m w P A B rm) :
   ∃ bd cd bf cf, P.Dx = .slice (some ⟨bd, 0, none⟩) 2 cd ∧ P.Fx = .slice (some ⟨bf, 0, none⟩) 3 cf ∧ 2 ≤ cd ∧ 3 ≤ cf ∧ w.cell? ⟨P.xw, 0, none⟩ = some P.Dx ∧ w.cell? ⟨P.xw, 1, none⟩ = some P.Fx ∧ (∀ i, i < 2 → w.cell? ⟨bd, i, none⟩ = some (ptrD P.px B i)) ∧ ∀ j, j < 3 → w.cell? ⟨bf, j, none⟩ = some (ptrF P.gx B j) := by
 have hx : XW w P.xw P.Dx P.Fx := h.sep.here 4
 have hrd : w.ownsRow base 54 1 P.Dx 2 [ptrD P.px B 0, ptrD P.px B 1] := h.sep.here 5
 have hrf : w.ownsRow base 47 1 P.Fx 3 [ptrF P.gx B 0, ptrF P.gx B 1, ptrF P.gx B 2] := h.sep.here 6
 obtain ⟨bd, cd, e1, -, c1, -, k1, -⟩ := row_at hrd (by omega)
 obtain ⟨bf, cf, e2, -, c2, -, k2, -⟩ := row_at hrf (by omega)
 refine ⟨bd, cd, bf, cf, e1, e2, c1, c2, by rw [cell_of_row _ _ _ _ _ _ hx]; rfl, by rw [cell_of_row _ _ _ _ _ _ hx]; rfl, fun i hi => ?_, fun j hj => ?_⟩
 · rw [(k1 i hi).1]
   have : i = 0 ∨ i = 1 := by omega
   rcases this with rfl | rfl <;> rfl
 · rw [(k2 j hj).1]
   have : j = 0 ∨ j = 1 ∨ j = 2 := by omega
   rcases this with rfl | rfl | rfl <;> rfl
theorem Inv.rowsP {base m : Nat} {w : World} {P : PL} {A B : AW} {rm : List Int} (h : Inv base m w P A B rm) :
   ∃ bd cd bf cf, P.Dv = .slice (some ⟨bd, 0, none⟩) 2 cd ∧ P.Fv = .slice (some ⟨bf, 0, none⟩) 3 cf ∧ 2 ≤ cd ∧ 3 ≤ cf ∧ w.cell? ⟨P.pw, 0, none⟩ = some P.Dv ∧ w.cell? ⟨P.pw, 1, none⟩ = some P.Fv ∧ (∀ i, i < 2 → w.cell? ⟨bd, i, none⟩ = some (ptrD P.pd A i)) ∧ ∀ j, j < 3 → w.cell? ⟨bf, j, none⟩ = some (ptrF P.gf A j) := by
 have hx : WK w P.pw P.Dv P.Fv P.Rv := h.sep.here 0
 have hrd : w.ownsRow base 60 1 P.Dv 2 [ptrD P.pd A 0, ptrD P.pd A 1] := h.sep.here 1
 have hrf : w.ownsRow base 69 1 P.Fv 3 [ptrF P.gf A 0, ptrF P.gf A 1, ptrF P.gf A 2] := h.sep.here 2
 obtain ⟨bd, cd, e1, -, c1, -, k1, -⟩ := row_at hrd (by omega)
 obtain ⟨bf, cf, e2, -, c2, -, k2, -⟩ := row_at hrf (by omega)
 refine ⟨bd, cd, bf, cf, e1, e2, c1, c2, by rw [cell_of_row _ _ _ _ _ _ hx]; rfl, by rw [cell_of_row _ _ _ _ _ _ hx]; rfl, fun i hi => ?_, fun j hj => ?_⟩
 · rw [(k1 i hi).1]
   have : i = 0 ∨ i = 1 := by omega
   rcases this with rfl | rfl <;> rfl
 · rw [(k2 j hj).1]
   have : j = 0 ∨ j = 1 ∨ j = 2 := by omega
   rcases this with rfl | rfl | rfl <;> rfl
end
section
open Go.RowKit
attribute [local go_sem ↓] Go.wp_at_zero Go.wp_at_succ
theorem size_op : (Tryz.prog.info? 37).map (·.size) = some 8 := by kernel_rfl
theorem xStep_disk (w : World) (base m : Nat) (hm : m + 8 < 400000000000) (P : PL) (A B : AW) (rm : List Int) (h : Inv base m w P A B rm) (o : OP) (hk : 10 ≤ o.kd ∧ o.kd ≤ 21) (how : o.ow = true) (i : Nat) (hi : i = plc o.dk 2) (D : DS) (hD : B.d i = some D) (sp : Option Addr) (cap : Nat) (ho : OpOk w o sp cap) :
   Calls Tryz.prog 8 #[.pointer (some ⟨P.xw, 0, none⟩), .agg (o.C (.slice sp o.raw.length cap))] w fun e w' => Told w.heap.size w' (dskF D o).2 e ∧ RX base (P.Fr i) (P.px i) w (m + 1) (dskF D o).1 w' := by
 have hi2 : i < 2 := by rw [hi]; exact plc_lt _ _ (by omega)
 have hP := Pro.mk' w o (.slice sp o.raw.length cap)
 have k0 := hP.cell 0
 have k1' := hP.cell 1
 have k2' := hP.cell 2
 have k3' := hP.cell 3
 obtain ⟨w2, hw2⟩ : ∃ w2, w2 = (w.alloc (.cells (o.C (.slice sp o.raw.length cap)) 37)).alloc (.cells zzA 43) := ⟨_, rfl⟩
 have hW2 := hid hw2
 rw [← hw2] at hP k0 k1' k2' k3'
 have h2 := h.below hP.bl
 have o2 := ho.below hP.bl
 obtain ⟨bd, cd, bf, cf, e1, e2, c1, c2, x0', x1', kd', kf'⟩ := h2.rowsX
 have hR := h.atR i hi2 hD
 have hLT : ∀ k ∈ P.Fr i, k < w.heap.size := fun k hk => (hR.lt k hk).2
 have HXD := hid (xdisk_any w2.drew base (P.Fr i) (P.px i) m (by omega) (Nat.le_trans h.sep.hb hP.bl.size) D (h2.atR i hi2 hD).drew o hk sp cap ⟨o2.src.below (Below.refl _ w2).drew (Nat.le_refl _), o2.nil, o2.bts, o2.len, o2.bt, o2.n⟩)
 rw [e1] at x0'
 rw [e2] at x1'
 have xd' := kd' i hi2
 have hj := plc_lt o.fl 3 (by omega)
 have xf' := kf' (plc o.fl 3) hj
 have hpt : ptrD P.px B i = .pointer (some ⟨P.px i, 0, none⟩) := by unfold ptrD; rw [hD]; rfl
 rw [hpt] at xd'
 obtain ⟨fp, hfp⟩ : ∃ fp, fp = (B.f (plc o.fl 3)).map (fun _ => (⟨P.gx (plc o.fl 3), 0, none⟩ : Addr)) := ⟨_, rfl⟩
 have hpf : ptrF P.gx B (plc o.fl 3) = .pointer fp := by unfold ptrF; rw [hfp]
 rw [hpf] at xf'
 have lt : ∀ {k jj : Nat} {v : Value}, w2.cell? ⟨k, jj, none⟩ = some v → k < w2.heap.size := fun hv => World.block_lt_of_cell? _ _ hv
 have HPI := hid (fun (w4 : World) => (show Calls Tryz.prog 14 #[.int .i64 o.dk, .int .i64 2] w4 fun e w' => e = .returned (.int .i64 (i : Nat)) ∧ w4 = w' by rw [hi]; exact xplace_any w4 o.dk 2 (Or.inl rfl) 2 rfl))
 obtain ⟨j, hjj⟩ : ∃ j, j = plc o.fl 3 := ⟨_, rfl⟩
 have HPJ := hid (fun (w4 : World) => (show Calls Tryz.prog 14 #[.int .i64 o.fl, .int .i64 3] w4 fun e w' => e = .returned (.int .i64 (j : Nat)) ∧ w4 = w' by rw [hjj]; exact xplace_any w4 o.fl 3 (Or.inr rfl) 3 rfl))
 rw [← hjj] at xf' hj
 obtain ⟨O, hO⟩ : ∃ O, O = w.heap.size := ⟨_, rfl⟩
 rw [← hO] at k0 k1' k2' k3'
 obtain ⟨xw, hxw⟩ : ∃ xw, xw = P.xw := ⟨_, rfl⟩
 rw [← hxw] at x0' x1' ⊢
 have HOE := hid hO
 have HOPR := hid (show w2.heap[O]? = some (.cells (o.C (.slice sp o.raw.length cap)) 37 (0, 0)) by rw [hO]; exact hP.op)
 have x0 := hid x0'
 have xd := hid xd'
 have k1 := hid (show w2.cell? ⟨O, 1, none⟩ = some (.int .i64 o.dk) from k1')
 have HXL := hid (lt x0')
 have HOL := hid (lt k0)
 have HDL := hid (lt xd')
 have k0d : w2.drew.cell? ⟨O, 0, none⟩ = some (.int .i64 o.kd) := k0
 have k2d : w2.drew.cell? ⟨O, 2, none⟩ = some (.int .i64 o.fl) := k2'
 have k3d : w2.drew.cell? ⟨O, 3, none⟩ = some (.bool true) := by rw [← how]; exact k3'
 have x1d : w2.drew.cell? ⟨xw, 1, none⟩ = some (.slice (some ⟨bf, 0, none⟩) 3 cf) := x1'
 have xfd : w2.drew.cell? ⟨bf, j, none⟩ = some (.pointer fp) := xf'
 have ij : (j : Int) < 3 := by omega
 have ii : (i : Int) < 2 := by omega
 have n1 : (o.kd == 1) = false := by simp; omega
 have n2 : (o.kd == 2) = false := by simp; omega
 have n3 : 3 ≤ o.kd := by omega
 have n4 : ¬ o.kd ≤ 9 := by omega
 have n5 : 10 ≤ o.kd := hk.1
 have n6 : o.kd ≤ 21 := hk.2
 generalize dskF D o = Y at *
 generalize P.px i = p at *
 generalize P.Fr i = F at *
 have HP := hid hP
 have HLT := hid hLT
 clear hP k0 k1' k2' k3' h2 o2 hR hLT h ho x0' x1' xd' xf' kd' kf' lt e1 e2 hi how hk hD hw2 hpt hfp hpf hjj hO hxw
 go_enter Tryz.func8, Tryz.ntmps8
 go_wp2_with (first
   | refine wpList_box_op rfl (.tmp 1) rfl o sp o.raw.length cap rfl ?_)
 rw [← hW2.out, ← HOE.out]
 refine rgA (fun w' => Below w2.heap.size w2 w') (Below.refl _ _).drew (fun hq0 => ?_)
 refine tkA 0 (.pointer (some ⟨xw, 0, none⟩)) rfl hq0 ?_
 go_frame
 refine tkA 4 (.pointer (some ⟨O, 1, none⟩)) rfl hq0 ?_
 go_frame
 refine tkA 1 (.pointer (some ⟨xw, 0, none⟩)) rfl hq0 ?_
 go_frame
 refine tqA 5 (.int .i64 o.dk) rfl (yA (by intro w hS; have hc := (hS.cell (p := ⟨O, 1, none⟩) HOL.out).trans k1.out; go_simp)) hq0 ?_
 go_frame
 refine tkA 2 (.pointer (some ⟨xw, 0, none⟩)) rfl hq0 ?_
 go_frame
 refine tqA 3 (.slice (some ⟨bd, 0, none⟩) 2 cd) rfl (yA (by intro w hS; have hc := (hS.cell (p := ⟨xw, 0, none⟩) HXL.out).trans x0.out; go_simp)) hq0 ?_
 go_frame
 refine rdA 6 rfl (fun K hK => ?_)
 go_simp
 go_at_call 14
 refine (HPI.out _).mono ?_
 rintro e w4 ⟨rfl, rfl⟩
 go_wp2_with fail
 refine hK.out _ _ (hq0) ?_
 clear hK K hq0
 intro hq0
 try go_frame
 refine tkA 7 (.pointer (some ⟨bd, 0 + i, none⟩)) rfl hq0 ?_
 go_frame
 refine tqA 8 (.pointer (some ⟨p, 0, none⟩)) rfl (yA (by intro w hS; have hc := (hS.cell (p := ⟨bd, i, none⟩) HDL.out).trans xd.out; go_simp)) hq0 ?_
 go_frame
 refine tkA 9 (.pointer (some ⟨p, 0, none⟩)) rfl hq0 ?_
 go_frame
 refine wdA ?_
 clear hq0
 go_wp2_with (first
   | (go_at_call 14; refine (HPJ.out _).mono ?_; rintro e w4 ⟨rfl, rfl⟩)
   | (refine wpList_load_row_w (by rfl) 37 (.tmp 3) (by rfl) O (by rfl) 37 (o.C (.slice sp o.raw.length cap)) (0, 0) _ (by exact HOPR.out) Tryz.underlying37 rfl (by rw [size_op]; rfl) ?_)
   | (go_at_call 18; refine HXD.out.mono ?_; rintro e w5 ⟨⟨v, rfl, hO5⟩, hX5⟩; have HO5 := hid hO5; have HX5 := hid (show RX base F p w2 (m + 1) Y.1 w5 from by (obtain ⟨F1, y1, y2, y3⟩ := hX5; exact ⟨F1, y1, (Fr.refl F w2).drew.trans y2 (Gr.refl _ _), y3⟩)); obtain ⟨sv, cv, hv, _, _⟩ := hO5.form; subst hv; have HAN := hid (show w5.heap[O + 1]? = some (.cells zzA 43 (0, 0)) by rw [HOE.out]; exact HP.out.keep HLT.out HX5.out.choose_spec.2.1); clear hO5 hX5)
   | (refine wpList_store_row rfl 43 (.tmp 4) _ rfl (O + 1) (ansC Y.2.e Y.2.n (.slice sv Y.2.raw.length cv) Y.2.s Y.2.c1 Y.2.c2 Y.2.c3 Y.2.c4) rfl rfl 43 zzA HAN.out (ansN _ _ _ _ _ _ _ _) rfl (ansO _ _ _ _ _ _ _ _ _ _) ?_))
 refine bodyPost_ret (results_c1 Tryz.results8 _ _ (O + 1) 43 _ _ _ rfl (setRow_heap _ _ _ _ _ _ HAN.out) Tryz.underlying43 rfl (ansN _ _ _ _ _ _ _ _)) rfl ?_
 have hO := HOE.out
 subst hO
 exact ⟨⟨_, rfl, HP.out.own HO5.out _⟩, HP.out.endR HLT.out HX5.out _⟩
theorem Pro.endB {w w2 : World} {o : OP} {rv : Value} (h : Pro w w2 o rv) (cs : Array Value) : Below w.heap.size w (w2.drew.setRow (w.heap.size + 1) cs) := below_setRow h.bl.drew (by omega) cs
theorem RNF.drew' {base : Nat} {F : List Nat} {p g : Nat} {w w1 : World} {m : Nat} {D : DS} {s : Sup} {nx ep : Int} (h : RNF base F p g w.drew m D s nx ep w1) : RNF base F p g w m D s nx ep w1 := by
 obtain ⟨F1, y1, y2, y3, y4⟩ := h; exact ⟨F1, y1, y2, (Fr.refl (g :: F) w).drew.trans y3 (Gr.refl _ _), y4⟩
theorem RX.drew' {base : Nat} {F : List Nat} {p : Nat} {w w1 : World} {m : Nat} {D : DS} (h : RX base F p w.drew m D w1) : RX base F p w m D w1 := by
 obtain ⟨F1, y1, y2, y3⟩ := h; exact ⟨F1, y1, (Fr.refl F w).drew.trans y2 (Gr.refl _ _), y3⟩
theorem xStA : (∀ (w : World) (base m : Nat) (hm : m + 8 < 400000000000) (P : PL) (A B : AW) (rm : List Int) (h : Inv base m w P A B rm) (o : OP) (i : Nat) (hi : i = plc o.dk 2) (j : Nat) (hjj : j = plc o.fl 3) (hk : 10 ≤ o.kd ∧ o.kd ≤ 21) (how : o.ow = true) (hD : B.d i = none) (sp : Option Addr) (cap : Nat) (ho : OpOk w o sp cap), Calls Tryz.prog 8 #[.pointer (some ⟨P.xw, 0, none⟩), .agg (o.C (.slice sp o.raw.length cap))] w fun e w' => Told w.heap.size w' an0 e ∧ Below w.heap.size w w') ∧ (∀ (w : World) (base m : Nat) (hm : m + 8 < 400000000000) (P : PL) (A B : AW) (rm : List Int) (h : Inv base m w P A B rm) (o : OP) (i : Nat) (hi : i = plc o.dk 2) (j : Nat) (hjj : j = plc o.fl 3) (hk : o.kd = 21) (how : o.ow = false) (hD : B.d i = none) (sp : Option Addr) (cap : Nat) (ho : OpOk w o sp cap), Calls Tryz.prog 8 #[.pointer (some ⟨P.xw, 0, none⟩), .agg (o.C (.slice sp o.raw.length cap))] w fun e w' => Told w.heap.size w' an0 e ∧ Below w.heap.size w w') ∧ (∀ (w : World) (base m : Nat) (hm : m + 8 < 400000000000) (P : PL) (A B : AW) (rm : List Int) (h : Inv base m w P A B rm) (o : OP) (i : Nat) (hi : i = plc o.dk 2) (j : Nat) (hjj : j = plc o.fl 3) (hk : 10 ≤ o.kd ∧ o.kd ≤ 20) (how : o.ow = false) (hX : B.f j = none) (sp : Option Addr) (cap : Nat) (ho : OpOk w o sp cap), Calls Tryz.prog 8 #[.pointer (some ⟨P.xw, 0, none⟩), .agg (o.C (.slice sp o.raw.length cap))] w fun e w' => Told w.heap.size w' an0 e ∧ Below w.heap.size w w') ∧ (∀ (w : World) (base m : Nat) (hm : m + 8 < 400000000000) (P : PL) (A B : AW) (rm : List Int) (h : Inv base m w P A B rm) (o : OP) (i : Nat) (hi : i = plc o.dk 2) (j : Nat) (hjj : j = plc o.fl 3) (hk : 3 ≤ o.kd ∧ o.kd ≤ 9) (hX : B.f j = none) (sp : Option Addr) (cap : Nat) (ho : OpOk w o sp cap), Calls Tryz.prog 8 #[.pointer (some ⟨P.xw, 0, none⟩), .agg (o.C (.slice sp o.raw.length cap))] w fun e w' => Told w.heap.size w' an0 e ∧ Below w.heap.size w w') := by
 refine ⟨?_, ?_, ?_, ?_⟩
 intro w base m hm P A B rm h o i hi j hjj hk how hD sp cap ho
 rotate_left
 intro w base m hm P A B rm h o i hi j hjj hk how hD sp cap ho
 rotate_left
 intro w base m hm P A B rm h o i hi j hjj hk how hX sp cap ho
 rotate_left
 intro w base m hm P A B rm h o i hi j hjj hk hX sp cap ho
 rotate_left
 all_goals
  have hi2 : i < 2 := by rw [hi]; exact plc_lt _ _ (by omega)
  have hj : j < 3 := by rw [hjj]; exact plc_lt _ _ (by omega)
  have hP := Pro.mk' w o (.slice sp o.raw.length cap)
  have k0 := hP.cell 0
  have k1' := hP.cell 1
  have k2' := hP.cell 2
  have k3' := hP.cell 3
  have k4' := hP.cell 4
  obtain ⟨w2, hw2⟩ : ∃ w2, w2 = (w.alloc (.cells (o.C (.slice sp o.raw.length cap)) 37)).alloc (.cells zzA 43) := ⟨_, rfl⟩
  have hW2 := hid hw2
  rw [← hw2] at hP k0 k1' k2' k3' k4'
  have h2 := h.below hP.bl
  have o2 := ho.below hP.bl
  have hb2 : base ≤ w2.drew.heap.size := Nat.le_trans h.sep.hb hP.bl.size
  have od : OpOk w2.drew o sp cap := ⟨o2.src.below (Below.refl _ w2).drew (Nat.le_refl _), o2.nil, o2.bts, o2.len, o2.bt, o2.n⟩
  have hGd : Gl w2.drew := h2.gl.below (B := w2.heap.size) (Below.refl _ w2).drew (by have := h2.gl.1; omega)
  obtain ⟨bd, cd, bf, cf, e1, e2, c1, c2, x0', x1', kd', kf'⟩ := h2.rowsX
  rw [e1] at x0'
  rw [e2] at x1'
  have xd' := kd' i hi2
  have xf' := kf' j hj
 have hpt : ptrD P.px B i = .pointer none := by unfold ptrD; rw [hD]; rfl
 obtain ⟨fp, hfp⟩ : ∃ fp, fp = (B.f j).map (fun _ => (⟨P.gx j, 0, none⟩ : Addr)) := ⟨_, rfl⟩
 have hpf : ptrF P.gx B j = .pointer fp := by unfold ptrF; rw [hfp]
 rotate_left
 have hpt : ptrD P.px B i = .pointer none := by unfold ptrD; rw [hD]; rfl
 obtain ⟨fp, hfp⟩ : ∃ fp, fp = (B.f j).map (fun _ => (⟨P.gx j, 0, none⟩ : Addr)) := ⟨_, rfl⟩
 have hpf : ptrF P.gx B j = .pointer fp := by unfold ptrF; rw [hfp]
 rotate_left
 obtain ⟨dp, hdp⟩ : ∃ dp, dp = (B.d i).map (fun _ => (⟨P.px i, 0, none⟩ : Addr)) := ⟨_, rfl⟩
 have hpt : ptrD P.px B i = .pointer dp := by unfold ptrD; rw [hdp]
 have hpf : ptrF P.gx B j = .pointer none := by unfold ptrF; rw [hX]; rfl
 rotate_left
 obtain ⟨dp, hdp⟩ : ∃ dp, dp = (B.d i).map (fun _ => (⟨P.px i, 0, none⟩ : Addr)) := ⟨_, rfl⟩
 have hpt : ptrD P.px B i = .pointer dp := by unfold ptrD; rw [hdp]
 have hpf : ptrF P.gx B j = .pointer none := by unfold ptrF; rw [hX]; rfl
 rotate_left
 all_goals
  rw [hpt] at xd'
  rw [hpf] at xf'
  have lt : ∀ {k jj : Nat} {v : Value}, w2.cell? ⟨k, jj, none⟩ = some v → k < w2.heap.size := fun hv => World.block_lt_of_cell? _ _ hv
  have HPI := hid (fun (w4 : World) => (show Calls Tryz.prog 14 #[.int .i64 o.dk, .int .i64 2] w4 fun e w' => e = .returned (.int .i64 (i : Nat)) ∧ w4 = w' by rw [hi]; exact xplace_any w4 o.dk 2 (Or.inl rfl) 2 rfl))
  have HPJ := hid (fun (w4 : World) => (show Calls Tryz.prog 14 #[.int .i64 o.fl, .int .i64 3] w4 fun e w' => e = .returned (.int .i64 (j : Nat)) ∧ w4 = w' by rw [hjj]; exact xplace_any w4 o.fl 3 (Or.inr rfl) 3 rfl))
  obtain ⟨O, hO⟩ : ∃ O, O = w.heap.size := ⟨_, rfl⟩
  rw [← hO] at k0 k1' k2' k3' k4'
  obtain ⟨xw, hxw⟩ : ∃ xw, xw = P.xw := ⟨_, rfl⟩
  rw [← hxw] at x0' x1' ⊢
  have HOE := hid hO
  have HOPR := hid (show w2.heap[O]? = some (.cells (o.C (.slice sp o.raw.length cap)) 37 (0, 0)) by rw [hO]; exact hP.op)
  have x0 := hid x0'
  have xd := hid xd'
  have k1 := hid (show w2.cell? ⟨O, 1, none⟩ = some (.int .i64 o.dk) from k1')
  have HXL := hid (lt x0')
  have HOL := hid (lt k0)
  have HDL := hid (lt xd')
  have k0d : w2.drew.cell? ⟨O, 0, none⟩ = some (.int .i64 o.kd) := k0
  have k2d : w2.drew.cell? ⟨O, 2, none⟩ = some (.int .i64 o.fl) := k2'
 have k3d : w2.drew.cell? ⟨O, 3, none⟩ = some (.bool true) := by rw [← how]; exact k3'
 rotate_left
 have k3d : w2.drew.cell? ⟨O, 3, none⟩ = some (.bool false) := by rw [← how]; exact k3'
 rotate_left
 have k3d : w2.drew.cell? ⟨O, 3, none⟩ = some (.bool false) := by rw [← how]; exact k3'
 rotate_left
 have k3d : w2.drew.cell? ⟨O, 3, none⟩ = some (.bool o.ow) := k3'
 rotate_left
 all_goals
  have k4d : w2.drew.cell? ⟨O, 4, none⟩ = some (.int .i64 o.n) := k4'
  have x1d : w2.drew.cell? ⟨xw, 1, none⟩ = some (.slice (some ⟨bf, 0, none⟩) 3 cf) := x1'
 have xfd : w2.drew.cell? ⟨bf, j, none⟩ = some (.pointer fp) := xf'
 rotate_left
 have xfd : w2.drew.cell? ⟨bf, j, none⟩ = some (.pointer fp) := xf'
 rotate_left
 have xfd : w2.drew.cell? ⟨bf, j, none⟩ = some (.pointer none) := xf'
 rotate_left
 have xfd : w2.drew.cell? ⟨bf, j, none⟩ = some (.pointer none) := xf'
 rotate_left
 all_goals
  have ij : (j : Int) < 3 := by omega
  have ii : (i : Int) < 2 := by omega
  have n1 : (o.kd == 1) = false := by simp; omega
  have n2 : (o.kd == 2) = false := by simp; omega
  have n3 : 3 ≤ o.kd := by omega
 have n4 : ¬ o.kd ≤ 9 := by omega
 have n5 : 10 ≤ o.kd := by omega
 have n6 : o.kd ≤ 21 := by omega
 rotate_left
 have n4 : ¬ o.kd ≤ 9 := by omega
 have n5 : 10 ≤ o.kd := by omega
 have n6 : o.kd ≤ 21 := by omega
 have n7 : (o.kd != 21) = false := by simp; omega
 rotate_left
 have n4 : ¬ o.kd ≤ 9 := by omega
 have n5 : 10 ≤ o.kd := by omega
 have n6 : o.kd ≤ 21 := by omega
 have n7 : (o.kd != 21) = true := by simp; omega
 rotate_left
 have n4 : o.kd ≤ 9 := by omega
 rotate_left
 all_goals
  have HP := hid hP
  have HAN := hid (show w2.drew.heap[O + 1]? = some (.cells zzA 43 (0, 0)) by rw [hO]; exact hP.an)
  clear hP k0 k1' k2' k3' k4' h2 o2 od hGd h ho x0' x1' xd' xf' kd' kf' lt e1 e2 hi hjj hO hxw hw2 hpt hpf
  go_enter Tryz.func8, Tryz.ntmps8
  go_wp2_with (first
    | refine wpList_box_op rfl (.tmp 1) rfl o sp o.raw.length cap rfl ?_)
  rw [← hW2.out, ← HOE.out]
  refine rgA (fun w' => Below w2.heap.size w2 w') (Below.refl _ _).drew (fun hq0 => ?_)
  refine tkA 0 (.pointer (some ⟨xw, 0, none⟩)) rfl hq0 ?_
  go_frame
  refine tkA 4 (.pointer (some ⟨O, 1, none⟩)) rfl hq0 ?_
  go_frame
  refine tkA 1 (.pointer (some ⟨xw, 0, none⟩)) rfl hq0 ?_
  go_frame
  refine tqA 5 (.int .i64 o.dk) rfl (yA (by intro w hS; have hc := (hS.cell (p := ⟨O, 1, none⟩) HOL.out).trans k1.out; go_simp)) hq0 ?_
  go_frame
  refine tkA 2 (.pointer (some ⟨xw, 0, none⟩)) rfl hq0 ?_
  go_frame
  refine tqA 3 (.slice (some ⟨bd, 0, none⟩) 2 cd) rfl (yA (by intro w hS; have hc := (hS.cell (p := ⟨xw, 0, none⟩) HXL.out).trans x0.out; go_simp)) hq0 ?_
  go_frame
  refine rdA 6 rfl (fun K hK => ?_)
  go_simp
  go_at_call 14
  refine (HPI.out _).mono ?_
  rintro e w4 ⟨rfl, rfl⟩
  go_wp2_with fail
  refine hK.out _ _ (hq0) ?_
  clear hK K hq0
  intro hq0
  try go_frame
  refine tkA 7 (.pointer (some ⟨bd, 0 + i, none⟩)) rfl hq0 ?_
  go_frame
 refine tqA 8 (.pointer none) rfl (yA (by intro w hS; have hc := (hS.cell (p := ⟨bd, i, none⟩) HDL.out).trans xd.out; go_simp)) hq0 ?_
 rotate_left
 refine tqA 8 (.pointer none) rfl (yA (by intro w hS; have hc := (hS.cell (p := ⟨bd, i, none⟩) HDL.out).trans xd.out; go_simp)) hq0 ?_
 rotate_left
 refine tqA 8 (.pointer dp) rfl (yA (by intro w hS; have hc := (hS.cell (p := ⟨bd, i, none⟩) HDL.out).trans xd.out; go_simp)) hq0 ?_
 rotate_left
 refine tqA 8 (.pointer dp) rfl (yA (by intro w hS; have hc := (hS.cell (p := ⟨bd, i, none⟩) HDL.out).trans xd.out; go_simp)) hq0 ?_
 rotate_left
 all_goals
  go_frame
 refine tkA 9 (.pointer none) rfl hq0 ?_
 rotate_left
 refine tkA 9 (.pointer none) rfl hq0 ?_
 rotate_left
 refine tkA 9 (.pointer dp) rfl hq0 ?_
 rotate_left
 refine tkA 9 (.pointer dp) rfl hq0 ?_
 rotate_left
 all_goals
  go_frame
  refine wdA ?_
  clear hq0
  go_wp2_with (first
    | (go_at_call 14; refine (HPJ.out _).mono ?_; rintro e w4 ⟨rfl, rfl⟩)
    | (refine wpList_load_row_w (by rfl) 37 (.tmp 3) (by rfl) O (by rfl) 37 (o.C (.slice sp o.raw.length cap)) (0, 0) _ (by exact HOPR.out) Tryz.underlying37 rfl (by rw [size_op]; rfl) ?_)
    | refine wpA_z rfl rfl ?_
    | (refine wpList_store_row rfl 43 (.tmp 4) _ rfl (O + 1) (ansC 0 0 (.slice none 0 0) sup0 0 0 0 0) rfl rfl 43 zzA HAN.out (ansN _ _ _ _ _ _ _ _) rfl (ansO _ _ _ _ _ _ _ _ _ _) ?_))
  refine bodyPost_ret (results_c1 Tryz.results8 _ _ (O + 1) 43 _ _ _ rfl (setRow_heap _ _ _ _ _ _ HAN.out) Tryz.underlying43 rfl (ansN _ _ _ _ _ _ _ _)) rfl ?_
  have hO := HOE.out
  subst hO
  exact ⟨⟨.slice none 0 0, rfl, Own.nil _ _⟩, HP.out.endB _⟩
end
end Go.Proofs.YtjhocjjecfdphaaGreatDoor
