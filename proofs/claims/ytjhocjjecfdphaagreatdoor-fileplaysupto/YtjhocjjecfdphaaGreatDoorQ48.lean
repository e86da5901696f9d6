import Derived.Test.YtjhocjjecfdphaaGreatDoorQ46
import Derived.Test.YtjhocjjecfdphaaGreatDoorQ47
import Derived.Test.YtjhocjjecfdphaaGreatDoorQ43
import Derived.Test.YtjhocjjecfdphaaGreatDoorQ44
namespace Go.Proofs.YtjhocjjecfdphaaGreatDoor
set_option linter.unusedVariables false
set_option linter.unusedSimpArgs false
set_option maxRecDepth 100000
set_option maxHeartbeats 4000000
section
open Go.RowKit
attribute [local go_sem ↓] Go.wp_at_zero Go.wp_at_succ
def LtP (base m : Nat) (w : World) (P : PL) (A B : AW) (rm : List Int) (r : AW × AN) (e : Ending) (w' : World) : Prop := Told2 w.heap.size w' r.2 true e ∧ ∃ P' rm', P'.pw = P.pw ∧ P'.xw = P.xw ∧ Inv base m w' P' r.1 B rm' ∧ Below base w w' ∧ ∀ k, k < w.heap.size → (∀ c, pgm c → k ∉ (comp base m P A B rm c).fp) → w'.heap[k]? = w.heap[k]?
section
variable {base m : Nat} {w w' : World} {P : PL} {A B : AW} {rm : List Int} {e : Ending}
theorem LtP.ofB (h : Inv base m w P A B rm) {a : AN} (hh : Told2 w.heap.size w' a true e ∧ Below w.heap.size w w') : LtP base m w P A B rm (A, a) e w' :=
 ⟨hh.1, P, rm, rfl, rfl, h.below hh.2, hh.2.mono h.sep.hb, fun k hk _ => hh.2.block k hk⟩
theorem LtP.ofN (h : Inv base m w P A B rm) {i : Nat} (hi : i < 2) {D : DS} (hD : A.d i = some D) {r : DS × AN} (hn : r.1.np = D.np) (hh : Told2 w.heap.size w' r.2 true e ∧ Nx base (P.Fd i) (P.pd i) w r.1 w') : LtP base m w P A B rm (onD A i r) e w' := by
 obtain ⟨F', y1, y2, y3⟩ := hh.2
 exact ⟨hh.1, { P with Fd := upC P.Fd i F' }, rm, rfl, rfl, h.pdisk i hi hD hn y1 y2 y3, y2.below (fun k hk => ((h.atD i hi hD).lt k hk).1) h.sep.hb, fun k hk hc => y2.block k hk (by rw [← fp_d i hi hD (m := m) (P := P) (A := A) (B := B) (rm := rm) (base := base)]; exact hc _ (pgm7 hi))⟩
theorem gf_in {j : Nat} (hj : j < 3) {x : FI} (hx : A.f j = some x) : P.gf j ∈ (comp base m P A B rm (11 + j)).fp := by
 have hj2 : j = 0 ∨ j = 1 ∨ j = 2 := by omega
 rcases hj2 with rfl | rfl | rfl
 · show P.gf 0 ∈ (cmF (P.gf 0) P.pd (A.f 0)).fp; rw [hx]; exact List.mem_cons_self
 · show P.gf 1 ∈ (cmF (P.gf 1) P.pd (A.f 1)).fp; rw [hx]; exact List.mem_cons_self
 · show P.gf 2 ∈ (cmF (P.gf 2) P.pd (A.f 2)).fp; rw [hx]; exact List.mem_cons_self
theorem gf_base (h : Inv base m w P A B rm) {j : Nat} (hj : j < 3) {x : FI} (hx : A.f j = some x) : base ≤ P.gf j := by
 have hj2 : j = 0 ∨ j = 1 ∨ j = 2 := by omega
 have hfp : P.gf j ∈ (comp base m P A B rm (11 + j)).fp := by
   rcases hj2 with rfl | rfl | rfl
   · show P.gf 0 ∈ (cmF (P.gf 0) P.pd (A.f 0)).fp; rw [hx]; exact List.mem_cons_self
   · show P.gf 1 ∈ (cmF (P.gf 1) P.pd (A.f 1)).fp; rw [hx]; exact List.mem_cons_self
   · show P.gf 2 ∈ (cmF (P.gf 2) P.pd (A.f 2)).fp; rw [hx]; exact List.mem_cons_self
 exact ((h.sep.ok _).1 _ hfp).1
theorem LtP.ofF (h : Inv base m w P A B rm) {j : Nat} (hj : j < 3) {x : FI} (hx : A.f j = some x) {D : DS} (hD : A.d x.dk = some D) {D' : DS} {s' : Sup} {nx' : Int} {a : AN} (hn : D'.np = D.np) (hf : FiOk D' s' nx') (hh : Told2 w.heap.size w' a true e ∧ NxF base (P.Fd x.dk) (P.pd x.dk) (P.gf j) w D' s' nx' x.ep w') : LtP base m w P A B rm (⟨upC A.d x.dk (some D'), upC A.f j (some { x with s := s', nx := nx' })⟩, a) e w' := by
 have hi : x.dk < 2 := by have := (h.ga.fi j x hx).1; omega
 obtain ⟨F', hI⟩ := h.pfile x.dk j hi hj hD hx rfl hn hf hh.2
 obtain ⟨F1, y1, y2, y3, y4⟩ := hh.2
 refine ⟨hh.1, { P with Fd := upC P.Fd x.dk F' }, rm, rfl, rfl, hI, y3.below (fun k hk => ?_) h.sep.hb, fun k hk hc => y3.block k hk (fun e => ?_)⟩
 rotate_left
 · rcases List.mem_cons.1 e with rfl | e
   · exact hc _ (pgm11 hj) (gf_in hj hx)
   · rw [← fp_d x.dk hi hD (m := m) (P := P) (A := A) (B := B) (rm := rm) (base := base)] at e; exact hc _ (pgm7 hi) e
 rcases List.mem_cons.1 hk with rfl | hk
 · exact gf_base h hj hx
 · exact ((h.atD x.dk hi hD).lt k hk).1
theorem LtP.of7 (h : Inv base m w P A B rm) {j : Nat} (hj : j < 3) {x : FI} (hx : A.f j = some x) {D : DS} (hD : A.d x.dk = some D) {D' : DS} {nx' : Int} {a : AN} (hn : D'.np = D.np) (hf : FiOk D' x.s nx') (hh : Told2 w.heap.size w' a true e ∧ Own7 base (P.Fd x.dk) (P.pd x.dk) P.pw (P.gf j) P.Dv P.Fv P.Rv w D' x.s nx' x.ep w') : LtP base m w P A B rm (⟨upC A.d x.dk (some D'), upC A.f j (some { x with s := x.s, nx := nx' })⟩, a) e w' := by
 have hi : x.dk < 2 := by have := (h.ga.fi j x hx).1; omega
 obtain ⟨F', Rv', rm', hI⟩ := h.own7 x.dk j hi hj hD hx rfl hn hf hh.2
 have h7 := hh.2
 refine ⟨hh.1, { P with Fd := upC P.Fd x.dk F', Rv := Rv' }, rm', rfl, rfl, hI, ⟨h7.os, h7.tape, h7.output, h7.size, fun k hk => h7.block k (by have := h.sep.hb; omega) (fun q => ?_) (fun q => ?_) (fun q => ?_) (fun q => ?_)⟩, fun k hk hc => h7.block k hk (fun q => ?_) (fun q => ?_) (fun q => ?_) (fun q => ?_)⟩
 · have := ((h.sep.ok 0).1 P.pw (by show P.pw ∈ [P.pw]; simp)).1; omega
 · have := gf_base h hj hx; omega
 · have := ((h.sep.ok 3).1 k (by show k ∈ P.Rv.ownBlock.toList; rw [q]; simp)).1; omega
 · have := ((h.atD x.dk hi hD).lt k q).1; omega
 · exact hc 0 (by unfold pgm; omega) (by show k ∈ [P.pw]; rw [q]; simp)
 · exact hc _ (pgm11 hj) (q ▸ gf_in hj hx)
 · exact hc 3 (by unfold pgm; omega) (by show k ∈ P.Rv.ownBlock.toList; rw [q]; simp)
 · rw [← fp_d x.dk hi hD (m := m) (P := P) (A := A) (B := B) (rm := rm) (base := base)] at q; exact hc _ (pgm7 hi) q
end
def Bnd (m : Nat) (A : AW) : Prop := ∀ i D, A.d i = some D → D.ops.length ≤ m ∧ D.writes ≤ m ∧ D.syncs ≤ m ∧ D.reads ≤ m ∧ D.epoch ≤ m
theorem Bnd.rm {m : Nat} {A : AW} (h : Bnd m A) (hm : m + 8 < 400000000000) {i : Nat} {D : DS} (hD : A.d i = some D) : Rm D ∧ (D.ops.length + 4 < 400000000000 ∧ D.writes + 4 < 4000000000000000000 ∧ D.syncs + 4 < 4000000000000000000) := by
 obtain ⟨a, b, c, d, e⟩ := h i D hD
 exact ⟨⟨by omega, by omega, by omega, by omega, by omega⟩, by omega, by omega, by omega⟩
theorem Inv.bnd {base m : Nat} {w : World} {P : PL} {A B : AW} {rm : List Int} (h : Inv base m w P A B rm) : Bnd m B := fun i D hD => by
 by_cases hi : i < 2
 · obtain ⟨Q, R, _, _, _, hd, _⟩ := h.atR i hi hD
   exact ⟨hd.opm, hd.wrm, hd.sym, hd.rm, hd.em⟩
 · rw [h.gb.d2 i (by omega)] at hD; cases hD
theorem lstep_any (w : World) (base m : Nat) (hm : m + 8 < 400000000000) (P : PL) (A B : AW) (rm : List Int) (h : Inv base m w P A B rm) (hb : Bnd m A) (o : OP) (had : Bool) (hh : had = ((stpF A o).1.f (plc o.fl 3)).isSome) (sp : Option Addr) (cap : Nat) (hsb : ∀ a, 0 < o.raw.length → sp = some a → a.block < base) (ho : OpOk w o sp cap) :
   Calls Tryz.prog 9 #[.pointer (some ⟨P.pw, 0, none⟩), .agg (o.C (.slice sp o.raw.length cap)), .bool had] w (LtP base m w P A B rm (stpF A o)) := by
 have hi : plc o.dk 2 < 2 := plc_lt _ _ (by omega)
 have hj : plc o.fl 3 < 3 := plc_lt _ _ (by omega)
 have hok : ∀ i, i < 2 → ∀ D, A.d i = some D → DsOk D := fun i hi D hD => (h.atD i hi hD).ok
 unfold stpF at hh ⊢
 by_cases k1 : o.kd = 1
 · rw [if_pos k1]
   cases hD : A.d (plc o.dk 2) with
   | none => exact (lStH.1 w base m P A B rm h o _ rfl _ rfl had k1 hD sp cap ho).mono fun e w' hh => LtP.ofB h hh
   | some D =>
     have hk := hok _ hi D hD
     obtain ⟨r1, r2⟩ := hb.rm hm hD
     exact (lStH.2.1 w base m P A B rm h o _ rfl _ rfl had k1 D hD r1 r2 sp cap ho).mono fun e w' hh => LtP.ofN h hi hD ((Pgn.of hk).fmtF hk.np.1 hk.np.2.1 o.n).np hh
 rw [if_neg k1] at hh ⊢
 by_cases k2 : o.kd = 2
 · rw [if_pos k2] at hh ⊢
   cases hD : A.d (plc o.dk 2) with
   | none =>
     rw [hD] at hh
     cases hX : A.f (plc o.fl 3) with
     | none => exact (lStI.1 w base m P A B rm h o _ rfl _ rfl had k2 hD hX (by rw [hh]; show (A.f (plc o.fl 3)).isSome = false; rw [hX]; rfl) sp cap ho).mono fun e w' hh => LtP.ofB h hh
     | some x => exact (lStI.2.1 w base m P A B rm h o _ rfl _ rfl had k2 hD x hX (by rw [hh]; show (A.f (plc o.fl 3)).isSome = true; rw [hX]; rfl) sp cap ho).mono fun e w' hh => LtP.ofB h hh
   | some D =>
     rw [hD] at hh
     have hk := hok _ hi D hD
     obtain ⟨r1, r2⟩ := hb.rm hm hD
     by_cases hE : (opnF D).2 = 0
     · simp only [hE, if_true] at hh ⊢
       refine (lStI.2.2.2.2 w base m P A B rm h o _ rfl _ rfl had k2 D hD hE r1 (by rw [hh, upC_at]; rfl) sp cap ho).mono fun e w' hh => ?_
       obtain ⟨t, P', q1, q2, q3, q4, q5⟩ := hh
       exact ⟨t, P', rm, q1, q2, q3, q4, q5⟩
     · simp only [hE, if_false] at hh ⊢
       cases hX : A.f (plc o.fl 3) with
       | none => exact (lStI.2.2.1 w base m P A B rm h o _ rfl _ rfl had k2 D hD hE r1 hX (by rw [hh]; show (A.f (plc o.fl 3)).isSome = false; rw [hX]; rfl) sp cap ho).mono fun e w' hh => LtP.ofN h hi hD (r := ((opnF D).1, { an0 with e := (opnF D).2 })) (Pgn.of hk).opnF.np hh
       | some x => exact (lStI.2.2.2.1 w base m P A B rm h o _ rfl _ rfl had k2 D hD hE r1 x hX (by rw [hh]; show (A.f (plc o.fl 3)).isSome = true; rw [hX]; rfl) sp cap ho).mono fun e w' hh => LtP.ofN h hi hD (r := ((opnF D).1, { an0 with e := (opnF D).2 })) (Pgn.of hk).opnF.np hh
 rw [if_neg k2] at hh ⊢
 clear hh
 by_cases k3 : 3 ≤ o.kd ∧ o.kd ≤ 9
 · rw [if_pos k3]
   cases hX : A.f (plc o.fl 3) with
   | none => exact (lStG.2.2.2.1 w base m P A B rm h o _ rfl _ rfl had k3 hX sp cap ho).mono fun e w' hh => LtP.ofB h hh
   | some x =>
     obtain ⟨hdk, D, hD, hf⟩ := h.ga.fi _ x hX
     have hk := hok x.dk (by omega) D hD
     obtain ⟨r1, r2⟩ := hb.rm hm hD
     simp only [hD]
     have hfi := fil_fi hk hf x.ep o ho.bts
     by_cases k7 : o.kd = 7
     · have hs : (filF D x.s x.nx x.ep o).2.1 = x.s := by unfold filF; rw [if_neg (by rw [k7]; decide), if_neg (by rw [k7]; decide), if_neg (by rw [k7]; decide), if_neg (by rw [k7]; decide), if_pos k7]
       rw [hs] at hfi ⊢
       exact (lstF.2 w base m P A B rm h o _ rfl _ rfl had k7 x hX D hD r1 sp cap hsb ho).mono fun e w' hh => LtP.of7 h hj hX hD hfi.1 hfi.2 hh
     · exact (lstF.1 w base m P A B rm h o _ rfl _ rfl had k3 k7 x hX D hD r1 r2 sp cap ho).mono fun e w' hh => LtP.ofF h hj hX hD hfi.1 hfi.2 hh
 rw [if_neg k3]
 by_cases k4 : 10 ≤ o.kd ∧ o.kd ≤ 21
 · rw [if_pos k4]
   by_cases k5 : o.ow = false ∧ o.kd ≠ 21
   · rw [if_pos k5]
     cases hX : A.f (plc o.fl 3) with
     | none => exact (lStG.2.2.1 w base m P A B rm h o _ rfl _ rfl had ⟨k4.1, by omega⟩ k5.1 hX sp cap ho).mono fun e w' hh => LtP.ofB h hh
     | some x =>
       obtain ⟨hdk, D, hD, hf⟩ := h.ga.fi _ x hX
       have hk := hok x.dk (by omega) D hD
       obtain ⟨r1, r2⟩ := hb.rm hm hD
       simp only [hD]
       exact (lStH.2.2.2.2 w base m P A B rm h o _ rfl _ rfl had ⟨k4.1, by omega⟩ k5.1 x hX D hD r1 sp cap ho).mono fun e w' hh => LtP.ofN h (by omega) hD ((Pgn.of hk).dskF o ho.bts).np hh
   · rw [if_neg k5]
     cases hD : A.d (plc o.dk 2) with
     | none =>
       cases how : o.ow with
       | true => exact (lStG.1 w base m P A B rm h o _ rfl _ rfl had k4 how hD sp cap ho).mono fun e w' hh => LtP.ofB h hh
       | false => exact (lStG.2.1 w base m P A B rm h o _ rfl _ rfl had (by rw [how] at k5; simp at k5; exact k5) how hD sp cap ho).mono fun e w' hh => LtP.ofB h hh
     | some D =>
       have hk := hok _ hi D hD
       obtain ⟨r1, r2⟩ := hb.rm hm hD
       cases how : o.ow with
       | true => exact (lStH.2.2.1 w base m P A B rm h o _ rfl _ rfl had k4 how D hD r1 sp cap ho).mono fun e w' hh => LtP.ofN h hi hD ((Pgn.of hk).dskF o ho.bts).np hh
       | false => exact (lStH.2.2.2.1 w base m P A B rm h o _ rfl _ rfl had (by rw [how] at k5; simp at k5; exact k5) how D hD r1 sp cap ho).mono fun e w' hh => LtP.ofN h hi hD ((Pgn.of hk).dskF o ho.bts).np hh
 · rw [if_neg k4]
   by_cases k6 : o.kd ≤ 0
   · exact (lStG.2.2.2.2.1 w base m P A B rm h o _ rfl _ rfl had k6 sp cap ho).mono fun e w' hh => LtP.ofB h hh
   · exact (lStG.2.2.2.2.2 w base m P A B rm h o _ rfl _ rfl had (by omega) sp cap ho).mono fun e w' hh => LtP.ofB h hh
def z300 : List Int := List.replicate 300 0
theorem mk300 (w : World) : (Instr.makeSlice 22 (.int .i64 300) (.int .i64 300)).run Tryz.prog w = .ok (.slice (some ⟨w.heap.size, 0, none⟩) 300 300) (w.alloc (.cells (ints .u8 z300).toArray 5)) := by kernel_rfl
theorem bl_lw (s : Option Addr) (n c : Nat) : Tryz.prog.built 59 [(2, .slice s n c)] = some #[.slice none 0 0, .slice none 0 0, .slice s n c] := by kernel_rfl
theorem bx_lw (s : Option Addr) (n c : Nat) (w : World) : (Instr.box 59 (.agg #[.slice none 0 0, .slice none 0 0, .slice s n c])).run Tryz.prog w = .ok (.pointer (some ⟨w.heap.size, 0, none⟩)) (w.alloc (.cells #[.slice none 0 0, .slice none 0 0, .slice s n c] 59)) := by kernel_rfl
theorem bs_pd (a b : Option Addr) (w : World) : (Instr.buildSlice 56 2 #[(0, .pointer a), (1, .pointer b)]).run Tryz.prog w = .ok (.slice (some ⟨w.heap.size, 0, none⟩) 2 2) (w.alloc (.cells #[.pointer a, .pointer b] 60)) := by kernel_rfl
theorem bs_pf (w : World) : (Instr.buildSlice 57 3 #[(0, .pointer none), (1, .pointer none), (2, .pointer none)]).run Tryz.prog w = .ok (.slice (some ⟨w.heap.size, 0, none⟩) 3 3) (w.alloc (.cells #[.pointer none, .pointer none, .pointer none] 69)) := by kernel_rfl
theorem DK.base_le {w : World} {base b2 : Nat} {P : DP} {D : DS} (h : DK w base P D) (hb : b2 ≤ base) : DK w b2 P D := by
 refine ⟨h.cell, h.im, h.gl, h.gm, ⟨h.opn.1, ?_⟩, h.mp, h.new, Nat.le_trans hb h.bp, Nat.le_trans hb h.bg, Nat.le_trans hb h.bm⟩
 rcases h.opn.2 with q | ⟨g, cap, cur, e1, e2, r⟩
 · exact Or.inl q
 · exact Or.inr ⟨g, cap, cur, e1, Nat.le_trans hb e2, r⟩
theorem DA.base_le {w : World} {base b2 : Nat} {F : List Nat} {p : Nat} {D : DS} (h : DA w base F p D) (hb : b2 ≤ base) : DA w b2 F p D := by
 obtain ⟨P, e1, e2, h, k⟩ := h; exact ⟨P, e1, e2, h.base_le hb, k⟩
theorem infoPDm : (Tryz.prog.info? 60).map (fun i => (i.zero.map (·.cells.size), i.size, i.bytes)) = some (some 1, 1, 8) := by kernel_rfl
theorem infoPD : ∃ i z, Tryz.prog.info? 60 = some i ∧ i.zero = some z ∧ i.size = 1 ∧ i.bytes = 8 ∧ z.cells.size = 1 := by
 have h := infoPDm
 cases hi : Tryz.prog.info? 60 with
 | none => rw [hi] at h; simp at h
 | some i =>
   rw [hi] at h
   cases hz : i.zero with
   | none => simp [hz] at h
   | some z => simp [hz] at h; exact ⟨i, z, rfl, hz, h.2.1, h.2.2, h.1⟩
theorem infoPFm : (Tryz.prog.info? 69).map (fun i => (i.zero.map (·.cells.size), i.size, i.bytes)) = some (some 1, 1, 8) := by kernel_rfl
theorem infoPF : ∃ i z, Tryz.prog.info? 69 = some i ∧ i.zero = some z ∧ i.size = 1 ∧ i.bytes = 8 ∧ z.cells.size = 1 := by
 have h := infoPFm
 cases hi : Tryz.prog.info? 69 with
 | none => rw [hi] at h; simp at h
 | some i =>
   rw [hi] at h
   cases hz : i.zero with
   | none => simp [hz] at h
   | some z => simp [hz] at h; exact ⟨i, z, rfl, hz, h.2.1, h.2.2, h.1⟩
theorem madeD_cm {B base : Nat} {w : World} {r : Option DS} {e : Ending} (h : MadeD B w r e) (hb : base ≤ B) : ∃ p F, e = .returned (.pointer (r.map fun _ => ⟨p, 0, none⟩)) ∧ (cmD base F p r).ok base w ∧ ∀ q ∈ (cmD base F p r).fp, B ≤ q := by
 cases r with
 | none => exact ⟨0, [], h, Cm.no_ok _ _, fun q hq => by cases hq⟩
 | some D =>
   obtain ⟨p, F, e1, h1⟩ := h
   exact ⟨p, F, e1, cmD_ok (h1.base_le hb), fun q hq => (h1.lt q hq).1⟩
theorem bg_good (s : SC) : Good2 (bgA s) := ⟨(fun j x hx => by cases hx), fun i hi => by show (if i = 0 then _ else if i = 1 then _ else none) = none; rw [if_neg (by omega), if_neg (by omega)], fun j hj => rfl⟩
theorem lbegin_any (w : World) (base m : Nat) (P0 : PL) (s : SC) (h : Sep base w (compX base m P0 (bgA s))) (hG : Gl w) (hb0 : 0 < base) (hs : ScOk w s) (s3 : Option Addr) (n3 c3 : Nat) (hov : s.ov = .slice s3 n3 c3) :
   Calls Tryz.prog 7 #[.agg s.C.toArray, .pointer (some ⟨P0.xw, 0, none⟩)] w fun e w' => ∃ P rm, e = .returned (.tuple #[.pointer (some ⟨P.pw, 0, none⟩), .bool true]) ∧ P.xw = P0.xw ∧ Inv base m w' P (bgA s) (bgA s) rm ∧ Below w.heap.size w w' := by
 have hb := h.hb
 have lt0 : ∀ k q, q ∈ (compX base m P0 (bgA s) k).fp → q < w.heap.size := fun k q hq => cm_lt h q k hq
 have b1 : Below w.heap.size w (((w.alloc (.cells s.C.toArray 27)).alloc (.cells (ints .u8 z300).toArray 5)).alloc (.cells #[.slice none 0 0, .slice none 0 0, .slice (some ⟨w.heap.size + 1, 0, none⟩) 300 300] 59)) := (((Below.refl _ w).alloc (Nat.le_refl _) _).alloc (by simp) _).alloc (by simp; omega) _
 have rO : (((w.alloc (.cells s.C.toArray 27)).alloc (.cells (ints .u8 z300).toArray 5)).alloc (.cells #[.slice none 0 0, .slice none 0 0, .slice (some ⟨w.heap.size + 1, 0, none⟩) 300 300] 59)).heap[w.heap.size]? = some (.cells s.C.toArray 27 (0, 0)) := hold (hold (hnew w _))
 have rR : (((w.alloc (.cells s.C.toArray 27)).alloc (.cells (ints .u8 z300).toArray 5)).alloc (.cells #[.slice none 0 0, .slice none 0 0, .slice (some ⟨w.heap.size + 1, 0, none⟩) 300 300] 59)).heap[w.heap.size + 1]? = some (.cells (ints .u8 z300).toArray 5 (0, 0)) := hold (by have := hnew (w.alloc (.cells s.C.toArray 27)) (.cells (ints .u8 z300).toArray 5); simpa using this)
 have rX : (((w.alloc (.cells s.C.toArray 27)).alloc (.cells (ints .u8 z300).toArray 5)).alloc (.cells #[.slice none 0 0, .slice none 0 0, .slice (some ⟨w.heap.size + 1, 0, none⟩) 300 300] 59)).heap[w.heap.size + 2]? = some (.cells #[.slice none 0 0, .slice none 0 0, .slice (some ⟨w.heap.size + 1, 0, none⟩) 300 300] 59 (0, 0)) := by have := hnew ((w.alloc (.cells s.C.toArray 27)).alloc (.cells (ints .u8 z300).toArray 5)) (.cells #[.slice none 0 0, .slice none 0 0, .slice (some ⟨w.heap.size + 1, 0, none⟩) 300 300] 59); simpa using this
 have z1 : (((w.alloc (.cells s.C.toArray 27)).alloc (.cells (ints .u8 z300).toArray 5)).alloc (.cells #[.slice none 0 0, .slice none 0 0, .slice (some ⟨w.heap.size + 1, 0, none⟩) 300 300] 59)).heap.size = w.heap.size + 3 := by simp
 have hs1 := hs.below b1
 have bxw := bx_lw
 have mz := mk300
 have LA := hid (show (Tryz.prog.info? 24).map (·.size) = some ([.int .i64 s.pa, .slice s.s1 s.ia.length s.c1] : List Value).length by rw [size_start]; rfl)
 have LB := hid (show (Tryz.prog.info? 24).map (·.size) = some ([.int .i64 s.pb, .slice s.s2 s.ib.length s.c2] : List Value).length by rw [size_start]; rfl)
 have RA := hid (sc_at rO).1
 have HOV := hid hov
 have ya := hs.ya
 have la := hs.la
 have na := hs.na
 have yb := hs.yb
 have lb := hs.lb
 have nb := hs.nb
 clear hs hov
 go_enter Tryz.func7, Tryz.ntmps7
 go_wp2_with (first
   | refine wpList_box_sc rfl (.tmp 0) rfl s s3 n3 c3 HOV.out rfl ?_
   | refine wpList_built (by rfl) 59 _ (by rfl) _ (by rfl) _ (bl_lw _ _ _) ?_
   | (refine wpList_load_mid rfl 24 _ rfl w.heap.size 0 rfl [.int .i64 s.pa, .slice s.s1 s.ia.length s.c1] _ RA.out Tryz.underlying24 rfl LA.out ?_; refine Hid.out ?_))
 refine hid ?_
 clear bxw RA mz
 generalize ((w.alloc (.cells s.C.toArray 27)).alloc (.cells (ints .u8 z300).toArray 5)).alloc (.cells #[.slice none 0 0, .slice none 0 0, .slice (some ⟨w.heap.size + 1, 0, none⟩) 300 300] 59) = w1 at *
 have hRoom : Own w1 base (.slice (some ⟨w.heap.size + 1, 0, none⟩) 300 300) z300 := ⟨by simp [z300, ints], Or.inr ⟨w.heap.size + 1, 300, (ints .u8 z300).toArray, rfl, by omega, rR, Nat.le_refl _, by simp [maxLen], by simp [z300, ints], by simp [z300, ints]⟩⟩
 have S0 := h.new 3 b1 (c := cmRoom base (.slice (some ⟨w.heap.size + 1, 0, none⟩) 300 300) z300) (fun k hk => by have e : k = w.heap.size + 1 := (by simpa [cmRoom, Value.ownBlock] using hk); omega) (cmRoom_ok hRoom)
 have KA := hid (lmade_any w1 s.pa s.ia ya la s.s1 s.c1 hs1.sa)
 go_wp2_with (first | (refine KA.out.mono ?_; rintro e w2 ⟨hM2, b2⟩; obtain ⟨pA, FA, rfl, okA, nwA⟩ := madeD_cm hM2 (base := base) (by omega); refine Hid.out ?_))
 refine hid ?_
 clear KA hM2
 have rO2 := hbel b2 rO (hlt_ rO)
 have rX2 := hbel b2 rX (hlt_ rX)
 have RB := hid (sc_at rO2).2
 have KB := hid (lmade_any w2 s.pb s.ib yb lb s.s2 s.c2 (hs1.sb.below b2 (Nat.le_refl _)))
 go_wp2_with (first
   | refine wpList_load_mid rfl 24 _ rfl w.heap.size 2 rfl [.int .i64 s.pb, .slice s.s2 s.ib.length s.c2] _ RB.out Tryz.underlying24 rfl LB.out ?_
   | (refine KB.out.mono ?_; rintro e w3 ⟨hM3, b3⟩; obtain ⟨pB, FB, rfl, okB, nwB⟩ := madeD_cm hM3 (base := base) (by have := b2.size; omega); refine Hid.out ?_))
 refine hid ?_
 clear KB RB hM3
 have rX3 := hbel b3 rX2 (hlt_ rX2)
 have S1 := S0.new 7 b2 nwA okA
 have S2 := S1.new 8 b3 nwB okB
 have z2 := b2.size
 have z3 := b3.size
 have nx9 : ∀ k, w.heap.size + 2 ∉ (upC (upC (upC (compX base m P0 (bgA s)) 3 (cmRoom base (.slice (some ⟨w.heap.size + 1, 0, none⟩) 300 300) z300)) 7 (cmD base FA pA (mdF s.pa s.ia))) 8 (cmD base FB pB (mdF s.pb s.ib)) k).fp := fun k hk => by
   by_cases e8 : k = 8
   · subst e8; rw [upC_at] at hk; have := nwB _ hk; omega
   · rw [upC_ne _ _ _ e8] at hk
     by_cases e7 : k = 7
     · subst e7; rw [upC_at] at hk; have := nwA _ hk; omega
     · rw [upC_ne _ _ _ e7] at hk
       by_cases e3 : k = 3
       · subst e3; rw [upC_at] at hk
         have : w.heap.size + 2 = w.heap.size + 1 := by simp [cmRoom, Value.ownBlock] at hk
         omega
       · rw [upC_ne _ _ _ e3] at hk; have := lt0 k _ hk; omega
 generalize hva : (mdF s.pa s.ia).map (fun _ => (⟨pA, 0, none⟩ : Addr)) = va at *
 generalize hvb : (mdF s.pb s.ib).map (fun _ => (⟨pB, 0, none⟩ : Addr)) = vb at *
 have HVA := hid hva
 have HVB := hid hvb
 clear hva hvb
 obtain ⟨i5, zz, hi5, hz5, hs5, hy5, hc5⟩ := infoPD
 obtain ⟨i6, zz6, hi6, hz6, hs6, hy6, hc6⟩ := infoPF
 have hown0 : ∀ W : World, W.ownsRow base 60 1 (.slice none 0 0) 0 [] := fun W => ⟨rfl, Or.inl ⟨rfl, rfl⟩⟩
 have hown1 : ∀ W : World, W.ownsRow base 69 1 (.slice none 0 0) 0 [] := fun W => ⟨rfl, Or.inl ⟨rfl, rfl⟩⟩
 have BS := hid (bs_pd va vb w3)
 have cX3 : w3.cell? ⟨w.heap.size + 2, 0, none⟩ = some (.slice none 0 0) := by rw [cell_of_row _ _ _ _ _ _ rX3]; rfl
 go_wp2_with (first
   | (refine wpList_bs rfl 56 2 #[(0, .tmp 23), (1, .tmp 24)] rfl #[(0, .pointer va), (1, .pointer vb)] (by simp [Act.eval]) _ BS.out ?_; refine Hid.out ?_))
 refine hid ?_
 refine wpList_append_own_at _ rfl (.tmp 22) (.tmp 25) 56 rfl base 60 i5 zz 1 8 Tryz.underlying56 hi5 hz5 hs5 hy5 hc5 (by decide) (.slice none 0 0) 0 [] rfl (hown0 _) ⟨w3.heap.size, 0, none⟩ 2 2 [.pointer va, .pointer vb] rfl rfl (by
   intro j u hu
   rw [Addr.add_mid, Nat.zero_add, cell_of_row _ _ _ _ _ _ (hnew w3 _)]
   simpa using hu) (by intro u hu; simp at hu; rcases hu with rfl | rfl <;> rfl) (by simp [maxLen]) (by omega) (by simp; omega) ?_
 intro v4 w4 hR4 hg4 _ hv4
 have b4 : Below w3.heap.size w3 w4 := ((Below.refl _ w3).alloc (Nat.le_refl _) _).trans (grown_keeps hg4 (fun k hk => by cases hk) (by simp))
 have rX4 := hbel b4 rX3 (hlt_ rX3)
 have hv4b : ∀ k, v4.ownBlock = some k → w3.heap.size < k := fun k e => by
   rcases hv4 with q | q
   · rw [q] at e; cases e
   · rw [q] at e; cases e; simp
 obtain ⟨bd, cdd, rfl, -⟩ := row_at hR4 (by omega)
 have S4 := S2.new 1 b4 (c := cmRow base 60 (.slice (some ⟨bd, 0, none⟩) 2 cdd) 2 [.pointer va, .pointer vb]) (fun k hk => by have := hv4b k (by simpa [cmRow] using hk); omega) (cmRow_ok hR4)
 have fz4 : w4.frozen? ⟨w.heap.size + 2, 0, none⟩ = false := frozen_of_row _ _ _ _ _ rX4
 have cX4 : w4.cell? ⟨w.heap.size + 2, 0, none⟩ = some (.slice none 0 0) := by rw [cell_of_row _ _ _ _ _ _ rX4]; rfl
 have z4 := b4.size
 clear BS hown0 S0 S1
 have rX5 : (w4.setCell ⟨w.heap.size + 2, 0, none⟩ (.slice (some ⟨bd, 0, none⟩) 2 cdd)).heap[w.heap.size + 2]? = some (.cells #[.slice (some ⟨bd, 0, none⟩) 2 cdd, .slice none 0 0, .slice (some ⟨w.heap.size + 1, 0, none⟩) 300 300] 59 (0, 0)) := heap_setCell_same _ _ _ _ _ _ rX4
 have cX5 : (w4.setCell ⟨w.heap.size + 2, 0, none⟩ (.slice (some ⟨bd, 0, none⟩) 2 cdd)).cell? ⟨w.heap.size + 2, 1, none⟩ = some (.slice none 0 0) := by rw [cell_of_row _ _ _ _ _ _ rX5]; rfl
 have nx5 : ∀ k, w.heap.size + 2 ∉ (upC (upC (upC (upC (compX base m P0 (bgA s)) 3 (cmRoom base (.slice (some ⟨w.heap.size + 1, 0, none⟩) 300 300) z300)) 7 (cmD base FA pA (mdF s.pa s.ia))) 8 (cmD base FB pB (mdF s.pb s.ib))) 1 (cmRow base 60 (.slice (some ⟨bd, 0, none⟩) 2 cdd) 2 [.pointer va, .pointer vb]) k).fp := fun k hk => by
   by_cases e5 : k = 1
   · subst e5; rw [upC_at] at hk; have := hv4b _ (by simpa [cmRow] using hk); omega
   · rw [upC_ne _ _ _ e5] at hk; exact nx9 k hk
 have f5 : Go.Proofs.YtjhocjjecfdphaaGreatDoor.Fr [w.heap.size + 2] w4 (w4.setCell ⟨w.heap.size + 2, 0, none⟩ (.slice (some ⟨bd, 0, none⟩) 2 cdd)) := (Fr.refl _ w4).setCell List.mem_cons_self 0 _
 have S5 := S4.frame f5 (fun q hq k => by rw [List.mem_singleton.1 hq]; exact nx5 k)
 have HZ5 := hid (show (w4.setCell ⟨w.heap.size + 2, 0, none⟩ (.slice (some ⟨bd, 0, none⟩) 2 cdd)).heap.size = w4.heap.size by simp)
 have HS5 := hid S5
 have HF5 := hid f5
 have HN5 := hid nx5
 have HR5 := hid rX5
 clear S4 S2 S5 f5 nx5 nx9 rX5
 go_wp2_with (first | refine wpList_bs rfl 57 3 #[(0, .const (.pointer none)), (1, .const (.pointer none)), (2, .const (.pointer none))] rfl #[(0, .pointer none), (1, .pointer none), (2, .pointer none)] (by simp [Act.eval]) _ (bs_pf _) ?_; refine Hid.out ?_)
 refine hid ?_
 generalize w4.setCell ⟨w.heap.size + 2, 0, none⟩ (.slice (some ⟨bd, 0, none⟩) 2 cdd) = w5 at *
 have z5 := HF5.out.size
 refine wpList_append_own_at _ rfl (.tmp 33) (.tmp 34) 57 rfl base 69 i6 zz6 1 8 Tryz.underlying57 hi6 hz6 hs6 hy6 hc6 (by decide) (.slice none 0 0) 0 [] rfl (hown1 _) ⟨w4.heap.size, 0, none⟩ 3 3 [.pointer none, .pointer none, .pointer none] rfl rfl (by
   intro j u hu
   rw [Addr.add_mid, Nat.zero_add, ← HZ5.out, cell_of_row _ _ _ _ _ _ (hnew w5 _)]
   simpa using hu) (by intro u hu; simp at hu; subst hu; rfl) (by simp [maxLen]) (by omega) (by simp; omega) ?_
 intro v6 w6 hR6 hg6 _ hv6
 have b6 : Below w5.heap.size w5 w6 := ((Below.refl _ w5).alloc (Nat.le_refl _) _).trans (grown_keeps hg6 (fun k hk => by cases hk) (by simp))
 have rX6 := hbel b6 HR5.out (hlt_ HR5.out)
 have hv6b : ∀ k, v6.ownBlock = some k → w5.heap.size < k := fun k e => by
   rcases hv6 with q | q
   · rw [q] at e; cases e
   · rw [q] at e; cases e; simp
 obtain ⟨bf, cff, rfl, -⟩ := row_at hR6 (by omega)
 have S6 := HS5.out.new 2 b6 (c := cmRow base 69 (.slice (some ⟨bf, 0, none⟩) 3 cff) 3 [.pointer none, .pointer none, .pointer none]) (fun k hk => by have := hv6b k (by simpa [cmRow] using hk); omega) (cmRow_ok hR6)
 have fz6 : w6.frozen? ⟨w.heap.size + 2, 1, none⟩ = false := frozen_of_row _ _ _ _ _ rX6
 have cX6 : w6.cell? ⟨w.heap.size + 2, 1, none⟩ = some (.slice none 0 0) := by rw [cell_of_row _ _ _ _ _ _ rX6]; rfl
 have nx6 : ∀ k, w.heap.size + 2 ∉ (upC (upC (upC (upC (upC (compX base m P0 (bgA s)) 3 (cmRoom base (.slice (some ⟨w.heap.size + 1, 0, none⟩) 300 300) z300)) 7 (cmD base FA pA (mdF s.pa s.ia))) 8 (cmD base FB pB (mdF s.pb s.ib))) 1 (cmRow base 60 (.slice (some ⟨bd, 0, none⟩) 2 cdd) 2 [.pointer va, .pointer vb])) 2 (cmRow base 69 (.slice (some ⟨bf, 0, none⟩) 3 cff) 3 [.pointer none, .pointer none, .pointer none]) k).fp := fun k hk => by
   by_cases e6 : k = 2
   · subst e6; rw [upC_at] at hk; have := hv6b _ (by simpa [cmRow] using hk); omega
   · rw [upC_ne _ _ _ e6] at hk; exact HN5.out k hk
 have f7 : Go.Proofs.YtjhocjjecfdphaaGreatDoor.Fr [w.heap.size + 2] w6 (w6.setCell ⟨w.heap.size + 2, 1, none⟩ (.slice (some ⟨bf, 0, none⟩) 3 cff)) := (Fr.refl _ w6).setCell List.mem_cons_self 1 _
 have rX7 : (w6.setCell ⟨w.heap.size + 2, 1, none⟩ (.slice (some ⟨bf, 0, none⟩) 3 cff)).heap[w.heap.size + 2]? = some (.cells #[.slice (some ⟨bd, 0, none⟩) 2 cdd, .slice (some ⟨bf, 0, none⟩) 3 cff, .slice (some ⟨w.heap.size + 1, 0, none⟩) 300 300] 59 (0, 0)) := heap_setCell_same _ _ _ _ _ _ rX6
 have S7 := S6.frame f7 (fun q hq k => by rw [List.mem_singleton.1 hq]; exact nx6 k)
 have z6 := b6.size
 have S8 := S7.put 0 (c := cmW (w.heap.size + 2) (.slice (some ⟨bd, 0, none⟩) 2 cdd) (.slice (some ⟨bf, 0, none⟩) 3 cff) (.slice (some ⟨w.heap.size + 1, 0, none⟩) 300 300)) (cmW_ok rX7 (by omega)) (fun k hk q hq hq2 => by
   have : q = w.heap.size + 2 := List.mem_singleton.1 hq
   subst this; exact nx6 k hq2)
 generalize hw7 : w6.setCell ⟨w.heap.size + 2, 1, none⟩ (.slice (some ⟨bf, 0, none⟩) 3 cff) = w7 at *
 have HW7 := hid hw7
 have b7 : Below w.heap.size w w7 := by
   have q1 : Below w.heap.size w w4 := ((b1.trans (b2.mono b1.size)).trans (b3.mono (by omega))).trans (b4.mono (by omega))
   have q2 : Below w.heap.size w4 w5 := HF5.out.below (fun k hk => by rw [List.mem_singleton.1 hk]; omega) (by omega)
   have q3 : Below w.heap.size w5 w6 := b6.mono (by omega)
   have q4 : Below w.heap.size w6 w7 := f7.below (fun k hk => by rw [List.mem_singleton.1 hk]; omega) (by omega)
   exact (q1.trans q2).trans (q3.trans q4)
 have HEND := hid (show ∃ (P : PL) (rm : List Int), Ending.returned (.tuple #[.pointer (some ⟨w.heap.size + 2, 0, none⟩), .bool true]) = Ending.returned (.tuple #[.pointer (some ⟨P.pw, 0, none⟩), .bool true]) ∧ P.xw = P0.xw ∧ Inv base m w7.drew P (bgA s) (bgA s) rm ∧ Below w.heap.size w w7.drew from by
   refine ⟨{ P0 with pw := w.heap.size + 2, Dv := .slice (some ⟨bd, 0, none⟩) 2 cdd, Fv := .slice (some ⟨bf, 0, none⟩) 3 cff, Rv := .slice (some ⟨w.heap.size + 1, 0, none⟩) 300 300, pd := fun i => if i = 0 then pA else pB, Fd := fun i => if i = 0 then FA else FB }, z300, rfl, rfl, ?_, b7.drew⟩
   have hI : Inv base m w7 { P0 with pw := w.heap.size + 2, Dv := .slice (some ⟨bd, 0, none⟩) 2 cdd, Fv := .slice (some ⟨bf, 0, none⟩) 3 cff, Rv := .slice (some ⟨w.heap.size + 1, 0, none⟩) 300 300, pd := fun i => if i = 0 then pA else pB, Fd := fun i => if i = 0 then FA else FB } (bgA s) (bgA s) z300 := by
     refine ⟨?_, hG.below b7 (by have := hG.1; omega), hb0, by simp [z300], bg_good s, bg_good s⟩
     have e : comp base m { P0 with pw := w.heap.size + 2, Dv := .slice (some ⟨bd, 0, none⟩) 2 cdd, Fv := .slice (some ⟨bf, 0, none⟩) 3 cff, Rv := .slice (some ⟨w.heap.size + 1, 0, none⟩) 300 300, pd := fun i => if i = 0 then pA else pB, Fd := fun i => if i = 0 then FA else FB } (bgA s) (bgA s) z300 = upC (upC (upC (upC (upC (upC (compX base m P0 (bgA s)) 3 (cmRoom base (.slice (some ⟨w.heap.size + 1, 0, none⟩) 300 300) z300)) 7 (cmD base FA pA (mdF s.pa s.ia))) 8 (cmD base FB pB (mdF s.pb s.ib))) 1 (cmRow base 60 (.slice (some ⟨bd, 0, none⟩) 2 cdd) 2 [.pointer va, .pointer vb])) 2 (cmRow base 69 (.slice (some ⟨bf, 0, none⟩) 3 cff) 3 [.pointer none, .pointer none, .pointer none])) 0 (cmW (w.heap.size + 2) (.slice (some ⟨bd, 0, none⟩) 2 cdd) (.slice (some ⟨bf, 0, none⟩) 3 cff) (.slice (some ⟨w.heap.size + 1, 0, none⟩) 300 300)) := by
       rw [← HVA.out, ← HVB.out]
       funext k
       rcases k with _ | _ | _ | _ | _ | _ | _ | _ | _ | _ | _ | _ | _ | _ | _ | _ | _ | k
       all_goals rfl
     rw [e]; exact S8
   exact hI.below (Below.refl _ _).drew)
 have hdx : w7.ownsRow base 54 1 P0.Dx 2 [ptrD P0.px (bgA s) 0, ptrD P0.px (bgA s) 1] := by
   have := S8.here 5
   exact this
 have hxw : XW w7 P0.xw P0.Dx P0.Fx := by
   have := S8.here 4
   exact this
 obtain ⟨bx, cx, ex, -, -, -, kx, -⟩ := row_at hdx (by omega)
 have X0 := hid (show w7.drew.cell? ⟨P0.xw, 0, none⟩ = some (.slice (some ⟨bx, 0, none⟩) 2 cx) by
   show w7.cell? _ = _
   rw [cell_of_row _ _ _ _ _ _ hxw, ex]; rfl)
 have hxa : w7.cell? ⟨bx, 0, none⟩ = some (.pointer ((mdF s.pa s.ia).map fun _ => (⟨P0.px 0, 0, none⟩ : Addr))) := (kx 0 (by omega)).1
 have hxb : w7.cell? ⟨bx, 1, none⟩ = some (.pointer ((mdF s.pb s.ib).map fun _ => (⟨P0.px 1, 0, none⟩ : Addr))) := (kx 1 (by omega)).1
 generalize hua : (mdF s.pa s.ia).map (fun _ => (⟨P0.px 0, 0, none⟩ : Addr)) = ua at *
 generalize hub : (mdF s.pb s.ib).map (fun _ => (⟨P0.px 1, 0, none⟩ : Addr)) = ub at *
 have iA : va.isSome = ua.isSome := by rw [← HVA.out, ← hua]; cases mdF s.pa s.ia <;> rfl
 have iB : vb.isSome = ub.isSome := by rw [← HVB.out, ← hub]; cases mdF s.pb s.ib <;> rfl
 clear HS5 HF5 HN5 HR5 S6 S7 S8 nx6 f7 rX7 hw7 hdx hxw kx ex hua hub HVA HVB hR4 hR6 hg4 hg6 hv4 hv6 okA okB nwA nwB h lt0
 go_wp2_with fail
 rw [HW7.out]
 have two : ∀ {a u : Option Addr}, a.isSome = u.isSome → ∃ n : Bool, (a = none ∧ u = none ∧ n = true) ∨ (∃ x y, a = some x ∧ u = some y ∧ n = false) := fun {a u} e => by
   cases a <;> cases u <;> first | exact ⟨true, Or.inl ⟨rfl, rfl, rfl⟩⟩ | exact ⟨false, Or.inr ⟨_, _, rfl, rfl, rfl⟩⟩ | cases e
 obtain ⟨nA, hnA⟩ := two iA
 obtain ⟨nB, hnB⟩ := two iB
 have HNA := hid hnA
 have HNB := hid hnB
 clear hnA hnB iA iB two
 refine rgA (fun w' => w'.cell? ⟨P0.xw, 0, none⟩ = some (.slice (some ⟨bx, 0, none⟩) 2 cx) ∧ w'.cell? ⟨bx, 0, none⟩ = some (.pointer ua) ∧ w'.cell? ⟨bx, 1, none⟩ = some (.pointer ub)) ⟨X0.out, hxa, hxb⟩ (fun hq0 => ?_)
 refine tkA 0 (.pointer (some ⟨w.heap.size + 2, 0, none⟩)) rfl hq0 ?_
 go_frame
 refine tkA 1 (.pointer va) rfl hq0 ?_
 go_frame
 refine tkA 3 (.pointer (some ⟨P0.xw, 0, none⟩)) rfl hq0 ?_
 go_frame
 refine tqA 2 (.bool nA) rfl (yA (by intro w hS; (rcases HNA.out with ⟨rfl, rfl, rfl⟩ | ⟨_, _, rfl, rfl, rfl⟩ <;> go_simp))) hq0 ?_
 go_frame
 refine tkA 4 (.pointer (some ⟨P0.xw, 0, none⟩)) rfl hq0 ?_
 go_frame
 refine tkA 5 (.pointer (some ⟨P0.xw, 0, none⟩)) rfl hq0 ?_
 go_frame
 refine tqA 6 (.slice (some ⟨bx, 0, none⟩) 2 cx) rfl (yA (by intro w hS; have hc := hS.1; go_simp)) hq0 ?_
 go_frame
 refine tkA 7 (.pointer (some ⟨bx, 0, none⟩)) rfl hq0 ?_
 go_frame
 refine tqA 8 (.pointer ua) rfl (yA (by intro w hS; have hc := hS.2.1; go_simp)) hq0 ?_
 go_frame
 refine tqA 9 (.bool nA) rfl (yA (by intro w hS; (rcases HNA.out with ⟨rfl, rfl, rfl⟩ | ⟨_, _, rfl, rfl, rfl⟩ <;> go_simp))) hq0 ?_
 go_frame
 refine tqA 10 (.bool true) rfl (yA (by intro w hS; (cases nA <;> go_simp))) hq0 ?_
 go_frame
 refine tkA 11 (.bool true) rfl hq0 ?_
 go_frame
 refine tkA 12 (.pointer vb) rfl hq0 ?_
 go_frame
 refine tkA 14 (.pointer (some ⟨P0.xw, 0, none⟩)) rfl hq0 ?_
 go_frame
 refine tkA 23 (.pointer (some ⟨w.heap.size + 2, 0, none⟩)) rfl hq0 ?_
 go_frame
 refine tqA 13 (.bool nB) rfl (yA (by intro w hS; (rcases HNB.out with ⟨rfl, rfl, rfl⟩ | ⟨_, _, rfl, rfl, rfl⟩ <;> go_simp))) hq0 ?_
 go_frame
 refine tkA 15 (.pointer (some ⟨P0.xw, 0, none⟩)) rfl hq0 ?_
 go_frame
 refine tkA 16 (.pointer (some ⟨P0.xw, 0, none⟩)) rfl hq0 ?_
 go_frame
 refine tqA 17 (.slice (some ⟨bx, 0, none⟩) 2 cx) rfl (yA (by intro w hS; have hc := hS.1; go_simp)) hq0 ?_
 go_frame
 refine tkA 18 (.pointer (some ⟨bx, 1, none⟩)) rfl hq0 ?_
 go_frame
 refine tqA 19 (.pointer ub) rfl (yA (by intro w hS; have hc := hS.2.2; go_simp)) hq0 ?_
 go_frame
 refine tqA 20 (.bool nB) rfl (yA (by intro w hS; (rcases HNB.out with ⟨rfl, rfl, rfl⟩ | ⟨_, _, rfl, rfl, rfl⟩ <;> go_simp))) hq0 ?_
 go_frame
 refine tqA 21 (.bool true) rfl (yA (by intro w hS; (cases nB <;> go_simp))) hq0 ?_
 go_frame
 refine tkA 22 (.bool true) rfl hq0 ?_
 go_frame
 refine tkA 24 (.bool true) rfl hq0 ?_
 go_frame
 refine wdA ?_
 clear hq0
 go_wp2_with fail
 exact bodyPost_ret (results_tmp2 Tryz.results7 _ _ _) rfl HEND.out
end
end Go.Proofs.YtjhocjjecfdphaaGreatDoor
