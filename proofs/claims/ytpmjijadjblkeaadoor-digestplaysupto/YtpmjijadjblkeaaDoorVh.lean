import Derived.Test.YtpmjijadjblkeaaDoorVf
namespace Go.Proofs.YtpmjijadjblkeaaDoor
set_option linter.unusedVariables false
set_option linter.unusedSimpArgs false
open Go.RowKit
attribute [local go_sem ↓] Go.wp_at_zero Go.wp_at_succ

/-! The script of DigestPlays. -/
structure Stp where
  kind : Int
  h : Int
  zs : List Int
def dS : Stp := ⟨0, 0, []⟩
structure MS where
  kind : Int
  h : Int
  pv : Value
def dMS : MS := ⟨0, 0, .slice none 0 0⟩
def encS (m : MS) : List Value := [.int .i64 m.kind, .int .i64 m.h, m.pv]
structure SaysS (w : World) (m : MS) (s : Stp) : Prop where
  k : m.kind = s.kind
  h : m.h = s.h
  lo : -9223372036854775808 ≤ s.h
  hi : s.h ≤ 9223372036854775807
  pv : ∃ ps pc, m.pv = .slice ps s.zs.length pc ∧ Src w ps pc s.zs ∧ (ps = none → pc = 0)
structure Scr (w : World) (sp : Option Addr) (ss : List Stp) (b o : Nat) (ms : List MS) : Prop where
  pos : 0 < ss.length → b < w.heap.size ∧ sp = some ⟨b, o, none⟩
  rd : ∀ i, i < ss.length → w.rangeAt b (o + i * 3) (encS (ms.getD i dMS))
  says : ∀ i, i < ss.length → SaysS w (ms.getD i dMS) (ss.getD i dS)
/-- How many bytes the first i steps have. -/
def total (ss : List Stp) (i : Nat) : Nat := ((ss.take i).map fun s => s.zs.length).sum
theorem total_step (ss : List Stp) (i : Nat) (hi : i < ss.length) : total ss (i + 1) = total ss i + (ss.getD i dS).zs.length := by
  unfold total
  rw [List.take_succ_eq_append_getElem hi, List.map_append, List.sum_append, List.getD_eq_getElem?_getD, List.getElem?_eq_getElem hi]; simp
theorem total_mono (ss : List Stp) : ∀ (i : Nat), i ≤ ss.length → total ss i ≤ total ss ss.length := fun i hi => by
  unfold total
  rw [List.take_length]
  have h := List.take_append_drop i ss
  have : (ss.map fun s => s.zs.length).sum = ((ss.take i).map fun s => s.zs.length).sum + ((ss.drop i).map fun s => s.zs.length).sum := by
    rw [← List.sum_append, ← List.map_append, h]
  omega
/-- What a step of the script does. -/
def PlaysOk : Prop := ∀ (w : World) (base R : Nat) (hv tv : Value) (held : Int) (gs : List Nat) (TV : List Value) (ms : List (List Int)), RS w base R hv tv held gs TV ms → Glob w → GlobR w → 4 ≤ base → 0 < ms.length → ms.length ≤ 1000 → 0 ≤ held → held ≤ 4000000 →
  ∀ (B : Nat), (∀ i, i < ms.length → (ms.getD i []).length ≤ B) → B ≤ 4000000 → ∀ (kind H : Int) (ps : Option Addr) (zs : List Int) (pc : Nat), (∀ w', Below base w w' → Src w' ps pc zs) → (ps = none → pc = 0) → zs.length ≤ 1048576 → -9223372036854775808 ≤ H → H ≤ 9223372036854775807 →
  Calls Tryd.prog 20 #[.pointer (some ⟨R, 0, none⟩), .agg #[.int .i64 kind, .int .i64 H, .slice ps zs.length pc]] w (PlayPost w base R (B + 2 * zs.length))
theorem RS.start (W : World) : RS (W.alloc (.cells #[.slice none 0 0, .slice none 0 0, .int .i64 0] 43)) W.heap.size W.heap.size (.slice none 0 0) (.slice none 0 0) 0 [] [] [] :=
  ⟨Nat.le_refl _, hnew W _, OwnE.nil _ _ _, OwnE.nil _ _ _, rfl, rfl, fun i hi => by simp at hi, fun i hi => by simp at hi, fun i j _ hj => by simp at hj, fun i j _ hj => by simp at hj⟩
theorem stpSize : (Tryd.prog.info? 47).map (·.size) = some 3 := by kernel_rfl
set_option maxRecDepth 100000 in
set_option maxHeartbeats 2000000 in
theorem plays_walk (HPL : PlaysOk) (W : World) (hG : Glob W) (hR : GlobR W) (ss : List Stp) (sp : Option Addr) (cap b o : Nat) (mm : List MS) (hS : Scr W sp ss b o mm) (hlen : ss.length ≤ 1048576) (htot : total ss ss.length ≤ 1048576) :
    Calls Tryd.prog 7 #[.slice sp ss.length cap] W fun e w' => e = .returned (.bool true) ∧ Below W.heap.size W w' := by
  have hw0 := hG.1
  have i0 : (ss.length : Int) ≤ 1048576 := by omega
  have g23 := Tryd.guard23
  have q1 := eqD_self (wrt noneS 32) (wrt_len _ _)
  have Q1 := hid sha_nil
  have HPL := hid HPL
  have hb0 : Below W.heap.size W (W.alloc (.cells #[.slice none 0 0, .slice none 0 0, .int .i64 0] 43)) := (Below.refl _ _).alloc (Nat.le_refl _) _
  have rs0 := RS.start W
  have hG0 := hG.below hb0 hw0
  go_enter Tryd.func7, Tryd.ntmps7
  go_wp2_with fail
  generalize W.alloc (.cells #[.slice none 0 0, .slice none 0 0, .int .i64 0] 43) = wr at *
  refine (new_any _ hG0).mono ?_
  rintro e w1 ⟨rfl, rfl⟩
  have KJ := NEWJ rs0 (w0 := W) (Nat.le_refl _) hb0.size rfl (by simp) (by decide) (by decide)
  have KJ := hid KJ
  go_wp2_with fail
  refine KJ.out.mono ?_
  rintro e w2 ⟨rfl, hv2, tv2, v2, hR2, hB2⟩
  clear KJ
  simp only [List.nil_append] at hR2
  have hbW : Below W.heap.size W w2 := hb0.trans hB2
  obtain ⟨hs2, _⟩ := hR2.hs 0 (by simp)
  have hl2 := hR2.lg
  obtain ⟨bh, ch, e1, ebh, _, _, ecl⟩ := hR2.oh.pos (by simp)
  have c0 : w2.cell? ⟨W.heap.size, 0, none⟩ = some hv2 := by rw [cell_of_row _ _ _ _ _ _ hR2.rk]; rfl
  have p0 := ecl 0 (by simp)
  simp only [List.map_cons, List.map_nil, List.length_cons, List.length_nil, Nat.zero_add, List.getD_cons_zero] at e1 p0 hs2
  subst e1
  unfold ptr at p0
  have hG2 := hG.below hbW hw0
  have KS := hid (hsumT_any w2 wr.heap.size [] hs2 hG2 (by simp))
  generalize wr.heap.size = G at *
  clear hl2 ecl
  go_wp2_with fail
  refine KS.out.mono ?_
  rintro e w3 ⟨rfl, hb3⟩
  clear KS c0 p0
  rw [Q1.out]
  go_wp2_with fail
  refine (written_any noneS rfl w3).mono ?_
  rintro e w4 ⟨rfl, hb4⟩
  have hb24 : Below w2.heap.size w2 w4 := hb3.trans (hb4.mono hb3.size)
  have hbs2 : W.heap.size ≤ w2.heap.size := hbW.size
  have hR4 := hR2.below hb24
  have hbW4 : Below W.heap.size W w4 := hbW.trans (hb24.mono hbs2)
  clear hR2 hb3 hb4 hb24 hbs2 hbW hs2 hG2 rs0 hG0 hb0
  have HS := hid hS
  have HT := hid htot
  go_wp2
  go_loopw [5] (fun iv wr => ∃ (i : Nat) (hv tv : Value) (held : Int) (gs : List Nat) (TV : List Value) (ms : List (List Int)), i ≤ ss.length ∧ iv = .int .i64 i ∧ RS wr W.heap.size W.heap.size hv tv held gs TV ms ∧ Below W.heap.size W wr ∧ 0 < ms.length ∧ ms.length ≤ 1000 ∧ 0 ≤ held ∧ held ≤ 4000000 ∧ ∀ j, j < ms.length → (ms.getD j []).length ≤ 2 * total ss i) (fun iv _ => ss.length - (intOf iv).toNat)
  case atStart => exact ⟨0, _, _, 0, _, _, _, by omega, rfl, hR4, hbW4, by simp, by simp, by decide, by decide, fun j hj => by
    obtain rfl : j = 0 := by simp at hj; omega
    simp⟩
  case round =>
  clear hR4 hbW4
  obtain ⟨i, hv, tv, held, gs, TV, ms, hi, rfl, hRr, hBr, h1, h2, h3, h4, h5⟩ := hrel
  by_cases hlt : i < ss.length
  · have i1 : (i : Int) < (ss.length : Int) := by omega
    obtain ⟨hbb, rfl⟩ := HS.out.pos (by omega)
    have R1 := rng_below (HS.out.rd i hlt) hBr hbb
    obtain ⟨k1, k2, k3, k4, ps, pc, k5, k6, k7⟩ := HS.out.says i hlt
    have HTS := hid (total_step ss i hlt)
    have HTM := hid (total_mono ss (i + 1) (by omega))
    have em : encS (mm.getD i dMS) = [.int .i64 (ss.getD i dS).kind, .int .i64 (ss.getD i dS).h, .slice ps (ss.getD i dS).zs.length pc] := by unfold encS; rw [k1, k2, k5]
    rw [em] at R1
    have KP := hid (HPL.out _ W.heap.size W.heap.size hv tv held gs TV ms hRr (hG.below hBr hw0) (hR.below hBr hw0) hw0 h1 h2 h3 h4 (2 * total ss i) h5 (by have := HTS.out; have := HTM.out; have := HT.out; omega) (ss.getD i dS).kind (ss.getD i dS).h ps (ss.getD i dS).zs pc (fun w' hb => k6.below (hBr.trans hb) (Nat.le_refl _)) k7 (by have := HTS.out; have := HTM.out; have := HT.out; omega) k3 k4)
    have HBr := hid hBr
    clear em k1 k2 k5 h5
    generalize ss.getD i dS = s at *
    go_wp2_with (first
      | refine wpList_load_mid rfl 47 _ rfl b (o + i * 3) rfl [.int .i64 s.kind, .int .i64 s.h, .slice ps s.zs.length pc] _ R1 Tryd.underlying47 rfl stpSize ?_)
    refine KP.out.mono ?_
    rintro e w6 ⟨rfl, hv6, tv6, held6, gs6, TV6, ms6, hR6, hB6, n1, n2, n3, n4, n5⟩
    clear KP R1
    go_wp2
    go_roundw
    case rel => exact ⟨i + 1, hv6, tv6, held6, gs6, TV6, ms6, by omega, by go_num, hR6, HBr.out.trans hB6, n1, n2, n3, n4, fun j hj => by have := n5 j hj; have := HTS.out; omega⟩
    case measure => simp [intOf]; omega
  · obtain rfl : i = ss.length := by omega
    have i1 : ¬ (ss.length : Int) < (ss.length : Int) := by omega
    clear hlt
    go_wp2
    go_ret
    exact ⟨rfl, hBr⟩
end Go.Proofs.YtpmjijadjblkeaaDoor
