import Derived.Test.YthhicgofobklgaaR2
import Derived.ProofKit
import Derived.OpenShut
import Derived.SizedLaws
import Derived.Deep.DeepHandedRow
import Derived.Deep.Slices
import Derived.Lib.LaidTab
namespace Go.Proofs.Ythhicgofobklgaa
set_option linter.unusedVariables false
set_option linter.unusedSimpArgs false
open Go.ChangeShapes Go.WideShapes Go.ChangeAt Go.RowKit

theorem own_knob : ownKnob Try.prog.godebug = none := by kernel_rfl
theorem Try.laidOut : laidOutB Try.prog = true := by kernel_rfl
theorem cells5 : Try.prog.cellsOf 5 = 1 := by kernel_rfl
theorem cellsTn : Try.prog.cellsOf 34 = 5 := by kernel_rfl
theorem bulk_bound {H : Type} {l : List (DataW H)} (hk : Rows.uptoSmall H l = true) : Rows.uptoBulkAll l ≤ 1048576 := of_decide_eq_true hk
theorem bulk_len {H : Type} : ∀ l : List (DataW H), l.length ≤ Rows.uptoBulkAll l := by
  intro l
  induction l with
  | nil => simp [Rows.uptoBulkAll]
  | cons x l ih =>
    have : 1 ≤ Rows.uptoBulk x := by
      cases x with
      | lit l => cases l <;> simp [Rows.uptoBulk]
      | _ => simp [Rows.uptoBulk]
    simp only [Rows.uptoBulkAll, List.length_cons]; omega
section
variable {H : Type} {enc : TypeId × Value → H} {W : World}
theorem open_byt {fuel : Nat} {v : Value} {d : DataW H} {p : List MemPlace} (hf : DataW.trod enc Try.prog W 0 (fun _ => true) true fuel 24 [v] = some (d, p)) :
    ∃ (zs : List Int) (sp : Option Addr) (cap : Nat), v = .slice sp zs.length cap ∧ Byts zs ∧ Src W sp cap zs ∧ (sp = none → cap = 0) ∧ zs.length ≤ Rows.uptoBulk d := by
  rcases open_ints Try.underlying24 Try.underlying5 cells5 hf with ⟨hcs, hx⟩ | ⟨a, len, cap, zs, hcs, _, hl, hm, hz, hx, hcell, hwz⟩
  · simp at hcs
    subst hcs
    exact ⟨[], none, 0, rfl, fun x hx => by simp at hx, Src.nil W, fun _ => rfl, by simp⟩
  · simp at hcs
    subst hcs
    have hzl : zs.length = cap := by simpa using hz
    have hll : (zs.take len).length = len := by rw [List.length_take]; omega
    refine ⟨zs.take len, some a, cap, by rw [hll], fun x hx => ?_, ⟨by rw [hll]; exact hl, hm, ?_⟩, (fun h => by cases h), ?_⟩
    · have := bounds_u8 (hwz x (List.mem_of_mem_take hx))
      omega
    · rw [hll]
      by_cases hL : 0 < len
      · have hc0 := hcell 0 (by omega)
        have hsp : a.spot = none := by have := World.cell?_spot hc0; unfold Addr.add at this; split at this <;> simp_all
        obtain ⟨b, o, spot⟩ := a
        obtain rfl : spot = none := hsp
        refine ⟨b, o, fun _ => by have := block_lt_of_cell hc0; rwa [Addr.add_mid] at this, fun _ => rfl, fun j hj => ?_⟩
        have := hcell j (by omega)
        rw [Addr.add_mid] at this
        rw [this]
        congr 2
        simp [List.getElem?_take, hj]
      · exact ⟨0, 0, fun h => by omega, fun h => by omega, fun j hj => by omega⟩
    · rw [hll]
      simp only [Prod.mk.injEq] at hx
      rw [hx.1]
      have := bulk_len (H := H) (lits .u8 (zs.take len))
      have h2 : (lits (H := H) .u8 (zs.take len)).length = len := by simp [lits]; omega
      simp only [Rows.uptoBulk]; omega
theorem open_turns {fuel : Nat} {v : Value} {d : DataW H} {p : List MemPlace} (hf : DataW.trod enc Try.prog W 0 (fun _ => true) true fuel 22 [v] = some (d, p)) :
    ∃ (rs : List TR) (sp : Option Addr) (cap : Nat), v = .slice sp rs.length cap ∧ Trn W sp rs ∧ (∀ r ∈ rs, TrOk r) ∧ rs.length ≤ Rows.uptoBulk d := by
  rcases Deep.open_slice Try.underlying22 hf with ⟨hcs, hx⟩ | ⟨a, len, cap, m, n, D, Pl, hcs, _, hl, hm, hmm, hx, hrow⟩
  · simp at hcs
    subst hcs
    exact ⟨[], none, 0, rfl, ⟨0, 0, fun h => by simp at h, fun i hi => by simp at hi⟩, fun k hk => by simp at hk, by simp⟩
  · simp at hcs
    subst hcs
    simp only [Prod.mk.injEq] at hx
    obtain ⟨rfl, _⟩ := hx
    simp only [if_true] at hmm
    subst hmm
    have each : ∀ i, i < len → ∃ q : TR, (∃ tp tc, (∀ j u, [Value.int .i64 q.rise, .int .i64 q.head, .bool q.crash, .bool q.kept, .slice tp q.tail.length tc][j]? = some u → W.cell? (a.add (i * 5 + j)) = some u) ∧ Src W tp tc q.tail) ∧ TrOk q := by
      intro i hi
      obtain ⟨cs', h1, h2⟩ := hrow i (by omega)
      rw [cellsTn] at h1
      obtain ⟨_, hlen, hcell⟩ := World.cells?_some h1
      obtain ⟨xs, k, hk, hxy, _, hxl, hfd⟩ := DataW.trod_struct Try.underlying34 h2
      have hxl' : xs.length = 5 := hxl
      match cs', hlen with
      | [z0, z1, z2, z3, z4], _ =>
        have g0 : DataW.trod enc Try.prog W 0 (fun _ => true) true k 3 [z0] = some xs[0] := by
          have := hfd 0 _ rfl
          rw [List.getElem?_eq_getElem (by omega)] at this
          change DataW.trod enc Try.prog W 0 (fun _ => true) true k 3 (([z0, z1, z2, z3, z4].drop 0).take (Try.prog.cellsOf 3)) = _ at this
          rw [show Try.prog.cellsOf 3 = 1 by kernel_rfl] at this; exact this
        have g1 : DataW.trod enc Try.prog W 0 (fun _ => true) true k 3 [z1] = some xs[1] := by
          have := hfd 1 _ rfl
          rw [List.getElem?_eq_getElem (by omega)] at this
          change DataW.trod enc Try.prog W 0 (fun _ => true) true k 3 (([z0, z1, z2, z3, z4].drop 1).take (Try.prog.cellsOf 3)) = _ at this
          rw [show Try.prog.cellsOf 3 = 1 by kernel_rfl] at this; exact this
        have g2 : DataW.trod enc Try.prog W 0 (fun _ => true) true k 4 [z2] = some xs[2] := by
          have := hfd 2 _ rfl
          rw [List.getElem?_eq_getElem (by omega)] at this
          change DataW.trod enc Try.prog W 0 (fun _ => true) true k 4 (([z0, z1, z2, z3, z4].drop 2).take (Try.prog.cellsOf 4)) = _ at this
          rw [show Try.prog.cellsOf 4 = 1 by kernel_rfl] at this; exact this
        have g3 : DataW.trod enc Try.prog W 0 (fun _ => true) true k 4 [z3] = some xs[3] := by
          have := hfd 3 _ rfl
          rw [List.getElem?_eq_getElem (by omega)] at this
          change DataW.trod enc Try.prog W 0 (fun _ => true) true k 4 (([z0, z1, z2, z3, z4].drop 3).take (Try.prog.cellsOf 4)) = _ at this
          rw [show Try.prog.cellsOf 4 = 1 by kernel_rfl] at this; exact this
        have g4 : DataW.trod enc Try.prog W 0 (fun _ => true) true k 24 [z4] = some xs[4] := by
          have := hfd 4 _ rfl
          rw [List.getElem?_eq_getElem (by omega)] at this
          change DataW.trod enc Try.prog W 0 (fun _ => true) true k 24 (([z0, z1, z2, z3, z4].drop 4).take (Try.prog.cellsOf 24)) = _ at this
          rw [show Try.prog.cellsOf 24 = 1 by kernel_rfl] at this; exact this
        obtain ⟨y0, e0, _, w0⟩ := DataW.trod_int Try.underlying3 g0
        obtain ⟨y1, e1, _, w1⟩ := DataW.trod_int Try.underlying3 g1
        obtain ⟨y2, e2, _⟩ := DataW.trod_bool Try.underlying4 g2
        obtain ⟨y3, e3, _⟩ := DataW.trod_bool Try.underlying4 g3
        obtain ⟨zs, tp, tc, e4, yz, hS, _, _⟩ := open_byt (d := (xs[4]).1) (p := (xs[4]).2) g4
        simp only [List.cons.injEq, and_true] at e0 e1 e2 e3
        subst e0 e1 e2 e3 e4
        have b0 := bounds_i64 w0
        have b1 := bounds_i64 w1
        refine ⟨⟨y0, y1, y2, y3, zs⟩, ⟨tp, tc, fun j u hu => ?_, hS⟩, b0, b1, yz⟩
        have hj := (List.getElem?_eq_some_iff.1 hu).1
        have := hcell j (by simpa using hj)
        rw [Deep.add_add] at this
        rw [this]; exact hu
    obtain ⟨q, hq⟩ := Deep.choose_lt (α := TR) each
    have gm : ∀ i, i < len → ((List.range len).map q)[i]! = q i := fun i hi => by simp [hi]
    have hlen : ((List.range len).map q).length = len := by simp
    have okc : ∀ k ∈ (List.range len).map q, TrOk k := fun c hc => by
      obtain ⟨i, hi, rfl⟩ := List.mem_map.1 hc
      exact (hq i (List.mem_range.1 hi)).2
    by_cases hz : 0 < len
    · obtain ⟨tp0, tc0, hc0, _⟩ := (hq 0 hz).1
      have c0 := hc0 0 _ rfl
      have hsp : a.spot = none := by
        have := World.cell?_spot c0
        unfold Addr.add at this; split at this <;> simp_all
      obtain ⟨b, o, spot⟩ := a
      obtain rfl : spot = none := hsp
      have hblk : b < W.heap.size := by
        have := block_lt_of_cell c0; rwa [Addr.add_mid] at this
      refine ⟨(List.range len).map q, some ⟨b, o, none⟩, m, by rw [hlen], ⟨b, o, fun _ => ⟨hblk, rfl⟩, fun i hi => ?_⟩, okc, ?_⟩
      · rw [hlen] at hi
        rw [gm i hi]
        obtain ⟨tp, tc, h1, h2⟩ := (hq i hi).1
        refine ⟨tp, tc, fun j u hu => ?_, h2⟩
        have := h1 j u hu
        rw [Addr.add_mid, ← Nat.add_assoc] at this
        exact this
      · rw [hlen]
        have := bulk_len ((List.range len).map D)
        simp at this
        simp only [Rows.uptoBulk]; omega
    · refine ⟨(List.range len).map q, some a, m, by rw [hlen], ⟨0, 0, fun h => by rw [hlen] at h; omega, fun i hi => by rw [hlen] at hi; omega⟩, okc, by rw [hlen]; omega⟩
end
end Go.Proofs.Ythhicgofobklgaa
