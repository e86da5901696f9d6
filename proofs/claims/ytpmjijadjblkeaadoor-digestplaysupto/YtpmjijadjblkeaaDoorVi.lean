import Derived.Test.YtpmjijadjblkeaaDoorVh
import Derived.Test.YtpmjijadjblkeaaDoorTu
namespace Go.Proofs.YtpmjijadjblkeaaDoor
set_option linter.unusedVariables false
set_option linter.unusedSimpArgs false
open Go.ChangeShapes Go.WideShapes Go.ChangeAt Go.RowKit

theorem cells3' : Tryd.prog.cellsOf 3 = 1 := by kernel_rfl
theorem cells26' : Tryd.prog.cellsOf 26 = 1 := by kernel_rfl
theorem cells47 : Tryd.prog.cellsOf 47 = 3 := by kernel_rfl
theorem open_bytesF {H : Type} {enc : TypeId × Value → H} {W : World} {fuel : Nat} {v : Value} {d : DataW H} {p : List MemPlace} (h0 : 0 < W.heap.size) (hf : DataW.trod enc Tryd.prog W 0 (fun _ => true) true fuel 26 [v] = some (d, p)) :
    ∃ (zs : List Int) (sp : Option Addr) (cap : Nat), v = .slice sp zs.length cap ∧ Src W sp cap zs ∧ (sp = none → cap = 0) ∧ zs.length + 1 ≤ Rows.uptoBulk d := by
  rcases open_ints Tryd.underlying26 Tryd.underlying5 cells5 hf with ⟨hcs, hx⟩ | ⟨a, len, cap, zs, hcs, _, hl, hm, hz, hx, hcell, hwz⟩
  · simp at hcs
    subst hcs
    refine ⟨[], none, 0, rfl, Src.nil h0, fun _ => rfl, ?_⟩
    simp only [Prod.mk.injEq] at hx; rw [hx.1]; simp [Rows.uptoBulk]
  · simp at hcs
    subst hcs
    have hzl : zs.length = cap := by simpa using hz
    have hll : (zs.take len).length = len := by rw [List.length_take]; omega
    refine ⟨zs.take len, some a, cap, by rw [hll], ⟨by rw [hll]; exact hl, hm, ?_⟩, (fun h => by cases h), ?_⟩
    · rw [hll]
      by_cases hL : 0 < len
      · have hc0 := hcell 0 (by omega)
        have hsp : a.spot = none := by have := World.cell?_spot hc0; unfold Addr.add at this; split at this <;> simp_all
        obtain ⟨b, o, spot⟩ := a
        obtain rfl : spot = none := hsp
        refine ⟨b, o, by have := block_lt_of_cell hc0; rwa [Addr.add_mid] at this, fun _ => rfl, fun j hj => ?_⟩
        have := hcell j (by omega)
        rw [Addr.add_mid] at this
        rw [this]
        congr 2
        simp [List.getElem?_take, hj]
      · exact ⟨0, 0, h0, fun h => by omega, fun j hj => by omega⟩
    · simp only [Prod.mk.injEq] at hx
      rw [hx.1]
      simp only [Rows.uptoBulk, bulk_lits]
      omega
theorem bulk_sum {H : Type} (f : Nat → Nat) (D : Nat → DataW H) : ∀ (l : List Nat), (∀ i ∈ l, f i + 1 ≤ Rows.uptoBulk (D i)) → (l.map f).sum + l.length ≤ Rows.uptoBulkAll (l.map D)
  | [], _ => by simp
  | i :: l, h => by
    have h1 := h i (by simp)
    have h2 := bulk_sum f D l (fun j hj => h j (by simp [hj]))
    simp only [List.map_cons, List.sum_cons, List.length_cons, Rows.uptoBulkAll]
    omega
theorem bulk_mem {H : Type} : ∀ (l : List (DataW H)) (d : DataW H), d ∈ l → Rows.uptoBulk d ≤ Rows.uptoBulkAll l
  | [], d, h => by simp at h
  | e :: l, d, h => by
    simp only [Rows.uptoBulkAll]
    rcases List.mem_cons.1 h with rfl | h
    · omega
    · have := bulk_mem l d h; omega
theorem int_bounds {x : Int} (h : (Lit.int .i64 x).wf = true) : -9223372036854775808 ≤ x ∧ x ≤ 9223372036854775807 := by
  simp [Lit.wf, IntKind.min, IntKind.max, IntKind.signed, IntKind.bits] at h
  omega
set_option maxHeartbeats 1000000 in
theorem open_steps {H : Type} {enc : TypeId × Value → H} {W : World} (h0 : 0 < W.heap.size) {fuel : Nat} {v : Value} {d : DataW H} {p : List MemPlace} (hf : DataW.trod enc Tryd.prog W 0 (fun _ => true) true fuel 39 [v] = some (d, p)) :
    ∃ (ss : List Stp) (sp : Option Addr) (cap b o : Nat) (mm : List MS), v = .slice sp ss.length cap ∧ Scr W sp ss b o mm ∧ total ss ss.length + ss.length ≤ Rows.uptoBulk d := by
  rcases Deep.open_slice Tryd.underlying39 hf with ⟨hcs, hx⟩ | ⟨a, len, cap, m, n, D, Pl, hcs, _, hl, hm, hmm, hx, hrow⟩
  · simp at hcs
    subst hcs
    exact ⟨[], none, 0, 0, 0, [], rfl, ⟨fun h => by simp at h, fun i hi => by simp at hi, fun i hi => by simp at hi⟩, by simp [total]⟩
  · simp at hcs
    subst hcs
    simp only [Prod.mk.injEq] at hx
    obtain ⟨rfl, _⟩ := hx
    simp only [if_true] at hmm
    subst hmm
    have each : ∀ i, i < len → ∃ q : MS × Stp, (∀ j u, (encS q.1)[j]? = some u → W.cell? (a.add (i * 3 + j)) = some u) ∧ SaysS W q.1 q.2 ∧ q.2.zs.length + 1 ≤ Rows.uptoBulk (D i) := by
      intro i hi
      obtain ⟨cs', h1, h2⟩ := hrow i (by omega)
      rw [cells47] at h1
      obtain ⟨_, hlen, hcell⟩ := World.cells?_some h1
      obtain ⟨xs, k, hk, hxy, _, hxl, hfd⟩ := DataW.trod_struct Tryd.underlying47 h2
      have hxl' : xs.length = 3 := hxl
      simp only [Prod.mk.injEq] at hxy
      have G : ∀ (j : Nat) (f : Field) (hj : j < 3), (Tryd.prog.underlying 47).bind (fun d => match d with | .struct fs => fs[j]? | _ => none) = some f → DataW.trod enc Tryd.prog W 0 (fun _ => true) true k f.type ((cs'.drop f.offset).take (Tryd.prog.cellsOf f.type)) = some (xs[j]'(by omega)) := by
        intro j f hj hf
        rw [Tryd.underlying47] at hf
        have hf' := hfd j f hf
        rw [List.getElem?_eq_getElem (by omega)] at hf'
        exact hf'
      have g0 := G 0 _ (by omega) (by rw [Tryd.underlying47]; rfl)
      have g1 := G 1 _ (by omega) (by rw [Tryd.underlying47]; rfl)
      have g2 := G 2 _ (by omega) (by rw [Tryd.underlying47]; rfl)
      change DataW.trod enc Tryd.prog W 0 (fun _ => true) true k 3 ((cs'.drop 0).take (Tryd.prog.cellsOf 3)) = _ at g0
      change DataW.trod enc Tryd.prog W 0 (fun _ => true) true k 3 ((cs'.drop 1).take (Tryd.prog.cellsOf 3)) = _ at g1
      change DataW.trod enc Tryd.prog W 0 (fun _ => true) true k 26 ((cs'.drop 2).take (Tryd.prog.cellsOf 26)) = _ at g2
      rw [cells3'] at g0 g1
      rw [cells26'] at g2
      obtain ⟨kd, e0, _, kw⟩ := DataW.trod_int Tryd.underlying3 g0
      obtain ⟨nn, e1, _, nw⟩ := DataW.trod_int Tryd.underlying3 g1
      obtain ⟨u0, u1, u2, rfl⟩ : ∃ u0 u1 u2, cs' = [u0, u1, u2] := by
        match cs', hlen with
        | [u0, u1, u2], _ => exact ⟨u0, u1, u2, rfl⟩
      simp at e0 e1 g2
      subst e0
      subst e1
      obtain ⟨zs, ps, pc, t1, t2, t3, t4⟩ := open_bytesF (d := (xs[2]).1) (p := (xs[2]).2) h0 g2
      subst t1
      obtain ⟨b1, b2⟩ := int_bounds nw
      refine ⟨(⟨kd, nn, .slice ps zs.length pc⟩, ⟨kd, nn, zs⟩), fun j u hu => ?_, ⟨rfl, rfl, b1, b2, ps, pc, rfl, t2, t3⟩, ?_⟩
      · have hj := (List.getElem?_eq_some_iff.1 hu).1
        have := hcell j (by simpa [encS] using hj)
        rw [Deep.add_add] at this
        rw [this]; exact hu
      · rw [hxy.1]
        have := bulk_mem (xs.map (·.1)) (xs[2]).1 (List.mem_map.2 ⟨_, List.getElem_mem _, rfl⟩)
        simp only [Rows.uptoBulk]
        show zs.length + 1 ≤ _
        omega
    haveI : Inhabited (MS × Stp) := ⟨(dMS, dS)⟩
    obtain ⟨q, hq⟩ := Deep.choose_lt (α := MS × Stp) each
    have gm : ∀ i, i < len → ((List.range len).map fun i => (q i).1).getD i dMS = (q i).1 := fun i hi => by simp [hi]
    have gc : ∀ i, i < len → ((List.range len).map fun i => (q i).2).getD i dS = (q i).2 := fun i hi => by simp [hi]
    have hlen : ((List.range len).map fun i => (q i).2).length = len := by simp
    have says : ∀ i, i < ((List.range len).map fun i => (q i).2).length → SaysS W (((List.range len).map fun i => (q i).1).getD i dMS) (((List.range len).map fun i => (q i).2).getD i dS) := fun i hi => by
      rw [hlen] at hi
      rw [gm i hi, gc i hi]; exact (hq i hi).2.1
    have hbk : total ((List.range len).map fun i => (q i).2) ((List.range len).map fun i => (q i).2).length + ((List.range len).map fun i => (q i).2).length ≤ Rows.uptoBulkAll ((List.range len).map D) := by
      have := bulk_sum (fun i => (q i).2.zs.length) D (List.range len) (fun i hi => (hq i (by simpa using hi)).2.2)
      unfold total
      rw [List.take_length, List.map_map, hlen]
      simpa [Function.comp_def] using this
    by_cases hz : 0 < len
    · have c0 := (hq 0 hz).1 0 (.int .i64 (q 0).1.kind) rfl
      have hsp : a.spot = none := by
        have := World.cell?_spot c0
        unfold Addr.add at this; split at this <;> simp_all
      obtain ⟨b, o, spot⟩ := a
      obtain rfl : spot = none := hsp
      have hblk : b < W.heap.size := by
        have := block_lt_of_cell c0; rwa [Addr.add_mid] at this
      refine ⟨(List.range len).map fun i => (q i).2, some ⟨b, o, none⟩, m, b, o, (List.range len).map fun i => (q i).1, by rw [hlen], ⟨fun _ => ⟨hblk, rfl⟩, fun i hi j u hu => ?_, says⟩, by simp only [Rows.uptoBulk]; omega⟩
      rw [hlen] at hi
      rw [gm i hi] at hu
      have := (hq i hi).1 j u hu
      rw [Addr.add_mid, ← Nat.add_assoc] at this
      exact this
    · exact ⟨(List.range len).map fun i => (q i).2, some a, m, 0, 0, (List.range len).map fun i => (q i).1, by rw [hlen], ⟨fun h => by rw [hlen] at h; omega, fun i hi => by rw [hlen] at hi; omega, says⟩, by simp only [Rows.uptoBulk]; omega⟩
end Go.Proofs.YtpmjijadjblkeaaDoor
