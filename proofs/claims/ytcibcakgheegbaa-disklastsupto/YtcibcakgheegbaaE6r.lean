import Derived.Test.YtcibcakgheegbaaE5r
import Derived.Test.YtcibcakgheegbaaE6a
namespace Go.Proofs.Ytcibcakgheegbaa
set_option linter.unusedVariables false
set_option linter.unusedSimpArgs false
open Go.ChangeShapes Go.WideShapes Go.ChangeAt Go.RowKit
theorem bulk_mem {H : Type} {x : DataW H} : ∀ {l : List (DataW H)}, x ∈ l → Rows.uptoBulk x ≤ Rows.uptoBulkAll l := by
  intro l
  induction l with
  | nil => intro h; cases h
  | cons y l ih =>
    intro h
    simp only [Rows.uptoBulkAll]
    rcases List.mem_cons.1 h with rfl | h
    · omega
    · have := ih h; omega
section
variable {H : Type} {enc : TypeId × Value → H} {W : World}
theorem open_wrss {fuel : Nat} {v : Value} {d : DataW H} {p : List MemPlace} (hf : DataW.trod enc Try.prog W 0 (fun _ => true) true fuel 58 [v] = some (d, p)) :
    ∃ (rss : List (List WR)) (sp : Option Addr) (cap : Nat), v = .slice sp rss.length cap ∧ Wss W W.heap.size sp rss ∧ (∀ rs ∈ rss, (∀ r ∈ rs, WrOk r) ∧ rs.length ≤ Rows.uptoBulk d) ∧ rss.length ≤ Rows.uptoBulk d := by
  rcases Deep.open_slice Try.underlying58 hf with ⟨hcs, hx⟩ | ⟨a, len, cap, m, n, D, Pl, hcs, _, hl, hm, hmm, hx, hrow⟩
  · simp at hcs
    subst hcs
    exact ⟨[], none, 0, rfl, ⟨0, 0, fun h => by simp at h, fun i hi => by simp at hi⟩, fun rs h => by simp at h, by simp⟩
  · simp at hcs
    subst hcs
    simp only [Prod.mk.injEq] at hx
    obtain ⟨rfl, _⟩ := hx
    simp only [if_true] at hmm
    subst hmm
    have each : ∀ i, i < len → ∃ q : List WR, (∃ sp' cap', W.cell? (a.add (i * 1)) = some (.slice sp' q.length cap') ∧ Wrs W W.heap.size sp' q) ∧ (∀ rs, rs = q → (∀ r ∈ rs, WrOk r)) ∧ q.length ≤ Rows.uptoBulk (D i) := by
      intro i hi
      obtain ⟨cs', h1, h2⟩ := hrow i (by omega)
      rw [cellsWrs] at h1
      obtain ⟨_, hlen, hcell⟩ := World.cells?_some h1
      obtain ⟨c, rfl⟩ : ∃ c, cs' = [c] := by
        match cs', hlen with
        | [c], _ => exact ⟨c, rfl⟩
      obtain ⟨qs, sp', cap', rfl, hS, ok', hbl⟩ := open_wrs h2
      refine ⟨qs, ⟨sp', cap', ?_, hS⟩, fun rs e => by rw [e]; exact ok', hbl⟩
      have := hcell 0 (by omega)
      rw [Deep.add_add, Nat.add_zero] at this
      rw [this]; rfl
    obtain ⟨q, hq⟩ := Deep.choose_lt (α := List WR) each
    have gm : ∀ i, i < len → ((List.range len).map q).getD i [] = q i := fun i hi => by simp [hi]
    have hlen : ((List.range len).map q).length = len := by simp
    have hB1 := bulk_len ((List.range len).map D)
    simp only [List.length_map, List.length_range] at hB1
    have okc : ∀ k ∈ (List.range len).map q, (∀ rs, rs = k → (∀ r ∈ rs, WrOk r)) ∧ k.length ≤ Rows.uptoBulkAll ((List.range len).map D) := fun c hc => by
      obtain ⟨i, hi, rfl⟩ := List.mem_map.1 hc
      exact ⟨(hq i (List.mem_range.1 hi)).2.1, Nat.le_trans (hq i (List.mem_range.1 hi)).2.2 (bulk_mem (List.mem_map.2 ⟨i, hi, rfl⟩))⟩
    by_cases hz : 0 < len
    · obtain ⟨_, _, c0, _⟩ := (hq 0 hz).1
      have hsp : a.spot = none := by
        have := World.cell?_spot c0
        unfold Addr.add at this; split at this <;> simp_all
      obtain ⟨b, o, spot⟩ := a
      obtain rfl : spot = none := hsp
      have hblk : b < W.heap.size := by
        have := block_lt_of_cell c0; rwa [Addr.add_mid] at this
      refine ⟨(List.range len).map q, some ⟨b, o, none⟩, m, by rw [hlen], ⟨b, o, fun _ => ⟨hblk, rfl⟩, fun i hi => ?_⟩, fun rs h => ⟨(okc rs h).1 rs rfl, ?_⟩, ?_⟩
      · rw [hlen] at hi
        rw [gm i hi]
        obtain ⟨sp', cap', e1, e2⟩ := (hq i hi).1
        rw [Addr.add_mid, Nat.mul_one] at e1
        exact ⟨sp', cap', e1, e2⟩
      · have := (okc rs h).2
        simp only [Rows.uptoBulk]; omega
      · rw [hlen]
        simp only [Rows.uptoBulk]; omega
    · refine ⟨(List.range len).map q, some a, m, by rw [hlen], ⟨0, 0, fun h => by rw [hlen] at h; omega, fun i hi => by rw [hlen] at hi; omega⟩, fun rs h => ?_, by rw [hlen]; omega⟩
      obtain ⟨i, hi, _⟩ := List.mem_map.1 h
      have := List.mem_range.1 hi
      omega
theorem open_bb {fuel : Nat} {v : Value} {d : DataW H} {p : List MemPlace} (hf : DataW.trod enc Try.prog W 0 (fun _ => true) true fuel 59 [v] = some (d, p)) :
    ∃ (rss : List (List Int)) (sp : Option Addr) (cap : Nat), v = .slice sp rss.length cap ∧ Fss W W.heap.size sp rss ∧ (∀ rs ∈ rss, Bts rs ∧ rs.length ≤ Rows.uptoBulk d) ∧ rss.length ≤ Rows.uptoBulk d := by
  rcases Deep.open_slice Try.underlying59 hf with ⟨hcs, hx⟩ | ⟨a, len, cap, m, n, D, Pl, hcs, _, hl, hm, hmm, hx, hrow⟩
  · simp at hcs
    subst hcs
    exact ⟨[], none, 0, rfl, ⟨0, 0, fun h => by simp at h, fun i hi => by simp at hi⟩, fun rs h => by simp at h, by simp⟩
  · simp at hcs
    subst hcs
    simp only [Prod.mk.injEq] at hx
    obtain ⟨rfl, _⟩ := hx
    simp only [if_true] at hmm
    subst hmm
    have each : ∀ i, i < len → ∃ q : List Int, (∃ sp' cap', W.cell? (a.add (i * 1)) = some (.slice sp' q.length cap') ∧ (Src W sp' cap' q ∧ (0 < q.length → ∀ a, sp' = some a → a.block < W.heap.size))) ∧ (∀ rs, rs = q → Bts rs) ∧ q.length ≤ Rows.uptoBulk (D i) := by
      intro i hi
      obtain ⟨cs', h1, h2⟩ := hrow i (by omega)
      rw [cellsBy] at h1
      obtain ⟨_, hlen, hcell⟩ := World.cells?_some h1
      obtain ⟨c, rfl⟩ : ∃ c, cs' = [c] := by
        match cs', hlen with
        | [c], _ => exact ⟨c, rfl⟩
      obtain ⟨qs, sp', cap', rfl, ok', hS, hn, hbl⟩ := open_byt h2
      refine ⟨qs, ⟨sp', cap', ?_, hS, (fun hp a ha => by obtain ⟨_, _, b, o, h3, h4, _⟩ := hS; rw [h4 hp] at ha; cases ha; exact h3 hp)⟩, fun rs e => by rw [e]; exact ok', hbl⟩
      have := hcell 0 (by omega)
      rw [Deep.add_add, Nat.add_zero] at this
      rw [this]; rfl
    obtain ⟨q, hq⟩ := Deep.choose_lt (α := List Int) each
    have gm : ∀ i, i < len → ((List.range len).map q).getD i [] = q i := fun i hi => by simp [hi]
    have hlen : ((List.range len).map q).length = len := by simp
    have hB1 := bulk_len ((List.range len).map D)
    simp only [List.length_map, List.length_range] at hB1
    have okc : ∀ k ∈ (List.range len).map q, (∀ rs, rs = k → Bts rs) ∧ k.length ≤ Rows.uptoBulkAll ((List.range len).map D) := fun c hc => by
      obtain ⟨i, hi, rfl⟩ := List.mem_map.1 hc
      exact ⟨(hq i (List.mem_range.1 hi)).2.1, Nat.le_trans (hq i (List.mem_range.1 hi)).2.2 (bulk_mem (List.mem_map.2 ⟨i, hi, rfl⟩))⟩
    by_cases hz : 0 < len
    · obtain ⟨_, _, c0, _⟩ := (hq 0 hz).1
      have hsp : a.spot = none := by
        have := World.cell?_spot c0
        unfold Addr.add at this; split at this <;> simp_all
      obtain ⟨b, o, spot⟩ := a
      obtain rfl : spot = none := hsp
      have hblk : b < W.heap.size := by
        have := block_lt_of_cell c0; rwa [Addr.add_mid] at this
      refine ⟨(List.range len).map q, some ⟨b, o, none⟩, m, by rw [hlen], ⟨b, o, fun _ => ⟨hblk, rfl⟩, fun i hi => ?_⟩, fun rs h => ⟨(okc rs h).1 rs rfl, ?_⟩, ?_⟩
      · rw [hlen] at hi
        rw [gm i hi]
        obtain ⟨sp', cap', e1, e2⟩ := (hq i hi).1
        rw [Addr.add_mid, Nat.mul_one] at e1
        exact ⟨sp', cap', e1, e2⟩
      · have := (okc rs h).2
        simp only [Rows.uptoBulk]; omega
      · rw [hlen]
        simp only [Rows.uptoBulk]; omega
    · refine ⟨(List.range len).map q, some a, m, by rw [hlen], ⟨0, 0, fun h => by rw [hlen] at h; omega, fun i hi => by rw [hlen] at hi; omega⟩, fun rs h => ?_, by rw [hlen]; omega⟩
      obtain ⟨i, hi, _⟩ := List.mem_map.1 h
      have := List.mem_range.1 hi
      omega
end
end Go.Proofs.Ytcibcakgheegbaa
