import Derived.Test.YtcibcakgheegbaaE4m
import Derived.ProofKit
import Derived.OpenShut
import Derived.SizedLaws
import Derived.Deep.DeepHandedRow
import Derived.Deep.Slices
namespace Go.Proofs.Ytcibcakgheegbaa
set_option linter.unusedVariables false
set_option linter.unusedSimpArgs false
open Go.ChangeShapes Go.WideShapes Go.ChangeAt Go.RowKit

instance : Inhabited WR := ⟨dR⟩
theorem own_knob : ownKnob Try.prog.godebug = none := by kernel_rfl
theorem Try.laidOut : laidOutB Try.prog = true := by kernel_rfl
theorem cells5 : Try.prog.cellsOf 5 = 1 := by kernel_rfl
theorem cells4 : Try.prog.cellsOf 4 = 1 := by kernel_rfl
theorem cells3 : Try.prog.cellsOf 3 = 1 := by kernel_rfl
theorem cellsA4 : Try.prog.cellsOf 51 = 4 := by kernel_rfl
theorem cellsWr : Try.prog.cellsOf 53 = 5 := by kernel_rfl
theorem cellsWrs : Try.prog.cellsOf 22 = 1 := by kernel_rfl
theorem cellsBy : Try.prog.cellsOf 28 = 1 := by kernel_rfl
theorem bulk_bound {H : Type} {l : List (DataW H)} (hk : Rows.uptoSmall H l = true) : Rows.uptoBulkAll l ≤ 1048576 := of_decide_eq_true hk
theorem bulk_len {H : Type} : ∀ l : List (DataW H), l.length ≤ Rows.uptoBulkAll l := by
  intro l
  induction l with
  | nil => simp [Rows.uptoBulkAll]
  | cons x l ih =>
    have : 1 ≤ Rows.uptoBulk x := by
      cases x with
      | lit l => cases l <;> simp [Rows.uptoBulk]
      | _ => simp [Rows.uptoBulk]
    simp only [Rows.uptoBulkAll, List.length_cons]; omega
section
variable {H : Type} {enc : TypeId × Value → H} {W : World}
theorem open_a4 {fuel : Nat} {cs : List Value} {x : DataW H × List MemPlace} (h : DataW.trod enc Try.prog W 0 (fun _ => true) true fuel 51 cs = some x) : ∃ k : List Int, cs = ints .u8 k ∧ k.length = 4 ∧ Bts k := by
  cases fuel with
  | zero => simp [DataW.trod] at h
  | succ n =>
    rw [DataW.trod_step] at h
    unfold DataW.trodStep at h
    simp only [Try.underlying51, cellsA4, cells5] at h
    split at h
    · rename_i hl
      obtain ⟨xs, hm, _⟩ := Option.map_eq_some_iff.1 h
      have each : ∀ i, i < 4 → ∃ z, cs[i]? = some (.int .u8 z) ∧ 0 ≤ z ∧ z < 256 := fun i hi => by
        have := mapM_some_get hm i i (by simp [hi])
        have hxl := mapM_some_length hm
        simp at hxl
        rw [List.getElem?_eq_getElem (by omega)] at this
        obtain ⟨z, hz, _, hw⟩ := DataW.trod_int Try.underlying5 this
        have hb := bounds_u8 hw
        refine ⟨z, ?_, by omega, by omega⟩
        have e : ((cs.drop (i * 1)).take 1)[0]? = cs[i]? := by simp
        rw [← e, hz]; rfl
      refine ⟨cs.map intOf, ?_, by simp [hl], ?_⟩
      · apply List.ext_getElem?
        intro i
        by_cases hi : i < 4
        · obtain ⟨z, hz, _⟩ := each i hi
          simp [ints, hz, intOf]
        · rw [List.getElem?_eq_none (by omega), List.getElem?_eq_none (by simp [ints]; omega)]
      · intro y hy
        obtain ⟨v, hv, rfl⟩ := List.mem_map.1 hy
        obtain ⟨i, hi, rfl⟩ := List.mem_iff_getElem.1 hv
        obtain ⟨z, hz, h1, h2⟩ := each i (by omega)
        rw [List.getElem?_eq_getElem hi] at hz
        rw [Option.some.inj hz]; exact ⟨h1, h2⟩
    · cases h
theorem open_wrs {fuel : Nat} {v : Value} {d : DataW H} {p : List MemPlace} (hf : DataW.trod enc Try.prog W 0 (fun _ => true) true fuel 22 [v] = some (d, p)) :
    ∃ (rs : List WR) (sp : Option Addr) (cap : Nat), v = .slice sp rs.length cap ∧ Wrs W W.heap.size sp rs ∧ (∀ r ∈ rs, WrOk r) ∧ rs.length ≤ Rows.uptoBulk d := by
  rcases Deep.open_slice Try.underlying22 hf with ⟨hcs, hx⟩ | ⟨a, len, cap, m, n, D, Pl, hcs, _, hl, hm, hmm, hx, hrow⟩
  · simp at hcs
    subst hcs
    exact ⟨[], none, 0, rfl, ⟨0, 0, fun h => by simp at h, fun i hi => by simp at hi⟩, fun k hk => by simp at hk, by simp⟩
  · simp at hcs
    subst hcs
    simp only [Prod.mk.injEq] at hx
    obtain ⟨rfl, _⟩ := hx
    simp only [if_true] at hmm
    subst hmm
    have each : ∀ i, i < len → ∃ q : WR, (∀ j u, (encR q)[j]? = some u → W.cell? (a.add (i * 5 + j)) = some u) ∧ WrOk q := by
      intro i hi
      obtain ⟨cs', h1, h2⟩ := hrow i (by omega)
      rw [cellsWr] at h1
      obtain ⟨_, hlen, hcell⟩ := World.cells?_some h1
      obtain ⟨xs, k, hk, hxy, _, hxl, hfd⟩ := DataW.trod_struct Try.underlying53 h2
      have hxl' : xs.length = 2 := hxl
      have g0 : DataW.trod enc Try.prog W 0 (fun _ => true) true k 3 ((cs'.drop 0).take 1) = some xs[0] := by
        have := hfd 0 _ rfl
        rw [List.getElem?_eq_getElem (by omega)] at this
        change DataW.trod enc Try.prog W 0 (fun _ => true) true k 3 ((cs'.drop 0).take (Try.prog.cellsOf 3)) = _ at this
        rw [cells3] at this; exact this
      have g1 : DataW.trod enc Try.prog W 0 (fun _ => true) true k 51 ((cs'.drop 1).take 4) = some xs[1] := by
        have := hfd 1 _ rfl
        rw [List.getElem?_eq_getElem (by omega)] at this
        change DataW.trod enc Try.prog W 0 (fun _ => true) true k 51 ((cs'.drop 1).take (Try.prog.cellsOf 51)) = _ at this
        rw [cellsA4] at this; exact this
      obtain ⟨pgv, e0, _, hw⟩ := DataW.trod_int Try.underlying3 g0
      obtain ⟨fl, e1, lf, yf⟩ := open_a4 g1
      have hb := bounds_i64 hw
      have hcs : cs' = encR ⟨pgv, fl⟩ := by
        have : cs' = (cs'.drop 0).take 1 ++ (cs'.drop 1).take 4 := by
          rw [List.drop_zero, List.take_of_length_le (l := cs'.drop 1) (by simp; omega), List.take_append_drop]
        rw [this, e0, e1]; rfl
      refine ⟨⟨pgv, fl⟩, fun j u hu => ?_, lf, yf, hb.1, hb.2⟩
      rw [← hcs] at hu
      have hj := (List.getElem?_eq_some_iff.1 hu).1
      have := hcell j (by omega)
      rw [Deep.add_add] at this
      rw [this, hu]
    obtain ⟨q, hq⟩ := Deep.choose_lt (α := WR) each
    have gm : ∀ i, i < len → ((List.range len).map q).getD i dR = q i := fun i hi => by simp [hi]
    have hlen : ((List.range len).map q).length = len := by simp
    have okc : ∀ k ∈ (List.range len).map q, WrOk k := fun c hc => by
      obtain ⟨i, hi, rfl⟩ := List.mem_map.1 hc
      exact (hq i (List.mem_range.1 hi)).2
    by_cases hz : 0 < len
    · have c0 := (hq 0 hz).1 0 _ rfl
      have hsp : a.spot = none := by
        have := World.cell?_spot c0
        unfold Addr.add at this; split at this <;> simp_all
      obtain ⟨b, o, spot⟩ := a
      obtain rfl : spot = none := hsp
      have hblk : b < W.heap.size := by
        have := block_lt_of_cell c0; rwa [Addr.add_mid] at this
      refine ⟨(List.range len).map q, some ⟨b, o, none⟩, m, by rw [hlen], ⟨b, o, fun _ => ⟨hblk, hblk, rfl⟩, fun i hi j u hu => ?_⟩, okc, ?_⟩
      · rw [hlen] at hi
        rw [gm i hi] at hu
        have := (hq i hi).1 j u hu
        rw [Addr.add_mid, ← Nat.add_assoc] at this
        exact this
      · rw [hlen]
        have := bulk_len ((List.range len).map D)
        simp at this
        simp only [Rows.uptoBulk]; omega
    · refine ⟨(List.range len).map q, some a, m, by rw [hlen], ⟨0, 0, fun h => by rw [hlen] at h; omega, fun i hi => by rw [hlen] at hi; omega⟩, okc, by rw [hlen]; omega⟩
theorem open_byt {fuel : Nat} {v : Value} {d : DataW H} {p : List MemPlace} (hf : DataW.trod enc Try.prog W 0 (fun _ => true) true fuel 28 [v] = some (d, p)) :
    ∃ (zs : List Int) (sp : Option Addr) (cap : Nat), v = .slice sp zs.length cap ∧ Bts zs ∧ Src W sp cap zs ∧ (sp = none → cap = 0) ∧ zs.length ≤ Rows.uptoBulk d := by
  rcases open_ints Try.underlying28 Try.underlying5 cells5 hf with ⟨hcs, hx⟩ | ⟨a, len, cap, zs, hcs, _, hl, hm, hz, hx, hcell, hwz⟩
  · simp at hcs
    subst hcs
    exact ⟨[], none, 0, rfl, fun x hx => by simp at hx, Src.nil W, fun _ => rfl, by simp⟩
  · simp at hcs
    subst hcs
    have hzl : zs.length = cap := by simpa using hz
    have hll : (zs.take len).length = len := by rw [List.length_take]; omega
    refine ⟨zs.take len, some a, cap, by rw [hll], fun x hx => ?_, ⟨by rw [hll]; exact hl, hm, ?_⟩, (fun h => by cases h), ?_⟩
    · have := bounds_u8 (hwz x (List.mem_of_mem_take hx))
      omega
    · rw [hll]
      by_cases hL : 0 < len
      · have hc0 := hcell 0 (by omega)
        have hsp : a.spot = none := by have := World.cell?_spot hc0; unfold Addr.add at this; split at this <;> simp_all
        obtain ⟨b, o, spot⟩ := a
        obtain rfl : spot = none := hsp
        refine ⟨b, o, fun _ => by have := block_lt_of_cell hc0; rwa [Addr.add_mid] at this, fun _ => rfl, fun j hj => ?_⟩
        have := hcell j (by omega)
        rw [Addr.add_mid] at this
        rw [this]
        congr 2
        simp [List.getElem?_take, hj]
      · exact ⟨0, 0, fun h => by omega, fun h => by omega, fun j hj => by omega⟩
    · rw [hll]
      simp only [Prod.mk.injEq] at hx
      rw [hx.1]
      have := bulk_len (H := H) (lits .u8 (zs.take len))
      have h2 : (lits (H := H) .u8 (zs.take len)).length = len := by simp [lits]; omega
      simp only [Rows.uptoBulk]; omega
end
end Go.Proofs.Ytcibcakgheegbaa
