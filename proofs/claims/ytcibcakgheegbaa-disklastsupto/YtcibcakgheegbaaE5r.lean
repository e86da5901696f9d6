import Derived.Test.YtcibcakgheegbaaE4r
import Derived.Test.YtcibcakgheegbaaE4y
namespace Go.Proofs.Ytcibcakgheegbaa
set_option linter.unusedVariables false
set_option linter.unusedSimpArgs false
open Go.ChangeShapes Go.WideShapes Go.ChangeAt Go.RowKit
section
variable {H : Type} {enc : TypeId × Value → H} {W : World}
theorem open_bools {fuel : Nat} {v : Value} {d : DataW H} {p : List MemPlace} (hf : DataW.trod enc Try.prog W 0 (fun _ => true) true fuel 34 [v] = some (d, p)) :
    ∃ (bs : List Bool) (sp : Option Addr) (cap : Nat), v = .slice sp bs.length cap ∧ Bls W W.heap.size sp bs ∧ bs.length ≤ Rows.uptoBulk d := by
  rcases Deep.open_slice Try.underlying34 hf with ⟨hcs, hx⟩ | ⟨a, len, cap, m, n, D, Pl, hcs, _, hl, hm, hmm, hx, hrow⟩
  · simp at hcs
    subst hcs
    exact ⟨[], none, 0, rfl, ⟨0, 0, fun h => by simp at h, fun i hi => by simp at hi⟩, by simp⟩
  · simp at hcs
    subst hcs
    simp only [Prod.mk.injEq] at hx
    obtain ⟨rfl, _⟩ := hx
    simp only [if_true] at hmm
    subst hmm
    have each : ∀ i, i < len → ∃ q : Bool, W.cell? (a.add (i * 1)) = some (.bool q) := by
      intro i hi
      obtain ⟨cs', h1, h2⟩ := hrow i (by omega)
      rw [cells4] at h1
      obtain ⟨_, hlen, hcell⟩ := World.cells?_some h1
      obtain ⟨bl, e1, _⟩ := DataW.trod_bool Try.underlying4 h2
      refine ⟨bl, ?_⟩
      have := hcell 0 (by omega)
      rw [Deep.add_add, Nat.add_zero] at this
      rw [this, e1]; rfl
    obtain ⟨q, hq⟩ := Deep.choose_lt (α := Bool) each
    have gm : ∀ i, i < len → ((List.range len).map q).getD i false = q i := fun i hi => by simp [hi]
    have hlen : ((List.range len).map q).length = len := by simp
    by_cases hz : 0 < len
    · have c0 := hq 0 hz
      have hsp : a.spot = none := by
        have := World.cell?_spot c0
        unfold Addr.add at this; split at this <;> simp_all
      obtain ⟨b, o, spot⟩ := a
      obtain rfl : spot = none := hsp
      have hblk : b < W.heap.size := by
        have := block_lt_of_cell c0; rwa [Addr.add_mid] at this
      refine ⟨(List.range len).map q, some ⟨b, o, none⟩, m, by rw [hlen], ⟨b, o, fun _ => ⟨hblk, hblk, rfl⟩, fun i hi => ?_⟩, ?_⟩
      · rw [hlen] at hi
        rw [gm i hi]
        have := hq i hi
        rw [Addr.add_mid, Nat.mul_one] at this
        exact this
      · rw [hlen]
        have := bulk_len ((List.range len).map D)
        simp at this
        simp only [Rows.uptoBulk]; omega
    · exact ⟨(List.range len).map q, some a, m, by rw [hlen], ⟨0, 0, fun h => by rw [hlen] at h; omega, fun i hi => by rw [hlen] at hi; omega⟩, by rw [hlen]; omega⟩
end
end Go.Proofs.Ytcibcakgheegbaa
