import Derived.Test.YtblcpcfonnaiiaaDoorD1j
namespace Go.Proofs.YtblcpcfonnaiiaaDoor
set_option linter.unusedVariables false
set_option linter.unusedSimpArgs false
open Go.RowKit
attribute [local go_sem ↓] Go.wp_at_zero Go.wp_at_succ

/-- Write, whatever the slice is, so long as it isn't the hasher's own memory. -/
theorem writeS_any (w : World) (g : Nat) (m zs : List Int) (sp : Option Addr) (cap : Nat) (h : HsT w g m) (hG : Glob w) (hg4 : 4 ≤ g) (hlen : m.length + zs.length ≤ 4611686018427387904)
    (hs : ∃ b o, b ≠ g ∧ (0 < zs.length → sp = some ⟨b, o, none⟩) ∧ ∀ j, j < zs.length → w.cell? ⟨b, o + j, none⟩ = some (.int .u8 (zs.getD j 0))) (hc : zs.length ≤ cap) (hm : cap ≤ maxLen) :
    Calls Tryd.prog 20 #[.pointer (some ⟨g, 0, none⟩), .slice sp zs.length cap] w fun e w' => e = .returned (.tuple #[]) ∧ HsT w' g (m ++ zs) ∧ Keeps g w w' := by
  obtain ⟨b, o, h1, h2, h3⟩ := hs
  exact write_any w g m zs b o sp cap h hG hg4 hlen h2 h1 hc hm h3

set_option maxRecDepth 100000 in
set_option maxHeartbeats 400000 in
theorem dsum_any (w : World) (zs : List Int) (sp : Option Addr) (cap : Nat) (hS : Src w sp cap zs) (hG : Glob w) (hlen : zs.length ≤ 4611686018427387904) :
    Calls Tryd.prog 10 #[.slice sp zs.length cap] w fun e w' => e = .returned (.agg (ints .u8 (sha zs)).toArray) ∧ Below w.heap.size w w' := by
  have hw0 := hG.1
  obtain ⟨hc, hm, b0, o0, hb0, hsp0, hsrc0⟩ := hS
  obtain ⟨b, o, hb, hsp, hsrc⟩ : ∃ b o, b < w.heap.size ∧ (0 < zs.length → sp = some ⟨b, o, none⟩) ∧ ∀ j, j < zs.length → w.cell? ⟨b, o + j, none⟩ = some (.int .u8 (zs.getD j 0)) := by
    by_cases hz : 0 < zs.length
    · exact ⟨b0, o0, hb0 hz, hsp0, hsrc0⟩
    · exact ⟨0, 0, by omega, fun h => absurd h hz, fun j hj => by omega⟩
  clear hsrc0 hsp0 hb0
  have hB1 : Below w.heap.size w (w.alloc (Obj.cells (ints .u8 z32).toArray 29)) := (Below.refl _ _).alloc (Nat.le_refl _) _
  have hG1 := hG.below hB1 hw0
  have d0 := hnew w (Obj.cells (ints .u8 z32).toArray 29)
  have hsz : (w.alloc (Obj.cells (ints .u8 z32).toArray 29)).heap.size = w.heap.size + 1 := by simp
  go_enter Tryd.func10, Tryd.ntmps10
  go_wp2_with fail
  show Calls Tryd.prog 19 _ (w.alloc (Obj.cells (ints .u8 z32).toArray 29)) _
  generalize w.alloc (Obj.cells (ints .u8 z32).toArray 29) = w1 at *
  refine (new_any w1 hG1).mono ?_
  rintro e w2 ⟨rfl, hw2⟩
  have hB2 : Below w.heap.size w w2 := by rw [hw2]; exact hB1.alloc (by omega) _
  have d2 : HsT w2 (w.heap.size + 1) [] := by have := hnew w1 (.cells (hcells fTab z64 0).toArray 77); rw [← hw2, hsz] at this; exact HsT.nil this
  have f2 : w2.heap[w.heap.size]? = some (Obj.cells (ints .u8 z32).toArray 29) := by rw [hw2]; exact hold d0
  have hG2 := hG.below hB2 hw0
  rw [hsz]
  clear hw2 hB1 hG1 d0 hsz
  go_wp2_with fail
  refine (writeS_any w2 (w.heap.size + 1) [] zs sp cap d2 hG2 (by omega) (by simpa using hlen) ⟨b, o, by omega, hsp, fun j hj => (hB2.cell (p := ⟨b, o + j, none⟩) hb).trans (hsrc j hj)⟩ hc hm).mono ?_
  rintro e w3 ⟨rfl, d3, k3⟩
  rw [List.nil_append] at d3
  have hB3 : Below w.heap.size w w3 := hB2.trans (k3.below_g (by omega) hB2.size)
  have f3 := k3.heap f2 (by omega)
  have hG3 := hG.below hB3 hw0
  clear d2 f2 hG2 hB2 k3
  go_wp2_with fail
  refine (hsumT_any w3 (w.heap.size + 1) zs d3 hG3 hlen).mono ?_
  rintro e w4 ⟨rfl, hb4⟩
  have f4 := hbel hb4 f3 (hlt f3)
  have hB4 : Below w.heap.size w w4 := hB3.trans (hb4.mono hB3.size)
  have hsl := sha_len zs
  have ho := all_oneCell_toArray (ints_one .u8 (sha zs))
  have hz32 : z32.length = 32 := rfl
  clear f3 hb4 d3 hG3 hB3
  go_wp2_with (first | refine wpList_store_row rfl 29 _ _ rfl _ _ rfl rfl 29 _ f4 (by rw [Tryd.size29, ints_size, hsl]) (by rw [ints_size, ints_size, hsl, hz32]) ho ?_)
  exact bodyPost_ret (v := .agg (ints .u8 (sha zs)).toArray) (results_cell_row Tryd.results10 _ _ w.heap.size 29 _ _ _ rfl (setRow_heap _ _ _ _ _ _ f4) Tryd.underlying29 rfl (by rw [Tryd.size29, ints_size, hsl])) rfl ⟨rfl, below_setRow hB4 (Nat.le_refl _) _⟩
end Go.Proofs.YtblcpcfonnaiiaaDoor
