import Derived.Test.YtblcpcfonnaiiaaDoorD1d
namespace Go.Proofs.YtblcpcfonnaiiaaDoor
set_option linter.unusedVariables false
set_option linter.unusedSimpArgs false
open Go.RowKit
attribute [local go_sem ↓] Go.wp_at_zero Go.wp_at_succ

/-- The package's two tables lie in memory as their text says. -/
def Glob (w : World) : Prop := 4 ≤ w.heap.size ∧ w.rangeAt 3 0 (ints .u32 kTab) ∧ w.rangeAt 0 0 (ints .u32 fTab)
theorem Glob.below {w w1 : World} {B : Nat} (h : Glob w) (hb : Below B w w1) (hB : 4 ≤ B) : Glob w1 :=
  ⟨Nat.le_trans h.1 hb.size, rng_below h.2.1 hb (by omega), rng_below h.2.2 hb (by omega)⟩
theorem Glob.k {w : World} (h : Glob w) : ∀ j, j < 64 → w.cell? ⟨3, j, none⟩ = some (.int .u32 (kTab[j]?.getD 0)) := fun j hj => by
  have := h.2.1 j (.int .u32 (kTab[j]?.getD 0)) (by have := ints_get .u32 kTab j (by rw [kTab_len]; exact hj); simpa using this)
  rwa [Nat.zero_add] at this

/-- A hasher's cells. -/
def hcells (st bk : List Int) (tk : Int) : List Value := ints .u32 st ++ (ints .u8 bk ++ [.int .u64 tk])
theorem hcells_len (st bk : List Int) (tk : Int) (h1 : st.length = 8) (h2 : bk.length = 64) : (hcells st bk tk).length = 73 := by simp [hcells, ints_len, h1, h2]
theorem hcells_one (st bk : List Int) (tk : Int) : ∀ v ∈ hcells st bk tk, v.oneCell' = true := fun v hv => by
  simp only [hcells, List.mem_append, List.mem_singleton] at hv
  rcases hv with hv | hv | rfl
  · exact ints_one _ _ v hv
  · exact ints_one _ _ v hv
  · rfl
/-- At block g lies a hasher. -/
def Hs (w : World) (g : Nat) (st bk : List Int) (tk : Int) : Prop := w.heap[g]? = some (.cells (hcells st bk tk).toArray 77 (0, 0)) ∧ st.length = 8 ∧ bk.length = 64
theorem Hs.state {w : World} {g : Nat} {st bk : List Int} {tk : Int} (h : Hs w g st bk tk) : w.rangeAt g 0 (ints .u32 st) := fun j v hv => by
  have hj : j < (ints .u32 st).length := (List.getElem?_eq_some_iff.1 hv).1
  rw [cell_of_row _ _ _ _ _ _ h.1]; simp only [hcells, Nat.zero_add, List.getElem?_toArray]; rw [List.getElem?_append_left hj, hv]
theorem Hs.block {w : World} {g : Nat} {st bk : List Int} {tk : Int} (h : Hs w g st bk tk) : w.rangeAt g 8 (ints .u8 bk) := fun j v hv => by
  have hj : j < (ints .u8 bk).length := (List.getElem?_eq_some_iff.1 hv).1
  have hs : (ints .u32 st).length = 8 := by rw [ints_len, h.2.1]
  rw [cell_of_row _ _ _ _ _ _ h.1]; simp only [hcells, List.getElem?_toArray]; rw [List.getElem?_append_right (by omega), hs, show 8 + j - 8 = j by omega, List.getElem?_append_left hj, hv]
theorem Hs.taken {w : World} {g : Nat} {st bk : List Int} {tk : Int} (h : Hs w g st bk tk) : w.cell? ⟨g, 72, none⟩ = some (.int .u64 tk) := by
  have hs : (ints .u32 st).length = 8 := by rw [ints_len, h.2.1]
  have hb : (ints .u8 bk).length = 64 := by rw [ints_len, h.2.2]
  rw [cell_of_row _ _ _ _ _ _ h.1]; simp only [hcells, List.getElem?_toArray]; rw [List.getElem?_append_right (by omega), hs, List.getElem?_append_right (by omega), hb]; rfl
def z64 : List Int := padz [] 64

theorem built_first : Tryd.prog.built 77 [(0, .agg (ints .u32 fTab).toArray)] = some (hcells fTab z64 0).toArray := by kernel_rfl

set_option maxRecDepth 100000 in
set_option maxHeartbeats 400000 in
theorem new_any (w : World) (hG : Glob w) :
    Calls Tryd.prog 19 #[] w fun e w' => e = .returned (.pointer (some ⟨w.heap.size, 0, none⟩)) ∧ w' = w.alloc (.cells (hcells fTab z64 0).toArray 77) := by
  go_enter Tryd.func19, Tryd.ntmps19
  go_wp2_with (first | refine wpList_load_mid rfl 73 _ rfl 0 0 rfl (ints .u32 fTab) _ hG.2.2 Tryd.underlying73 rfl (by rw [Tryd.size73, ints_len]; rfl) ?_ | (refine wpList_build rfl 77 _ rfl ?_ ?_))
  · rw [built_first]; rfl
  · rw [built_first]
    go_ret
    exact ⟨rfl, rfl⟩

set_option maxRecDepth 100000 in
set_option maxHeartbeats 400000 in
theorem filled_any (w : World) (g : Nat) (st bk : List Int) (tk : Int) (h : Hs w g st bk tk) (h0 : 0 ≤ tk) (h1 : tk ≤ 18446744073709551615) :
    Calls Tryd.prog 37 #[.pointer (some ⟨g, 0, none⟩)] w fun e w' => e = .returned (.int .i64 (tk % 64)) ∧ w' = w := by
  have hc := h.taken
  go_enter Tryd.func37, Tryd.ntmps37
  go_wp2
  go_ret
  exact ⟨rfl, rfl⟩
def z8 : List Int := padz [] 8
theorem zero55 (w : World) : (zeroValue 77).run Tryd.prog w = .ok (.agg (hcells z8 z64 0).toArray) w := by kernel_rfl
theorem zh_len : (hcells z8 z64 0).length = 73 := hcells_len _ _ _ rfl rfl
end Go.Proofs.YtblcpcfonnaiiaaDoor
