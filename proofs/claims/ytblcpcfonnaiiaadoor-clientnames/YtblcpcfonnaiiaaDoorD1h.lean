import Derived.Test.YtblcpcfonnaiiaaDoorD1g
namespace Go.Proofs.YtblcpcfonnaiiaaDoor
set_option linter.unusedVariables false
set_option linter.unusedSimpArgs false
open Go.RowKit
attribute [local go_sem ↓] Go.wp_at_zero Go.wp_at_succ

/-- The state behind the padding. -/
def padS (st bk : List Int) (tk : Int) : List Int :=
  if tk % 64 < 56 then mixF st (lenTo (bk.set (tk % 64).toNat 128) (lenBits tk) 8) else mixF (mixF st (bk.set (tk % 64).toNat 128)) (lenTo z64 (lenBits tk) 8)
theorem padS_bd (st bk : List Int) (tk : Int) : Bd8 (padS st bk tk) := by unfold padS; split <;> exact mixF_bd _ _
theorem padS_len (st bk : List Int) (tk : Int) (h : st.length = 8) (hb : Bd8 st) : (padS st bk tk).length = 8 := by
  unfold padS; split
  · exact mixF_len _ _ h hb
  · exact mixF_len _ _ (mixF_len _ _ h hb) (mixF_bd _ _)
theorem pad_any (w : World) (g : Nat) (st bk : List Int) (tk : Int) (h : Hs w g st bk tk) (hbd : Bd8 st) (hG : Glob w) (hg : 4 ≤ g) (h0 : 0 ≤ tk) (h1 : tk ≤ 18446744073709551615) :
    Calls Tryd.prog 39 #[.pointer (some ⟨g, 0, none⟩)] w fun e w' => e = .returned (.tuple #[]) ∧ Hs w' g (padS st bk tk) z64 tk ∧ Keeps g w w' := by
  have hL := lenBits_bd tk
  obtain ⟨a, ha⟩ := Int.eq_ofNat_of_zero_le (show 0 ≤ tk % 64 by omega)
  have ea : (tk % 64).toNat = a := by omega
  unfold padS
  rw [ea]
  by_cases c : tk % 64 < 56
  · rw [if_pos c]
    exact pad_lo w g st bk tk h hbd hG hg h0 h1 a (hid ha) (by omega) (lenBits tk) (hid rfl) hL.1 hL.2 _ (hid rfl)
  · rw [if_neg c]
    exact pad_hi w g st bk tk h hbd hG hg h0 h1 a (hid ha) (by omega) (by omega) (lenBits tk) (hid rfl) hL.1 hL.2 _ (hid rfl)

theorem setRow_alloc2 (w : World) (A : Obj) (cs ds : Array Value) (t : TypeId) (fr : Nat × Nat) : ((w.alloc A).alloc (.cells cs t fr)).setRow (w.heap.size + 1) ds = (w.alloc A).alloc (.cells ds t fr) := by
  have := setRow_alloc (w.alloc A) cs ds t fr
  simpa using this
def z32 : List Int := padz [] 32
set_option maxRecDepth 100000 in
set_option maxHeartbeats 400000 in
theorem hsum_any (w : World) (g : Nat) (st bk : List Int) (tk : Int) (h : Hs w g st bk tk) (hbd : Bd8 st) (hG : Glob w) (h0 : 0 ≤ tk) (h1 : tk ≤ 18446744073709551615) :
    Calls Tryd.prog 21 #[.pointer (some ⟨g, 0, none⟩)] w fun e w' => e = .returned (.agg (ints .u8 (stBytes (padS st bk tk))).toArray) ∧ Below w.heap.size w w' := by
  have hl := hcells_len st bk tk h.2.1 h.2.2
  have ho := all_oneCell_toArray (hcells_one st bk tk)
  have hgl := hlt h.1
  have hz := zero55
  have hzl := zh_len
  have hw0 := hG.1
  have hg1 := hold (o := Obj.cells (ints .u8 z32).toArray 29) h.1
  go_enter Tryd.func21, Tryd.ntmps21
  go_wp2_with (first | refine wpList_load_row rfl 77 _ rfl _ rfl 77 _ _ _ (by exact hg1) Tryd.underlying77 rfl (by rw [Tryd.size77]; simp [hl]) ?_ | (refine wpList_store_row rfl 77 _ _ rfl (w.heap.size + 1) _ rfl rfl 77 _ (by exact heap_alloc2_new w _ _) (by rw [Tryd.size77]; simp [hl]) (by simp [hl, hzl]) ho ?_))
  rw [setRow_alloc2]
  show Calls Tryd.prog 39 _ ((w.alloc (Obj.cells (ints .u8 z32).toArray 29)).alloc (Obj.cells (hcells st bk tk).toArray 77)) _
  have d1 : Hs ((w.alloc (Obj.cells (ints .u8 z32).toArray 29)).alloc (Obj.cells (hcells st bk tk).toArray 77)) (w.heap.size + 1) st bk tk := ⟨heap_alloc2_new w _ _, h.2.1, h.2.2⟩
  have d0 : ((w.alloc (Obj.cells (ints .u8 z32).toArray 29)).alloc (Obj.cells (hcells st bk tk).toArray 77)).heap[w.heap.size]? = some (Obj.cells (ints .u8 z32).toArray 29) := heap_alloc2_old w _ _
  have hB : Below w.heap.size w ((w.alloc (Obj.cells (ints .u8 z32).toArray 29)).alloc (Obj.cells (hcells st bk tk).toArray 77)) := ((Below.refl _ _).alloc (Nat.le_refl _) _).alloc (by simp) _
  have hG1 := hG.below hB hw0
  clear ho hz hg1
  generalize (w.alloc (Obj.cells (ints .u8 z32).toArray 29)).alloc (Obj.cells (hcells st bk tk).toArray 77) = w1 at *
  refine (pad_any w1 (w.heap.size + 1) st bk tk d1 hbd hG1 (by omega) h0 h1).mono ?_
  rintro e w2 ⟨rfl, d2, k2⟩
  have f0 := k2.heap d0 (by omega)
  have hB2 : Below w.heap.size w w2 := hB.trans (k2.below_g (by omega) hB.size)
  have hpl := padS_len st bk tk h.2.1 hbd
  have hpb := padS_bd st bk tk
  clear d0 d1 k2 hB hG1
  have S1 := d2.state
  go_wp2_with (first | refine wpList_load_mid rfl 73 _ rfl (w.heap.size + 1) 0 rfl (ints .u32 (padS st bk tk)) _ S1 Tryd.underlying73 rfl (by rw [Tryd.size73, ints_len, hpl]) ?_)
  refine (stateBytes_any (padS st bk tk) hpl hpb w2).mono ?_
  rintro e w3 ⟨rfl, hb3⟩
  have f3 := hbel hb3 f0 (hlt f0)
  have hB3 : Below w.heap.size w w3 := hB2.trans (hb3.mono hB2.size)
  have hsl : (stBytes (padS st bk tk)).length = 32 := by rw [stBytes_len, hpl]
  have ho := all_oneCell_toArray (ints_one .u8 (stBytes (padS st bk tk)))
  have hz32 : z32.length = 32 := rfl
  go_wp2_with (first | refine wpList_store_row rfl 29 _ _ rfl _ _ rfl rfl 29 _ f3 (by rw [Tryd.size29, ints_size, hsl]) (by rw [ints_size, ints_size, hsl, hz32]) ho ?_)
  exact bodyPost_ret (v := .agg (ints .u8 (stBytes (padS st bk tk))).toArray) (results_cell_row Tryd.results21 _ _ w.heap.size 29 _ _ _ rfl (setRow_heap _ _ _ _ _ _ f3) Tryd.underlying29 rfl (by rw [Tryd.size29, ints_size, hsl])) rfl ⟨rfl, below_setRow hB3 (Nat.le_refl _) _⟩

end Go.Proofs.YtblcpcfonnaiiaaDoor
