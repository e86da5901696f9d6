import Derived.Test.YtgbimdfgapcdnaaGreatDoorSv1
import Derived.Test.YtgbimdfgapcdnaaGreatDoorSv2
namespace Go.Proofs.YtgbimdfgapcdnaaGreatDoor
set_option linter.unusedVariables false
set_option linter.unusedSimpArgs false
open Go.RowKit
attribute [local go_sem ↓] Go.wp_at_zero Go.wp_at_succ

/-- A healer's cells. -/
def hlR (dn lk : Int) (bv : Value) : Array Value := #[.int .i64 60, .int .u32 dn, .int .i32 lk, .int .u32 0, bv, .int .i64 252, .int .u32 0, .int .i32 0, .int .u32 0, .map none]
def hlO (dn lk : Int) (bv : Value) : Obj := .cells (hlR dn lk bv) 69 (0, 0)
theorem MB.ne_row {w : World} {m n h : Nat} (hm : MB w m n) {cs : Array Value} {t : TypeId} {fr : Nat × Nat} (hh : w.heap[h]? = some (.cells cs t fr)) : m ≠ h := by
  obtain ⟨M, es, clock, hb, _⟩ := hm
  rintro rfl
  rw [hb] at hh; cases hh
theorem hl_cell {w : World} {h : Nat} {dn lk : Int} {bv : Value} (hr : w.heap[h]? = some (hlO dn lk bv)) : w.cell? ⟨h, 0, none⟩ = some (.int .i64 60) ∧ w.cell? ⟨h, 1, none⟩ = some (.int .u32 dn) ∧ w.cell? ⟨h, 2, none⟩ = some (.int .i32 lk) ∧ w.cell? ⟨h, 4, none⟩ = some bv ∧ ∀ k, w.frozen? ⟨h, k, none⟩ = false :=
  ⟨by rw [cell_of_row _ _ _ _ _ _ hr]; rfl, by rw [cell_of_row _ _ _ _ _ _ hr]; rfl, by rw [cell_of_row _ _ _ _ _ _ hr]; rfl, by rw [cell_of_row _ _ _ _ _ _ hr]; rfl, fun k => frozen_of_row _ _ _ _ _ hr⟩
theorem Keeps.setCell {g : Nat} {a b : World} (h : Keeps g a b) (o : Nat) (v : Value) : Keeps g a (b.setCell ⟨g, o, none⟩ v) :=
  ⟨h.os, h.tape, h.output, by rw [World.size_setCell]; exact h.size, fun k hk hn => (heap_setCell_other b ⟨g, o, none⟩ k v hn).trans (h.block k hk hn)⟩
set_option maxRecDepth 100000 in
set_option maxHeartbeats 1000000 in
theorem sv_fill (w : World) (h p : Nat) (dn lk : Int) (hr : w.heap[h]? = some (hlO dn lk (.map none))) (hp : w.cell? ⟨p, 0, none⟩ = some (.pointer (some ⟨h, 0, none⟩))) (hph : p ≠ h) :
    Calls Tryz.prog 58 #[.pointer (some ⟨p, 0, none⟩)] w fun e w' => e = .returned (.tuple #[]) ∧ ∃ m, w'.heap[h]? = some (hlO dn lk (.map (some m))) ∧ MB w' m 1000 ∧ Keeps h w w' := by
  obtain ⟨c0, c1, c2, c4, cf⟩ := hl_cell hr
  have HD := hid (fun w' : World => sv_diff w')
  have HR := hid hr
  have hpl : p < w.heap.size := by
    rcases Nat.lt_or_ge p w.heap.size with q | q
    · exact q
    · exfalso; unfold World.cell? at hp; rw [Array.getElem?_eq_none (by exact q)] at hp; simp at hp
  go_enter Tryz.func58, Tryz.ntmps58
  go_wp2
  refine wp_region_noPanic ?_
  refine wp_region_held_drew (S := fun w' => w'.cell? ⟨p, 0, none⟩ = some (.pointer (some ⟨h, 0, none⟩)) ∧ w'.cell? ⟨h, 0, none⟩ = some (.int .i64 60)) (by kernel_rfl) ⟨hp, c0⟩ (fun hHeld => ?_)
  refine wpAnyH_take (i := 0) (oi := { dst := some 1, op := Op.load 95 (Operand.tmp 0), type := 95, pos := "heal.go:78", after := #[], guard := none }) (v := .pointer (some ⟨h, 0, none⟩)) rfl (by kernel_rfl) (by kernel_rfl) (by kernel_rfl) (fun _ _ _ h => h) (Or.inl ⟨by rfl, by intro w hS; have hc := hS.1; go_simp⟩) hHeld ?_
  try simp only [Act.put, List.setIfInBounds_toArray, List.set_cons_zero, List.set_cons_succ]
  refine wpAnyH_take (i := 1) (oi := { dst := some 2, op := Op.load 95 (Operand.tmp 0), type := 95, pos := "heal.go:78", after := #[], guard := none }) (v := .pointer (some ⟨h, 0, none⟩)) rfl (by kernel_rfl) (by kernel_rfl) (by kernel_rfl) (fun _ _ _ h => h) (Or.inl ⟨by rfl, by intro w hS; have hc := hS.1; go_simp⟩) hHeld ?_
  try simp only [Act.put, List.setIfInBounds_toArray, List.set_cons_zero, List.set_cons_succ]
  refine wpAnyH_take (i := 2) (oi := { dst := some 3, op := Op.nilCheck (Operand.tmp 2), type := 0, pos := "heal.go:78", after := #[{ on := 1, ground := Ground.data }], guard := none }) (v := .pointer (some ⟨h, 0, none⟩)) rfl (by kernel_rfl) (by kernel_rfl) (by kernel_rfl) (fun _ _ _ h => h) (Or.inl ⟨by rfl, by intro w hS; go_simp⟩) hHeld ?_
  try simp only [Act.put, List.setIfInBounds_toArray, List.set_cons_zero, List.set_cons_succ]
  refine wpAnyH_take (i := 3) (oi := { dst := some 4, op := Op.fieldAddr 67 (Operand.tmp 3) 0, type := 0, pos := "heal.go:78", after := #[{ on := 2, ground := Ground.data }], guard := none }) (v := .pointer (some ⟨h, 0, none⟩)) rfl (by kernel_rfl) (by kernel_rfl) (by kernel_rfl) (fun _ _ _ h => h) (Or.inl ⟨by rfl, by intro w hS; go_simp⟩) hHeld ?_
  try simp only [Act.put, List.setIfInBounds_toArray, List.set_cons_zero, List.set_cons_succ]
  refine wpAnyH_take (i := 4) (oi := { dst := some 5, op := Op.load 3 (Operand.tmp 4), type := 3, pos := "heal.go:78", after := #[{ on := 3, ground := Ground.data }], guard := none }) (v := .int .i64 60) rfl (by kernel_rfl) (by kernel_rfl) (by kernel_rfl) (fun _ _ _ h => h) (Or.inl ⟨by rfl, by intro w hS; have hc := hS.2; go_simp⟩) hHeld ?_
  try simp only [Act.put, List.setIfInBounds_toArray, List.set_cons_zero, List.set_cons_succ]
  refine wpAnyH_ready (rs := [5]) (by kernel_rfl) (by simp) ?_
  refine (AllReadyH.cons (o := { dst := some 6, op := Op.call { callee := Callee.value (Operand.func 59), args := #[Operand.tmp 5], argTypes := #[3] }, type := 65, pos := "heal.go:78", after := #[{ on := 4, ground := Ground.data }], guard := none }) rfl (fun K hK => ?_) AllReadyH.nil)
  go_simp
  go_at_call 59
  refine (HD.out _).mono ?_
  rintro e w4 ⟨m, rfl, hm, hM, hB⟩
  go_wp2_with fail
  refine hK.out _ _ (⟨(hB.cell (p := ⟨p, 0, none⟩) hpl).trans hHeld.1, (hB.cell (p := ⟨h, 0, none⟩) (hlt hr)).trans hHeld.2⟩) (fun hHeld2 => ?_)
  clear hK K hHeld
  have hHeld := hHeld2
  clear hHeld2
  have hr4 : w4.heap[h]? = some (hlO dn lk (.map none)) := (hB.block h (hlt HR.out)).trans HR.out
  obtain ⟨-, -, -, e4, ef⟩ := hl_cell hr4
  try simp only [Act.put, List.setIfInBounds_toArray, List.set_cons_zero, List.set_cons_succ]
  refine wpAnyH_take (i := 6) (oi := { dst := some 7, op := Op.nilCheck (Operand.tmp 1), type := 0, pos := "heal.go:78", after := #[{ on := 0, ground := Ground.data }, { on := 0, ground := Ground.phase }, { on := 1, ground := Ground.phase }, { on := 2, ground := Ground.phase }, { on := 3, ground := Ground.phase }, { on := 4, ground := Ground.phase }, { on := 5, ground := Ground.phase }], guard := none }) (v := .pointer (some ⟨h, 0, none⟩)) rfl (by kernel_rfl) (by kernel_rfl) (by kernel_rfl) (fun _ _ _ h => h) (Or.inl ⟨by rfl, by intro w hS; go_simp⟩) hHeld ?_
  try simp only [Act.put, List.setIfInBounds_toArray, List.set_cons_zero, List.set_cons_succ]
  refine wpAnyH_take (i := 7) (oi := { dst := some 8, op := Op.fieldAddr 67 (Operand.tmp 7) 2, type := 0, pos := "heal.go:78", after := #[{ on := 6, ground := Ground.data }, { on := 0, ground := Ground.phase }, { on := 1, ground := Ground.phase }, { on := 2, ground := Ground.phase }, { on := 3, ground := Ground.phase }, { on := 4, ground := Ground.phase }, { on := 5, ground := Ground.phase }], guard := none }) (v := .pointer (some ⟨h, 4, none⟩)) rfl (by kernel_rfl) (by kernel_rfl) (by kernel_rfl) (fun _ _ _ h => h) (Or.inl ⟨by rfl, by intro w hS; go_simp⟩) hHeld ?_
  try simp only [Act.put, List.setIfInBounds_toArray, List.set_cons_zero, List.set_cons_succ]
  refine wpAnyH_ready (rs := [8]) (by kernel_rfl) (by simp) ?_
  refine (AllReadyH.cons (o := { dst := none, op := Op.store 65 (Operand.tmp 8) (Operand.tmp 6), type := 0, pos := "heal.go:78", after := #[{ on := 7, ground := Ground.data }, { on := 5, ground := Ground.data }, { on := 5, ground := Ground.chain }, { on := 0, ground := Ground.phase }, { on := 1, ground := Ground.phase }, { on := 2, ground := Ground.phase }, { on := 3, ground := Ground.phase }, { on := 4, ground := Ground.phase }, { on := 5, ground := Ground.phase }], guard := none }) rfl (fun K hK => ?_) AllReadyH.nil)
  go_simp
  refine hK.out _ _ (⟨by rw [World.cell?_setCell_other _ _ _ _ (fun e => hph (congrArg Addr.block e).symm)]; exact hHeld.1, by rw [World.cell?_setCell_other _ _ _ _ (by simp)]; exact hHeld.2⟩) (fun hHeld2 => ?_)
  clear hK K hHeld
  have hHeld := hHeld2
  clear hHeld2
  try simp only [Act.put, List.setIfInBounds_toArray, List.set_cons_zero, List.set_cons_succ]
  refine wpAnyH_done (by kernel_rfl) ?_ _
  refine NoPanic.normal ?_
  go_end0
  exact ⟨rfl, m, (heap_setCell_same _ _ _ _ _ _ hr4).trans rfl, hM.of_heap (heap_setCell_other _ _ _ _ (fun e => hM.ne_row hr4 e)), (Keeps.of_below ((⟨rfl, rfl, rfl, Nat.le_refl _, fun _ _ => rfl⟩ : Below w.heap.size w w.drew).trans hB)).setCell _ _⟩
theorem stated_0 (w : World) (b o n c : Nat) (hn : 4 ≤ n) (h0 : w.cell? ⟨b, o, none⟩ = some (.int .u8 0)) (h1 : w.cell? ⟨b, o + 1, none⟩ = some (.int .u8 0)) (h2 : w.cell? ⟨b, o + 2, none⟩ = some (.int .u8 0)) (h3 : w.cell? ⟨b, o + 3, none⟩ = some (.int .u8 0)) :
    Calls Tryz.prog 60 #[.slice (some ⟨b, o, none⟩) n c] w fun e w' => e = .returned (.int .u32 0) ∧ Below w.heap.size w w' := by
  have i0 : (4 : Int) ≤ (n : Int) := by omega
  go_enter Tryz.func60, Tryz.ntmps60
  go_wp2
  have hb0 : bits .or .u32 0 0 = 0 := by decide
  go_quiet (fail)
  go_wp2
  go_ret
  exact ⟨rfl, below_drewN (Below.refl _ _) _⟩
end Go.Proofs.YtgbimdfgapcdnaaGreatDoor
