import Derived.Test.YtbnghhgeoodphaaGreatDoorMg6
namespace Go.Proofs.YtbnghhgeoodphaaGreatDoor
set_option linter.unusedVariables false
set_option linter.unusedSimpArgs false
open Go.RowKit
attribute [local go_sem ↓] Go.wp_at_zero Go.wp_at_succ

set_option maxHeartbeats 400000 in
theorem Sync_goes (w : World) (base : Nat) (P : DP) (D : DS) (h : DK w base P D) (hok : DsOk D) (hpw : D.power = true) (hac : D.armed = 1) :
    Calls Tryz.prog 57 #[.pointer (some ⟨P.p, 0, none⟩)] w fun e w' => e = .returned (.int .i64 2) ∧ DK w' base P D.acted ∧ Fr P.fp w w' := by
  have c7 := h.c7
  rw [hpw] at c7
  have HA := act_in w base P D h hok.armed
  have ha0 : D.actE = 2 := by unfold DS.actE; rw [if_pos hac]
  rw [ha0] at HA
  have HAA := hid HA
  clear hpw h HA ha0 hac
  go_enter Tryz.func57, Tryz.ntmps57
  go_wp2_with (go_at_call 86; refine HAA.out.mono ?_; rintro e w1 ⟨rfl, h1, f1⟩)
  go_ret
  exact ⟨rfl, h1, f1⟩
/-- The j-th sector's turn. -/
def tornTo (img : List Int) (o : OW) (f : Nat) : Nat → List Int
  | 0 => img
  | j + 1 => if f.testBit j then putAt (tornTo img o f j) (o.page * 256 + j * 64) ((o.data.drop (j * 64)).take 64) else tornTo img o f j
theorem tornTo_len {img : List Int} {n : Nat} {o : OW} (f : Nat) (h : img.length = 256 * n) (ho : OwOk n o) : ∀ j, j ≤ 4 → (tornTo img o f j).length = 256 * n
  | 0, _ => h
  | j + 1, hj => by
    have ih := tornTo_len f h ho j (by omega)
    obtain ⟨h1, h2, h3⟩ := ho
    unfold tornTo
    split
    · rw [putAt_len _ _ _ (by rw [ih, List.length_take, List.length_drop, h2]; omega), ih]
    · exact ih
theorem tornTo_bts {img : List Int} {o : OW} (f : Nat) (h : Bts img) (ho : Bts o.data) : ∀ j, Bts (tornTo img o f j)
  | 0 => h
  | j + 1 => by
    have ih := tornTo_bts f h ho j
    unfold tornTo
    split
    · exact putAt_bts _ ih (fun x hx => ho x (List.mem_of_mem_drop (List.mem_of_mem_take hx)))
    · exact ih
/-- A write meets its fate. -/
def fateOf (fs : List Int) (i : Nat) : Nat := (fs.getD i 0).toNat
def crashTo (img : List Int) (ops : List OW) (fs : List Int) : Nat → List Int
  | 0 => img
  | i + 1 => if i < fs.length then tornTo (crashTo img ops fs i) (ops.getD i dW) (fateOf fs i) 4 else crashTo img ops fs i
theorem crashTo_len {img : List Int} {ops : List OW} {n : Nat} (fs : List Int) (h : img.length = 256 * n) (ho : ∀ o ∈ ops, OwOk n o) : ∀ i, i ≤ ops.length → (crashTo img ops fs i).length = 256 * n
  | 0, _ => h
  | i + 1, hi => by
    have ih := crashTo_len fs h ho i (by omega)
    unfold crashTo
    split
    · exact tornTo_len _ ih (ho _ (getD_memW ops i (by omega))) 4 (Nat.le_refl _)
    · exact ih
theorem crashTo_bts {img : List Int} {ops : List OW} {n : Nat} (fs : List Int) (h : Bts img) (ho : ∀ o ∈ ops, OwOk n o) : ∀ i, i ≤ ops.length → Bts (crashTo img ops fs i)
  | 0, _ => h
  | i + 1, hi => by
    have ih := crashTo_bts fs h ho i (by omega)
    unfold crashTo
    split
    · exact tornTo_bts _ ih (ho _ (getD_memW ops i (by omega))).2.2 4
    · exact ih
/-- A disk behind a crash. -/
def DS.crashed (D : DS) (fs : List Int) : DS := { D with img := crashTo D.img D.ops fs D.ops.length, ops := [], power := true, armed := 0, epoch := D.epoch + 1 }
end Go.Proofs.YtbnghhgeoodphaaGreatDoor
