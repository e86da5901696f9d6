import Derived.Test.YtihkjfbhmlfonaaMg6
namespace Go.Proofs.Ytihkjfbhmlfonaa
set_option linter.unusedVariables false
set_option linter.unusedSimpArgs false
open Go.RowKit
attribute [local go_sem ↓] Go.wp_at_zero Go.wp_at_succ

set_option maxHeartbeats 400000 in
theorem Sync_down (w : World) (base : Nat) (P : DP) (D : DS) (h : DK w base P D) (hpw : D.power = false) :
    Calls Try.prog 38 #[.pointer (some ⟨P.p, 0, none⟩)] w fun e w' => e = .returned (.int .i64 2) ∧ w = w' := by
  have c7 := h.c7
  rw [hpw] at c7
  clear hpw h
  go_enter Try.func38, Try.ntmps38
  go_wp2
  go_ret
  exact ⟨rfl, rfl⟩
set_option maxHeartbeats 400000 in
theorem Sync_goes (w : World) (base : Nat) (P : DP) (D : DS) (h : DK w base P D) (hok : DsOk D) (hpw : D.power = true) (hac : D.armed = 1) :
    Calls Try.prog 38 #[.pointer (some ⟨P.p, 0, none⟩)] w fun e w' => e = .returned (.int .i64 2) ∧ DK w' base P D.acted ∧ Fr P.fp w w' := by
  have c7 := h.c7
  rw [hpw] at c7
  have HA := act_in w base P D h hok.armed
  have ha0 : D.actE = 2 := by unfold DS.actE; rw [if_pos hac]
  rw [ha0] at HA
  have HAA := hid HA
  clear hpw h HA ha0 hac
  go_enter Try.func38, Try.ntmps38
  go_wp2_with (go_at_call 59; refine HAA.out.mono ?_; rintro e w1 ⟨rfl, h1, f1⟩)
  go_ret
  exact ⟨rfl, h1, f1⟩
/-- The j-th sector's turn. -/
def tornTo (img : List Int) (o : OW) (f : Nat) : Nat → List Int
  | 0 => img
  | j + 1 => if f.testBit j then putAt (tornTo img o f j) (o.page * 256 + j * 64) ((o.data.drop (j * 64)).take 64) else tornTo img o f j
theorem arr_lh (w : World) (N l h : Nat) (h1 : l < h) (h2 : h ≤ 256) : (Instr.sliceAt 117 (.pointer (some ⟨N, 1, none⟩)) (some (.int .i64 (l : Nat))) (some (.int .i64 (h : Nat))) none).run Try.prog w = .ok (.slice (some ⟨N, 1 + l, none⟩) (h - l) (256 - l)) w := by
  have hl : Try.prog.arrayLen 117 = 256 := by kernel_rfl
  have hz : (sizeOf (Try.prog.elem 117)).run Try.prog w = .ok 1 w := by kernel_rfl
  rw [run_sliceAt_array_lh w 117 ⟨N, 1, none⟩ (by kernel_rfl) .i64 .i64 l h (by omega) (by omega) (by rw [hl]; omega), hz, hl]
  simp only [Result.andThen_ok, slicedAt, Int.toNat_natCast, Nat.mul_one, if_neg (show ¬ 256 = l by omega), Addr.add_mid]
theorem and1_u8 : ∀ x, x < 256 → bits .and .u8 ((x : Nat) : Int) 1 = ((x % 2 : Nat) : Int) := by decide +kernel
theorem bit_u8 (f j : Nat) (hf : f < 256) : (bits .and .u8 ((f : Int) / 2 ^ j) 1 == 1) = f.testBit j := by
  have e : ((f : Int) / 2 ^ j) = ((f / 2 ^ j : Nat) : Int) := by push_cast; rfl
  rw [e, and1_u8 _ (Nat.lt_of_le_of_lt (Nat.div_le_self _ _) hf), ← Nat.toNat_testBit]
  cases f.testBit j <;> rfl
theorem tornTo_len {img : List Int} {n : Nat} {o : OW} (f : Nat) (h : img.length = 256 * n) (ho : OwOk n o) : ∀ j, j ≤ 4 → (tornTo img o f j).length = 256 * n
  | 0, _ => h
  | j + 1, hj => by
    have ih := tornTo_len f h ho j (by omega)
    obtain ⟨h1, h2, h3⟩ := ho
    unfold tornTo
    split
    · rw [putAt_len _ _ _ (by rw [ih, List.length_take, List.length_drop, h2]; omega), ih]
    · exact ih
theorem tornTo_bts {img : List Int} {o : OW} (f : Nat) (h : Bts img) (ho : Bts o.data) : ∀ j, Bts (tornTo img o f j)
  | 0 => h
  | j + 1 => by
    have ih := tornTo_bts f h ho j
    unfold tornTo
    split
    · exact putAt_bts _ ih (fun x hx => ho x (List.mem_of_mem_drop (List.mem_of_mem_take hx)))
    · exact ih
theorem encW_part {w : World} {g : Nat} {x : OW} (h : w.rangeAt g 0 (encW x)) (hg : g < w.heap.size) (hd : x.data.length = 256) (k l cap : Nat) (hk : k + l ≤ 256) (hc : l ≤ cap) (hm : cap ≤ maxLen) : Src w (some ⟨g, 1 + k, none⟩) cap ((x.data.drop k).take l) := by
  have el : ((x.data.drop k).take l).length = l := by simp; omega
  refine ⟨by omega, hm, g, 1 + k, fun _ => hg, fun _ => rfl, fun j hj => ?_⟩
  rw [el] at hj
  have := h (1 + k + j) (.int .u8 (((x.data.drop k).take l).getD j 0)) (by
    rw [show 1 + k + j = (k + j) + 1 by omega, encW, List.getElem?_cons_succ, ints_get _ _ _ (by omega)]
    simp [List.getElem?_take, hj])
  rwa [Nat.zero_add] at this
/-- A write meets its fate. -/
def fateOf (fs : List Int) (i : Nat) : Nat := (fs.getD i 0).toNat
def crashTo (img : List Int) (ops : List OW) (fs : List Int) : Nat → List Int
  | 0 => img
  | i + 1 => if i < fs.length then tornTo (crashTo img ops fs i) (ops.getD i dW) (fateOf fs i) 4 else crashTo img ops fs i
theorem crashTo_len {img : List Int} {ops : List OW} {n : Nat} (fs : List Int) (h : img.length = 256 * n) (ho : ∀ o ∈ ops, OwOk n o) : ∀ i, i ≤ ops.length → (crashTo img ops fs i).length = 256 * n
  | 0, _ => h
  | i + 1, hi => by
    have ih := crashTo_len fs h ho i (by omega)
    unfold crashTo
    split
    · exact tornTo_len _ ih (ho _ (getD_memW ops i (by omega))) 4 (Nat.le_refl _)
    · exact ih
theorem crashTo_bts {img : List Int} {ops : List OW} {n : Nat} (fs : List Int) (h : Bts img) (ho : ∀ o ∈ ops, OwOk n o) : ∀ i, i ≤ ops.length → Bts (crashTo img ops fs i)
  | 0, _ => h
  | i + 1, hi => by
    have ih := crashTo_bts fs h ho i (by omega)
    unfold crashTo
    split
    · exact tornTo_bts _ ih (ho _ (getD_memW ops i (by omega))).2.2 4
    · exact ih
/-- A disk behind a crash. -/
def DS.crashed (D : DS) (fs : List Int) : DS := { D with img := crashTo D.img D.ops fs D.ops.length, ops := [], power := true, armed := 0, epoch := D.epoch + 1 }
end Go.Proofs.Ytihkjfbhmlfonaa
