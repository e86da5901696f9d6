import Derived.Test.YtbgjnihkiolmlaaE4g
namespace Go.Proofs.Ytbgjnihkiolmlaa
set_option linter.unusedVariables false
set_option linter.unusedSimpArgs false
open Go.RowKit
attribute [local go_sem ↓] Go.wp_at_zero Go.wp_at_succ

/-- A list with another one laid over it. -/
def putAt (img : List Int) (o : Nat) (zs : List Int) : List Int := img.take o ++ zs ++ img.drop (o + zs.length)
theorem putAt_len (img : List Int) (o : Nat) (zs : List Int) (h : o + zs.length ≤ img.length) : (putAt img o zs).length = img.length := by
  simp [putAt]; omega
theorem putAt_bts {img zs : List Int} (o : Nat) (h : Bts img) (k : Bts zs) : Bts (putAt img o zs) := fun x hx => by
  rcases List.mem_append.1 hx with h1 | h1
  · rcases List.mem_append.1 h1 with h2 | h2
    · exact h x (List.mem_of_mem_take h2)
    · exact k x h2
  · exact h x (List.mem_of_mem_drop h1)
theorem putAt_get (img : List Int) (o : Nat) (zs : List Int) (h : o + zs.length ≤ img.length) (j : Nat) : (putAt img o zs).getD j 0 = if o ≤ j ∧ j < o + zs.length then zs.getD (j - o) 0 else img.getD j 0 := by
  have ht : (img.take o).length = o := by simp; omega
  unfold putAt
  rw [List.getD_eq_getElem?_getD, List.append_assoc]
  by_cases h1 : j < o
  · rw [List.getElem?_append_left (by omega), if_neg (by omega), List.getElem?_take, if_pos h1, ← List.getD_eq_getElem?_getD]
  · rw [List.getElem?_append_right (by omega), ht]
    by_cases h2 : j < o + zs.length
    · rw [List.getElem?_append_left (by omega), if_pos (by omega), ← List.getD_eq_getElem?_getD]
    · rw [List.getElem?_append_right (by omega), if_neg (by omega), List.getElem?_drop, show o + zs.length + (j - o - zs.length) = j by omega, ← List.getD_eq_getElem?_getD]
theorem ints_putAt (img : List Int) (o : Nat) (zs : List Int) (rest : List Value) (h : o + zs.length ≤ img.length) : (ints .u8 img ++ rest).take o ++ ints .u8 zs ++ (ints .u8 img ++ rest).drop (o + (ints .u8 zs).length) = ints .u8 (putAt img o zs) ++ rest := by
  rw [ints_len, List.take_append_of_le_length (by rw [ints_len]; omega), List.drop_append_of_le_length (by rw [ints_len]; omega)]
  simp [putAt, ints, List.map_take, List.map_drop]
theorem DK.setImg {w : World} {base : Nat} {P : DP} {D : DS} (h : DK w base P D) (img' : List Int) (hl : img'.length = D.img.length) : DK (w.setRow P.g (ints .u8 img' ++ P.rest).toArray) base P { D with img := img' } := by
  have hne : ∀ i, i ≠ P.g → (w.setRow P.g (ints .u8 img' ++ P.rest).toArray).heap[i]? = w.heap[i]? := fun i hi => setRow_other w _ _ _ hi
  refine ⟨?_, setRow_heap w P.g _ _ _ _ h.im, by show img'.length ≤ _; rw [hl]; exact h.gl, h.gm, ?_, ownsMap_heap h.mp (hne _ h.gm'.symm), h.new, h.bp, h.bg, h.bm⟩
  · rw [hne _ h.pg, h.cell]
    simp [dcells, hl]
  · exact ownsRow_heap h.opn fun i e => hne i (fun q => h.go (q ▸ e))
theorem DK.hg {w : World} {base : Nat} {P : DP} {D : DS} (h : DK w base P D) : P.g ∈ P.fp := (P.mem _).2 (Or.inr (Or.inl rfl))
theorem Fr.setRow {F : List Nat} {a b : World} (h : Fr F a b) {g : Nat} (hg : g ∈ F) (cs : Array Value) : Fr F a (b.setRow g cs) :=
  ⟨h.os, h.tape, h.output, by rw [size_setRow]; exact h.size, fun k hk hn => (setRow_other b g k cs (fun e => hn (e ▸ hg))).trans (h.block k hk hn)⟩
theorem Fr.alloc {F : List Nat} {a b : World} (h : Fr F a b) (o : Obj) : Fr F a (b.alloc o) := h.tail (F' := []) ((Below.refl _ b).alloc (Nat.le_refl _) o)
theorem DK.drew {w : World} {base : Nat} {P : DP} {D : DS} (h : DK w base P D) : DK w.drew base P D := h.of_heap fun _ _ => rfl
/-- An open write reaches the disk whole. -/
def lay1 (img : List Int) (o : OW) : List Int := putAt img (o.page * 256) o.data
def layTo (img : List Int) (ops : List OW) (n : Nat) : List Int := (ops.take n).foldl lay1 img
theorem lay1_len {img : List Int} {n : Nat} {o : OW} (h : img.length = 256 * n) (ho : OwOk n o) : (lay1 img o).length = 256 * n := by
  obtain ⟨h1, h2, h3⟩ := ho
  unfold lay1
  rw [putAt_len _ _ _ (by omega), h]
theorem take_snocW (ops : List OW) (i : Nat) (hi : i < ops.length) : ops.take (i + 1) = ops.take i ++ [ops.getD i dW] := by
  rw [List.take_succ_eq_append_getElem hi, List.getD_eq_getElem?_getD, List.getElem?_eq_getElem hi]; rfl
theorem layTo_succ (img : List Int) (ops : List OW) (i : Nat) (hi : i < ops.length) : layTo img ops (i + 1) = lay1 (layTo img ops i) (ops.getD i dW) := by
  unfold layTo; rw [take_snocW ops i hi, List.foldl_append]; rfl
theorem layTo_len {img : List Int} {ops : List OW} {n : Nat} (h : img.length = 256 * n) (ho : ∀ o ∈ ops, OwOk n o) : ∀ i, i ≤ ops.length → (layTo img ops i).length = 256 * n
  | 0, _ => h
  | i + 1, hi => by rw [layTo_succ _ _ _ (by omega)]; exact lay1_len (layTo_len h ho i (by omega)) (ho _ (getD_memW ops i (by omega)))
theorem layTo_bts {img : List Int} {ops : List OW} {n : Nat} (h : Bts img) (ho : ∀ o ∈ ops, OwOk n o) : ∀ i, i ≤ ops.length → Bts (layTo img ops i)
  | 0, _ => h
  | i + 1, hi => by rw [layTo_succ _ _ _ (by omega)]; exact putAt_bts _ (layTo_bts h ho i (by omega)) (ho _ (getD_memW ops i (by omega))).2.2
theorem hlt_ {w : World} {x : Obj} {i : Nat} (hx : w.heap[i]? = some x) : i < w.heap.size := hlt hx
set_option maxRecDepth 100000 in
set_option maxHeartbeats 1000000 in
theorem Sync_loop (w : World) (base : Nat) (P : DP) (D : DS) (h : DK w base P D) (hok : DsOk D) (hpw : D.power = true) (hac : D.armed ≠ 1) (hsy : D.syncs < 4000000000000000000) :
    Calls Try.prog 41 #[.pointer (some ⟨P.p, 0, none⟩)] w fun e w' => e = .returned (.int .i64 0) ∧ DK w' base { P with ov := .slice none 0 0, M := .map [] } { D.acted with img := layTo D.img D.ops D.ops.length, ops := [], syncs := D.syncs + 1 } ∧ Fr P.fp w w' := by
  have c7 := h.c7
  rw [hpw] at c7
  have HA := act_in w base P D h hok.armed
  have ha0 : D.actE = 0 := by unfold DS.actE; rw [if_neg hac]
  rw [ha0] at HA
  have HAA := hid HA
  obtain ⟨h3, h4, hn, hop⟩ := hok.np
  obtain ⟨s1, s2, s3, s4, s5, s6⟩ := acted_same D
  have hol := hok.ops
  have sy := hok.syncs
  have sb : D.syncs + 1 ≤ 9223372036854775807 := by omega
  have sb0 : 0 ≤ D.syncs := sy.1
  have hokA := acted_ok hok
  have hgc : P.gc ≤ 9223372036854775807 := by have := h.gm; unfold maxLen at this; omega
  clear HA ha0 hac hpw h sy
  obtain ⟨p, g, m, gc, ov, rs, M⟩ := P
  simp only at *
  go_enter Try.func41, Try.ntmps41
  go_wp2_with (go_at_call 64; refine HAA.out.mono ?_; rintro e w1 ⟨rfl, h1, f1⟩; have k5 := h1.c5; obtain ⟨spo, capo, hov⟩ := ownsRow_form h1.opn; simp only at hov; rw [s2] at hov; subst hov; simp only at k5)
  clear HAA c7
  have okL := hid (fun (i : Nat) (hi : i ≤ D.ops.length) => (show DsOk { D.acted with img := layTo D.img D.ops i } from ⟨⟨D.np, h3, h4, layTo_len hn hop i hi, by rw [s2]; exact hop⟩, layTo_bts hok.bts hop i hi, by rw [s2]; exact hol, hokA.reads, hokA.writes, hokA.syncs, hokA.epoch, hokA.armed⟩))
  have HLL := hid (fun (i : Nat) (hi : i ≤ D.ops.length) => layTo_len hn hop i hi)
  have h1' : DK w1 base ⟨p, g, m, gc, .slice spo D.ops.length capo, rs, M⟩ { D.acted with img := layTo D.img D.ops 0 } := by
    show DK w1 base _ { D.acted with img := D.img }
    rw [← s1]; exact h1
  have S2 := hid s2
  have S6 := hid s6
  have HOP := hid hop
  clear s1 s2 s3 s4 s5 s6 h1 k5 hn hop
  go_loopw [21] (fun iv wr => ∃ i : Nat, i ≤ D.ops.length ∧ iv = .int .i64 i ∧ DK wr base ⟨p, g, m, gc, .slice spo D.ops.length capo, rs, M⟩ { D.acted with img := layTo D.img D.ops i } ∧ Fr (DP.mk p g m gc (.slice spo D.ops.length capo) rs M).fp w wr) (fun iv _ => D.ops.length - (intOf iv).toNat)
  case atStart => exact ⟨0, by omega, rfl, h1', f1⟩
  case round =>
    clear h1' f1
    obtain ⟨i, hi, rfl, hD, hF⟩ := hrel
    by_cases hlt : i < D.ops.length
    · have i1 : (i : Int) < (D.ops.length : Int) := by omega
      obtain ⟨go, cap, e1, e2, e3, e4, e5, rg⟩ := hD.opAt (okL.out i hi) i (by show i < D.acted.ops.length; rw [S2.out]; exact hlt)
      simp only [Value.slice.injEq] at e1
      obtain ⟨rfl, hxx, rfl⟩ := e1
      clear hxx
      simp only at rg
      rw [S2.out] at rg
      obtain ⟨o, ho⟩ : ∃ o, o = D.ops.getD i dW := ⟨_, rfl⟩
      rw [← ho] at rg
      have hoo : OwOk D.np o := by rw [ho]; exact HOP.out _ (getD_memW _ _ hlt)
      have HLS := hid (show layTo D.img D.ops (i + 1) = putAt (layTo D.img D.ops i) (o.page * 256) o.data by rw [layTo_succ _ _ _ hlt, ← ho]; rfl)
      have hll := HLL.out i hi
      clear ho
      obtain ⟨hpg, hdl, hdb⟩ := hoo
      have hel : (encW o).length = 257 := by rw [encW, List.length_cons, ints_len, hdl]
      have hio : (Try.prog.info? 91).map (·.size) = some (encW o).length := by rw [sizeW, hel]
      obtain ⟨Z0, hZ0⟩ : ∃ Z, Z = zW 0 := ⟨_, rfl⟩
      have HZ0 := hid hZ0
      have g1 := hid (hnew wr (.cells Z0.toArray 91))
      have K1 := hid (show (Try.prog.info? 91).map (·.size) = some (encW o).toArray.size by rw [sizeW, List.size_toArray, hel])
      have K2 := hid (show Z0.toArray.size = (encW o).toArray.size by rw [hZ0, List.size_toArray, List.size_toArray, zW_len, hel])
      have oo := hid (all_oneCell_toArray (encW_one o))
      have hA := (hD.below ((Below.refl _ wr).alloc (Nat.le_refl _) (.cells (encW o).toArray 91))).drew
      have gN := hnew wr (.cells (encW o).toArray 91)
      have HBY := hid (bytesOf_in _ base _ _ hA D.np hll h4 o.page hpg)
      have HIM := hid hA.im
      have KN0 := hid (show (wr.alloc (.cells (encW o).toArray 91)).drew.cell? ⟨wr.heap.size, 0, none⟩ = some (.int .i64 o.page) by
        rw [cell_of_row _ _ _ _ _ _ (show (wr.alloc (.cells (encW o).toArray 91)).drew.heap[wr.heap.size]? = _ from gN)]; rfl)
      have KC := hid (show (ints .u8 o.data).length = Nat.min 256 256 by rw [ints_len, hdl]; decide)
      have KSRC := hid (src_news (encW_src (rng (show (wr.alloc (.cells (encW o).toArray 91)).drew.heap[wr.heap.size]? = _ from gN)) (by show wr.heap.size < (wr.heap.push _).size; simp) hdl 256 (Nat.le_refl _) (by unfold maxLen; omega)))
      have KFIT := hid (show o.page * 256 + (ints .u8 o.data).length ≤ (ints .u8 (layTo D.img D.ops i) ++ rs).length by rw [ints_len, List.length_append, ints_len, hdl, hll]; omega)
      have hgN : g < wr.heap.size := hlt_ hD.im
      have KEQ := hid (show (ints .u8 (layTo D.img D.ops i) ++ rs).take (o.page * 256) ++ ints .u8 o.data ++ (ints .u8 (layTo D.img D.ops i) ++ rs).drop (o.page * 256 + (ints .u8 o.data).length) = ints .u8 (layTo D.img D.ops (i + 1)) ++ rs by rw [ints_putAt _ _ _ _ (by omega), HLS.out])
      have hD2 := hA.setImg (layTo D.img D.ops (i + 1)) (by show _ = (layTo D.img D.ops i).length; rw [hll, HLL.out (i + 1) (by omega)])
      have hF2 := (hF.alloc (.cells (encW o).toArray 91)).drew.setRow hD.hg (ints .u8 (layTo D.img D.ops (i + 1)) ++ rs).toArray
      have KDK := hid hD2
      have KFR := hid hF2
      have KKEEP := hid (fun cs => (show ((wr.alloc (.cells (encW o).toArray 91)).drew.setRow g cs).cell? ⟨wr.heap.size, 0, none⟩ = some (.int .i64 o.page) by
        rw [World.cell?, setRow_other _ _ _ _ (show wr.heap.size ≠ g by omega)]; exact KN0.out))
      have hgc2 : gc ≤ 9223372036854775807 := hgc
      clear hD hF hA gN hD2 hF2 e2 e3 e4 e5 hll hel hZ0 HLS
      simp only at *
      go_wp2_with (first
        | refine wpList_load_mid rfl 91 _ rfl go (i * 257) rfl _ _ rg Try.underlying91 rfl hio ?_
        | refine wpList_allocW rfl rfl Z0 HZ0.out ?_
        | (refine wpList_store_row rfl 91 _ _ rfl wr.heap.size _ rfl rfl 91 _ g1.out K1.out K2.out oo.out ?_; rw [setRow_alloc]))
      clear g1 K1 K2 oo HZ0 rg
      generalize hNN : wr.heap.size = N at *
      clear hNN
      refine wp_region_noPanic ?_
      refine wp_region_held_drew (S := fun w' => w'.cell? ⟨N, 0, none⟩ = some (.int .i64 o.page)) (by kernel_rfl) KN0.out (fun hHeld => ?_)
      refine wpAnyH_take (i := 0) (oi := { dst := some 25, op := Op.move (Operand.tmp 0), type := 24, pos := "write.go:53", after := #[], guard := none }) (v := .pointer (some ⟨p, 0, none⟩)) rfl (by kernel_rfl) (by kernel_rfl) (by kernel_rfl) (fun _ _ _ h => h) (Or.inl ⟨by rfl, by intro w hS; go_simp⟩) hHeld ?_
      try simp only [Act.put, List.setIfInBounds_toArray, List.set_cons_zero, List.set_cons_succ]
      refine wpAnyH_take (i := 1) (oi := { dst := some 26, op := Op.fieldAddr 91 (Operand.tmp 5) 0, type := 0, pos := "write.go:53", after := #[], guard := none }) (v := .pointer (some ⟨N, 0, none⟩)) rfl (by kernel_rfl) (by kernel_rfl) (by kernel_rfl) (fun _ _ _ h => h) (Or.inl ⟨by rfl, by intro w hS; go_simp⟩) hHeld ?_
      try simp only [Act.put, List.setIfInBounds_toArray, List.set_cons_zero, List.set_cons_succ]
      refine wpAnyH_take (i := 4) (oi := { dst := some 29, op := Op.fieldAddr 91 (Operand.tmp 5) 1, type := 0, pos := "write.go:53", after := #[], guard := none }) (v := .pointer (some ⟨N, 1, none⟩)) rfl (by kernel_rfl) (by kernel_rfl) (by kernel_rfl) (fun _ _ _ h => h) (Or.inl ⟨by rfl, by intro w hS; go_simp⟩) hHeld ?_
      try simp only [Act.put, List.setIfInBounds_toArray, List.set_cons_zero, List.set_cons_succ]
      refine wpAnyH_take (i := 2) (oi := { dst := some 27, op := Op.load 3 (Operand.tmp 26), type := 3, pos := "write.go:53", after := #[{ on := 1, ground := Ground.data }], guard := none }) (v := .int .i64 o.page) rfl (by kernel_rfl) (by kernel_rfl) (by kernel_rfl) (fun _ _ _ h => h) (Or.inl ⟨by rfl, by intro w hS; have hc := hS; go_simp⟩) hHeld ?_
      try simp only [Act.put, List.setIfInBounds_toArray, List.set_cons_zero, List.set_cons_succ]
      refine wpAnyH_take (i := 5) (oi := { dst := some 30, op := Op.slice 89 (Operand.tmp 29) none none none, type := 22, pos := "write.go:53", after := #[{ on := 4, ground := Ground.data }], guard := none }) (v := .slice (some ⟨N, 1, none⟩) 256 256) rfl (by kernel_rfl) (by kernel_rfl) (by kernel_rfl) (fun _ _ _ h => h) (Or.inl ⟨by rfl, by intro w hS; go_simp⟩) hHeld ?_
      try simp only [Act.put, List.setIfInBounds_toArray, List.set_cons_zero, List.set_cons_succ]
      refine wpAnyH_ready (rs := [3]) (by kernel_rfl) (by simp) ?_
      refine (AllReadyH.cons (o := { dst := some 28, op := Op.call { callee := Callee.value (Operand.func 54), args := #[Operand.tmp 25, Operand.tmp 27], argTypes := #[24, 3] }, type := 22, pos := "write.go:53", after := #[{ on := 0, ground := Ground.data }, { on := 2, ground := Ground.data }], guard := none }) rfl (fun K hK => ?_) AllReadyH.nil)
      go_simp
      go_at_call 54
      refine HBY.out.mono ?_
      rintro e w4 ⟨rfl, rfl⟩
      go_wp2_with fail
      refine hK.out _ _ (hHeld) (fun hHeld2 => ?_)
      clear hK K hHeld
      have hHeld := hHeld2
      clear hHeld2
      try simp only [Act.put, List.setIfInBounds_toArray, List.set_cons_zero, List.set_cons_succ]
      refine wpAnyH_ready (rs := [6]) (by kernel_rfl) (by simp) ?_
      refine (AllReadyH.cons (o := { dst := some 31, op := Op.call { callee := Callee.builtin Builtin.copy, args := #[Operand.tmp 28, Operand.tmp 30], argTypes := #[22, 22] }, type := 3, pos := "write.go:53", after := #[{ on := 3, ground := Ground.data }, { on := 5, ground := Ground.data }, { on := 3, ground := Ground.chain }], guard := none }) rfl (fun K hK => ?_) AllReadyH.nil)
      refine step_copy_row rfl (.tmp 28) (.tmp 30) 22 22 rfl 5 Try.underlying22 Try.size5 ⟨N, 1, none⟩ 256 (gc - o.page * 256) 256 256 g (o.page * 256) rfl rfl _ 5 HIM.out (ints .u8 o.data) KC.out KSRC.out KFIT.out (ints_one .u8 o.data) ?_
      refine hK.out _ _ (KKEEP.out _) (fun hHeld2 => ?_)
      clear hK K hHeld
      have hHeld := hHeld2
      clear hHeld2
      try simp only [Act.put, List.setIfInBounds_toArray, List.set_cons_zero, List.set_cons_succ]
      refine wpAnyH_done (by kernel_rfl) ?_ _
      refine NoPanic.normal ?_
      clear hHeld
      rw [KEQ.out]
      go_wp2
      go_roundw
      case rel => exact ⟨i + 1, by omega, by go_num, KDK.out, KFR.out⟩
      case measure => simp [intOf]; omega
    · obtain rfl : i = D.ops.length := by omega
      clear hlt
      have k3 := hid (dropOpen_in wr base _ _ hD)
      have HF := hid hF
      clear hD hF
      go_wp2_with (go_at_call 43; refine k3.out.mono ?_; rintro e w5 ⟨rfl, h5, f5⟩; have c2 := h5.c2; have fz2 := h5.fz 2; simp only at c2 fz2; rw [S6.out] at c2)
      go_ret
      have h6 := h5.put (D' := { D.acted with img := layTo D.img D.ops D.ops.length, ops := [], syncs := D.syncs + 1 }) 2 (.int .i64 (D.syncs + 1)) rfl rfl rfl
      exact ⟨rfl, h6, (HF.out.trans f5 (Gr.refl _ _)).setCell ((DP.mem _ _).2 (Or.inl rfl)) _ _⟩
end Go.Proofs.Ytbgjnihkiolmlaa
