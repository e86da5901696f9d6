import Derived.Test.YtihkjfbhmlfonaaE4f
namespace Go.Proofs.Ytihkjfbhmlfonaa
set_option linter.unusedVariables false
set_option linter.unusedSimpArgs false
open Go.RowKit
attribute [local go_sem ↓] Go.wp_at_zero Go.wp_at_succ

theorem zero3 (w : World) : (zeroValue 3).run Try.prog w = .ok (.int .i64 0) w := by kernel_rfl
theorem wpList_look_yes {w : World} {ops : Array Oper} {rest : List Oper} {o : Oper} {a : Act} {Q : Exit → Act → World → Prop} (hg : o.guard = none) (m x : Operand) (hop : o.op = Op.lookup 51 m x true)
    (b n : Nat) (M : DataW Unit) (L : List OW) (hm : a.eval m = .map (some b)) (hown : w.ownsMap Try.prog 3 (plainElem Try.prog 3) b n M) (hN : NewM M L) (q : Nat) (hx : a.eval x = .int .i64 q) (hq : q < 4096) (i : Nat) (hi : lastOf L q = some i)
    (h : wpList Try.prog ops Q rest (a.put o.dst (.tuple #[.int .i64 i, .bool true])) w) : wpList Try.prog ops Q (o :: rest) a w := by
  refine wpList_lookup_own_ok_int w hg m x 51 hop 3 3 .i64 keyed3 Try.underlying51 Try.underlying3 (zero3 _) b n M hm hown _ _ hx (Maps.keyOf_int_mk Try.underlying3 (wfk q hq)) ?_
  intro c hc _
  obtain ⟨y1, y2⟩ := hN.yes q i hi
  rw [y1]
  rw [y2] at hc
  simp only [DataW.lit.injEq, Lit.int.injEq, true_and] at hc
  rw [← hc]; exact h
theorem wpList_look_no {w : World} {ops : Array Oper} {rest : List Oper} {o : Oper} {a : Act} {Q : Exit → Act → World → Prop} (hg : o.guard = none) (m x : Operand) (hop : o.op = Op.lookup 51 m x true)
    (b n : Nat) (M : DataW Unit) (L : List OW) (hm : a.eval m = .map (some b)) (hown : w.ownsMap Try.prog 3 (plainElem Try.prog 3) b n M) (hN : NewM M L) (q : Nat) (hx : a.eval x = .int .i64 q) (hq : q < 4096) (hi : lastOf L q = none)
    (h : wpList Try.prog ops Q rest (a.put o.dst (.tuple #[.int .i64 0, .bool false])) w) : wpList Try.prog ops Q (o :: rest) a w := by
  refine wpList_lookup_own_ok_int w hg m x 51 hop 3 3 .i64 keyed3 Try.underlying51 Try.underlying3 (zero3 _) b n M hm hown _ _ hx (Maps.keyOf_int_mk Try.underlying3 (wfk q hq)) ?_
  intro c hc _
  have y1 := hN.no q hi
  rw [y1]
  rw [Maps.atKey_of_not_has y1] at hc
  simp only [DataW.lit.injEq, Lit.int.injEq, true_and] at hc
  rw [← hc]; exact h
def dW : OW := ⟨0, []⟩
theorem flat_get : ∀ (ops : List OW) (n : Nat), (∀ o ∈ ops, OwOk n o) → ∀ (i j : Nat), i < ops.length → j < 257 → (ops.flatMap encW)[i * 257 + j]? = (encW (ops.getD i dW))[j]?
  | [], n, h, i, j, hi, hj => by simp at hi
  | o :: ops, n, h, 0, j, hi, hj => by
    have hl := (h o (by simp)).len
    rw [Nat.zero_mul, Nat.zero_add, List.flatMap_cons, List.getElem?_append_left (by omega)]; rfl
  | o :: ops, n, h, i + 1, j, hi, hj => by
    have hl := (h o (by simp)).len
    have ih := flat_get ops n (fun x hx => h x (by simp [hx])) i j (by simpa using hi) hj
    rw [List.flatMap_cons, List.getElem?_append_right (by omega), hl, show (i + 1) * 257 + j - 257 = i * 257 + j by omega, ih]; rfl
theorem getD_memW (ops : List OW) (i : Nat) (hi : i < ops.length) : ops.getD i dW ∈ ops := by
  rw [List.getD_eq_getElem?_getD, List.getElem?_eq_getElem hi]; exact List.getElem_mem hi
/-- An open write where it lies. -/
theorem DK.opAt {w : World} {base : Nat} {P : DP} {D : DS} (h : DK w base P D) (hok : DsOk D) (i : Nat) (hi : i < D.ops.length) :
    ∃ go cap, P.ov = .slice (some ⟨go, 0, none⟩) D.ops.length cap ∧ go < w.heap.size ∧ P.ov.ownBlock = some go ∧ D.ops.length ≤ cap ∧ cap ≤ maxLen ∧ w.rangeAt go (i * 257) (encW (D.ops.getD i dW)) := by
  rcases h.opn.2 with ⟨_, h0⟩ | ⟨g, cap, cur, e1, e2, e3, e4, e5, e6, e7⟩
  · omega
  · refine ⟨g, cap, e1, hlt e3, by rw [e1]; rfl, e4, e5, fun j v hv => ?_⟩
    have hj := (List.getElem?_eq_some_iff.1 hv).1
    rw [(hok.np.2.2.2 _ (getD_memW D.ops i hi)).len] at hj
    rw [cell_of_row _ _ _ _ _ _ e3, ← hv, ← flat_get D.ops D.np hok.np.2.2.2 i j hi hj, ← e7, List.getElem?_take, if_pos (by omega), Array.getElem?_toList]
theorem encW_src {w : World} {g o : Nat} {x : OW} (h : w.rangeAt g o (encW x)) (hg : g < w.heap.size) (hd : x.data.length = 256) (cap : Nat) (hc : 256 ≤ cap) (hm : cap ≤ maxLen) : Src w (some ⟨g, o + 1, none⟩) cap x.data := by
  refine ⟨by omega, hm, g, o + 1, fun _ => hg, fun _ => rfl, fun j hj => ?_⟩
  have := h (j + 1) (.int .u8 (x.data.getD j 0)) (by rw [encW, List.getElem?_cons_succ, ints_get _ _ _ hj])
  rwa [show o + 1 + j = o + (j + 1) by omega]
/-- What a page reads. -/
def DS.readOf (D : DS) (q : Nat) : List Int := match lastOf D.ops q with | some i => (D.ops.getD i dW).data | none => (D.img.drop (q * 256)).take 256
set_option maxHeartbeats 400000 in
theorem Read_down (w : World) (base : Nat) (P : DP) (D : DS) (h : DK w base P D) (hpw : D.power = false) (q : Int) :
    Calls Try.prog 54 #[.pointer (some ⟨P.p, 0, none⟩), .int .i64 q] w fun e w' => e = .returned (.tuple #[.slice none 0 0, .int .i64 2]) ∧ w = w' := by
  have c7 := h.c7
  rw [hpw] at c7
  clear hpw h
  go_enter Try.func54, Try.ntmps54
  go_wp2
  go_ret2
  exact ⟨rfl, rfl⟩
set_option maxRecDepth 100000 in
set_option maxHeartbeats 1000000 in
theorem Read_in (w : World) (base : Nat) (P : DP) (D : DS) (h : DK w base P D) (hok : DsOk D) (hpw : D.power = true) (q : Nat) (hq : q < D.np) (hr : D.reads < 4000000000000000000) :
    Calls Try.prog 54 #[.pointer (some ⟨P.p, 0, none⟩), .int .i64 q] w fun e w' => ∃ v, e = .returned (.tuple #[v, .int .i64 0]) ∧ Own w' w.heap.size v (D.readOf q) ∧ DK w' base P { D with reads := D.reads + 1 } ∧ Fr P.fp w w' := by
  have c7 := h.c7
  rw [hpw] at c7
  obtain ⟨h3, h4, hn, hop⟩ := hok.np
  have HP := hid (has_in w base P D h D.np hn h4 q)
  have HE := hid (show decide (0 ≤ (q : Int) ∧ (q : Int) < D.np) = true from decide_eq_true ⟨by omega, by omega⟩)
  have c0 := h.c0
  have f0 := h.fz 0
  have hq4 : q < 4096 := by omega
  have rb := hok.reads
  have ir : D.reads + 1 ≤ 9223372036854775807 := by omega
  have ir0 : 0 ≤ D.reads := rb.1
  have h1 := h.put (D' := { D with reads := D.reads + 1 }) 0 (.int .i64 (D.reads + 1)) rfl rfl rfl
  have hF := (Fr.refl P.fp w).setCell h.hp 0 (.int .i64 (D.reads + 1))
  have ok1 : DsOk { D with reads := D.reads + 1 } := ⟨hok.n, hok.bts, hok.ops, by show 0 ≤ D.reads + 1 ∧ D.reads + 1 ≤ _; omega, hok.writes, hok.syncs, hok.epoch, hok.armed⟩
  have hsz : (w.setCell ⟨P.p, 0, none⟩ (.int .i64 (D.reads + 1))).heap.size = w.heap.size := World.size_setCell _ _ _
  cases hl : lastOf D.ops q with
  | some i =>
    have hi := lastOf_lt hl
    have hrd : D.readOf q = (D.ops.getD i dW).data := by unfold DS.readOf; rw [hl]
    obtain ⟨go, cap, e1, e2, e3, e4, e5, e6⟩ := h1.opAt ok1 i hi
    have hdl : (D.ops.getD i dW).data.length = 256 := (hop _ (getD_memW D.ops i hi)).2.1
    have HC := Clone_any _ _ _ _ (encW_src e6 e2 hdl 256 (Nat.le_refl _) (by unfold maxLen; omega)) (fun e => by cases e) (by show (D.ops.getD i dW).data.length ≤ _; rw [hdl]; decide)
    simp only at HC e1 e6
    rw [hdl] at HC
    have HCC := hid HC
    clear HC
    rw [hrd]
    have k5 := h1.c5
    have k6 := h1.c6
    rw [e1] at k5
    have km := h1.mp
    have kn := h1.new
    simp only at k5 k6 km kn
    have HL := hid hl
    have HFIN := hid (fun (w2 : World) (hb : Below (w.setCell ⟨P.p, 0, none⟩ (.int .i64 (D.reads + 1))).heap.size (w.setCell ⟨P.p, 0, none⟩ (.int .i64 (D.reads + 1))) w2) => (show DK w2 base P { D with reads := D.reads + 1 } ∧ Fr P.fp w w2 from ⟨h1.below hb, hF.tail (F' := []) hb⟩))
    have HSZ := hid hsz
    have ii : (i : Int) < (D.ops.length : Int) := by omega
    have hopl := hok.ops
    unfold maxLen at e5
    clear h1 hF h hn hpw hl hrd hdl hsz hop ok1 e1 e2 e3 e6 rb hok
    obtain ⟨p, g, m, gc, ov, rs, M⟩ := P
    simp only at *
    go_enter Try.func54, Try.ntmps54
    go_wp2_with (first
      | (go_at_call 74; refine HP.out.mono ?_; rintro e w0 ⟨rfl, rfl⟩; rw [HE.out])
      | (at_lookup; refine wpList_look_yes rfl (.tmp 32) (.tmp 33) rfl m _ M _ rfl km kn q rfl hq4 i HL.out ?_)
      | (go_at_call 75; refine HCC.out.mono ?_; rintro e w2 ⟨v, rfl, hO, hB⟩))
    go_ret2
    obtain ⟨q1, q2⟩ := HFIN.out _ hB
    exact ⟨v, rfl, by rw [HSZ.out] at hO; exact hO, q1, q2⟩
  | none =>
    have hrd : D.readOf q = (D.img.drop (q * 256)).take 256 := by unfold DS.readOf; rw [hl]
    have HB := hid (bytesOf_in _ base P _ h1 D.np hn h4 q hq)
    have hsr := h1.src (q * 256) 256 (P.gc - q * 256) (by show q * 256 + 256 ≤ D.img.length; omega) (by have := h.gl; omega) (by have := h.gm; omega)
    have hdl : ((D.img.drop (q * 256)).take 256).length = 256 := by simp; omega
    have HC := Clone_any _ _ _ _ hsr (fun e => by cases e) (by show ((D.img.drop (q * 256)).take 256).length ≤ _; rw [hdl]; decide)
    simp only at HC
    rw [hdl] at HC
    have HCC := hid HC
    clear HC
    rw [hrd]
    have k6 := h1.c6
    have km := h1.mp
    have kn := h1.new
    simp only at k6 km kn
    have HL := hid hl
    have HFIN := hid (fun (w2 : World) (hb : Below (w.setCell ⟨P.p, 0, none⟩ (.int .i64 (D.reads + 1))).heap.size (w.setCell ⟨P.p, 0, none⟩ (.int .i64 (D.reads + 1))) w2) => (show DK w2 base P { D with reads := D.reads + 1 } ∧ Fr P.fp w w2 from ⟨h1.below hb, hF.tail (F' := []) hb⟩))
    have HSZ := hid hsz
    clear h1 hF h hn hpw hl hrd hdl hsz hop ok1 rb hok hsr
    obtain ⟨p, g, m, gc, ov, rs, M⟩ := P
    simp only at *
    go_enter Try.func54, Try.ntmps54
    go_wp2_with (first
      | (go_at_call 74; refine HP.out.mono ?_; rintro e w0 ⟨rfl, rfl⟩; rw [HE.out])
      | (at_lookup; refine wpList_look_no rfl (.tmp 32) (.tmp 33) rfl m _ M _ rfl km kn q rfl hq4 HL.out ?_)
      | (go_at_call 60; refine HB.out.mono ?_; rintro e w1 ⟨rfl, rfl⟩)
      | (go_at_call 75; refine HCC.out.mono ?_; rintro e w2 ⟨v, rfl, hO, hB⟩))
    go_ret2
    obtain ⟨q1, q2⟩ := HFIN.out _ hB
    exact ⟨v, rfl, by rw [HSZ.out] at hO; exact hO, q1, q2⟩
end Go.Proofs.Ytihkjfbhmlfonaa
namespace Go.Proofs.Ytihkjfbhmlfonaa
set_option linter.unusedVariables false
set_option linter.unusedSimpArgs false
open Go.RowKit
attribute [local go_sem ↓] Go.wp_at_zero Go.wp_at_succ

/-- A list with another one laid over it. -/
def putAt (img : List Int) (o : Nat) (zs : List Int) : List Int := img.take o ++ zs ++ img.drop (o + zs.length)
theorem putAt_len (img : List Int) (o : Nat) (zs : List Int) (h : o + zs.length ≤ img.length) : (putAt img o zs).length = img.length := by
  simp [putAt]; omega
theorem putAt_bts {img zs : List Int} (o : Nat) (h : Bts img) (k : Bts zs) : Bts (putAt img o zs) := fun x hx => by
  rcases List.mem_append.1 hx with h1 | h1
  · rcases List.mem_append.1 h1 with h2 | h2
    · exact h x (List.mem_of_mem_take h2)
    · exact k x h2
  · exact h x (List.mem_of_mem_drop h1)
theorem putAt_get (img : List Int) (o : Nat) (zs : List Int) (h : o + zs.length ≤ img.length) (j : Nat) : (putAt img o zs).getD j 0 = if o ≤ j ∧ j < o + zs.length then zs.getD (j - o) 0 else img.getD j 0 := by
  have ht : (img.take o).length = o := by simp; omega
  unfold putAt
  rw [List.getD_eq_getElem?_getD, List.append_assoc]
  by_cases h1 : j < o
  · rw [List.getElem?_append_left (by omega), if_neg (by omega), List.getElem?_take, if_pos h1, ← List.getD_eq_getElem?_getD]
  · rw [List.getElem?_append_right (by omega), ht]
    by_cases h2 : j < o + zs.length
    · rw [List.getElem?_append_left (by omega), if_pos (by omega), ← List.getD_eq_getElem?_getD]
    · rw [List.getElem?_append_right (by omega), if_neg (by omega), List.getElem?_drop, show o + zs.length + (j - o - zs.length) = j by omega, ← List.getD_eq_getElem?_getD]
theorem ints_putAt (img : List Int) (o : Nat) (zs : List Int) (rest : List Value) (h : o + zs.length ≤ img.length) : (ints .u8 img ++ rest).take o ++ ints .u8 zs ++ (ints .u8 img ++ rest).drop (o + (ints .u8 zs).length) = ints .u8 (putAt img o zs) ++ rest := by
  rw [ints_len, List.take_append_of_le_length (by rw [ints_len]; omega), List.drop_append_of_le_length (by rw [ints_len]; omega)]
  simp [putAt, ints, List.map_take, List.map_drop]
theorem DK.setImg {w : World} {base : Nat} {P : DP} {D : DS} (h : DK w base P D) (img' : List Int) (hl : img'.length = D.img.length) : DK (w.setRow P.g (ints .u8 img' ++ P.rest).toArray) base P { D with img := img' } := by
  have hne : ∀ i, i ≠ P.g → (w.setRow P.g (ints .u8 img' ++ P.rest).toArray).heap[i]? = w.heap[i]? := fun i hi => setRow_other w _ _ _ hi
  refine ⟨?_, setRow_heap w P.g _ _ _ _ h.im, by show img'.length ≤ _; rw [hl]; exact h.gl, h.gm, ?_, ownsMap_heap h.mp (hne _ h.gm'.symm), h.new, h.bp, h.bg, h.bm⟩
  · rw [hne _ h.pg, h.cell]
    simp [dcells, hl]
  · exact ownsRow_heap h.opn fun i e => hne i (fun q => h.go (q ▸ e))
theorem DK.hg {w : World} {base : Nat} {P : DP} {D : DS} (h : DK w base P D) : P.g ∈ P.fp := (P.mem _).2 (Or.inr (Or.inl rfl))
theorem Fr.setRow {F : List Nat} {a b : World} (h : Fr F a b) {g : Nat} (hg : g ∈ F) (cs : Array Value) : Fr F a (b.setRow g cs) :=
  ⟨h.os, h.tape, h.output, by rw [size_setRow]; exact h.size, fun k hk hn => (setRow_other b g k cs (fun e => hn (e ▸ hg))).trans (h.block k hk hn)⟩
theorem Fr.alloc {F : List Nat} {a b : World} (h : Fr F a b) (o : Obj) : Fr F a (b.alloc o) := h.tail (F' := []) ((Below.refl _ b).alloc (Nat.le_refl _) o)
theorem DK.drew {w : World} {base : Nat} {P : DP} {D : DS} (h : DK w base P D) : DK w.drew base P D := h.of_heap fun _ _ => rfl
/-- An open write reaches the disk whole. -/
def lay1 (img : List Int) (o : OW) : List Int := putAt img (o.page * 256) o.data
def layTo (img : List Int) (ops : List OW) (n : Nat) : List Int := (ops.take n).foldl lay1 img
theorem lay1_len {img : List Int} {n : Nat} {o : OW} (h : img.length = 256 * n) (ho : OwOk n o) : (lay1 img o).length = 256 * n := by
  obtain ⟨h1, h2, h3⟩ := ho
  unfold lay1
  rw [putAt_len _ _ _ (by omega), h]
theorem take_snocW (ops : List OW) (i : Nat) (hi : i < ops.length) : ops.take (i + 1) = ops.take i ++ [ops.getD i dW] := by
  rw [List.take_succ_eq_append_getElem hi, List.getD_eq_getElem?_getD, List.getElem?_eq_getElem hi]; rfl
theorem layTo_succ (img : List Int) (ops : List OW) (i : Nat) (hi : i < ops.length) : layTo img ops (i + 1) = lay1 (layTo img ops i) (ops.getD i dW) := by
  unfold layTo; rw [take_snocW ops i hi, List.foldl_append]; rfl
theorem layTo_len {img : List Int} {ops : List OW} {n : Nat} (h : img.length = 256 * n) (ho : ∀ o ∈ ops, OwOk n o) : ∀ i, i ≤ ops.length → (layTo img ops i).length = 256 * n
  | 0, _ => h
  | i + 1, hi => by rw [layTo_succ _ _ _ (by omega)]; exact lay1_len (layTo_len h ho i (by omega)) (ho _ (getD_memW ops i (by omega)))
theorem layTo_bts {img : List Int} {ops : List OW} {n : Nat} (h : Bts img) (ho : ∀ o ∈ ops, OwOk n o) : ∀ i, i ≤ ops.length → Bts (layTo img ops i)
  | 0, _ => h
  | i + 1, hi => by rw [layTo_succ _ _ _ (by omega)]; exact putAt_bts _ (layTo_bts h ho i (by omega)) (ho _ (getD_memW ops i (by omega))).2.2
theorem hlt_ {w : World} {x : Obj} {i : Nat} (hx : w.heap[i]? = some x) : i < w.heap.size := hlt hx
set_option maxRecDepth 100000 in
set_option maxHeartbeats 1000000 in
theorem Sync_loop (w : World) (base : Nat) (P : DP) (D : DS) (h : DK w base P D) (hok : DsOk D) (hpw : D.power = true) (hac : D.armed ≠ 1) (hsy : D.syncs < 4000000000000000000) :
    Calls Try.prog 38 #[.pointer (some ⟨P.p, 0, none⟩)] w fun e w' => e = .returned (.int .i64 0) ∧ DK w' base { P with ov := .slice none 0 0, M := .map [] } { D.acted with img := layTo D.img D.ops D.ops.length, ops := [], syncs := D.syncs + 1 } ∧ Fr P.fp w w' := by
  have c7 := h.c7
  rw [hpw] at c7
  have HA := act_in w base P D h hok.armed
  have ha0 : D.actE = 0 := by unfold DS.actE; rw [if_neg hac]
  rw [ha0] at HA
  have HAA := hid HA
  obtain ⟨h3, h4, hn, hop⟩ := hok.np
  obtain ⟨s1, s2, s3, s4, s5, s6⟩ := acted_same D
  have hol := hok.ops
  have sy := hok.syncs
  have sb : D.syncs + 1 ≤ 9223372036854775807 := by omega
  have sb0 : 0 ≤ D.syncs := sy.1
  have hokA := acted_ok hok
  have hgc : P.gc ≤ 9223372036854775807 := by have := h.gm; unfold maxLen at this; omega
  clear HA ha0 hac hpw h sy
  obtain ⟨p, g, m, gc, ov, rs, M⟩ := P
  simp only at *
  go_enter Try.func38, Try.ntmps38
  go_wp2_with (go_at_call 59; refine HAA.out.mono ?_; rintro e w1 ⟨rfl, h1, f1⟩; have k5 := h1.c5; obtain ⟨spo, capo, hov⟩ := ownsRow_form h1.opn; simp only at hov; rw [s2] at hov; subst hov; simp only at k5)
  clear HAA c7
  have okL := hid (fun (i : Nat) (hi : i ≤ D.ops.length) => (show DsOk { D.acted with img := layTo D.img D.ops i } from ⟨⟨D.np, h3, h4, layTo_len hn hop i hi, by rw [s2]; exact hop⟩, layTo_bts hok.bts hop i hi, by rw [s2]; exact hol, hokA.reads, hokA.writes, hokA.syncs, hokA.epoch, hokA.armed⟩))
  have HLL := hid (fun (i : Nat) (hi : i ≤ D.ops.length) => layTo_len hn hop i hi)
  have h1' : DK w1 base ⟨p, g, m, gc, .slice spo D.ops.length capo, rs, M⟩ { D.acted with img := layTo D.img D.ops 0 } := by
    show DK w1 base _ { D.acted with img := D.img }
    rw [← s1]; exact h1
  have S2 := hid s2
  have S6 := hid s6
  have HOP := hid hop
  clear s1 s2 s3 s4 s5 s6 h1 k5 hn hop
  go_loopw [21] (fun iv wr => ∃ i : Nat, i ≤ D.ops.length ∧ iv = .int .i64 i ∧ DK wr base ⟨p, g, m, gc, .slice spo D.ops.length capo, rs, M⟩ { D.acted with img := layTo D.img D.ops i } ∧ Fr (DP.mk p g m gc (.slice spo D.ops.length capo) rs M).fp w wr) (fun iv _ => D.ops.length - (intOf iv).toNat)
  case atStart => exact ⟨0, by omega, rfl, h1', f1⟩
  case round =>
    clear h1' f1
    obtain ⟨i, hi, rfl, hD, hF⟩ := hrel
    by_cases hlt : i < D.ops.length
    · have i1 : (i : Int) < (D.ops.length : Int) := by omega
      obtain ⟨go, cap, e1, e2, e3, e4, e5, rg⟩ := hD.opAt (okL.out i hi) i (by show i < D.acted.ops.length; rw [S2.out]; exact hlt)
      simp only [Value.slice.injEq] at e1
      obtain ⟨rfl, hxx, rfl⟩ := e1
      clear hxx
      simp only at rg
      rw [S2.out] at rg
      obtain ⟨o, ho⟩ : ∃ o, o = D.ops.getD i dW := ⟨_, rfl⟩
      rw [← ho] at rg
      have hoo : OwOk D.np o := by rw [ho]; exact HOP.out _ (getD_memW _ _ hlt)
      have HLS := hid (show layTo D.img D.ops (i + 1) = putAt (layTo D.img D.ops i) (o.page * 256) o.data by rw [layTo_succ _ _ _ hlt, ← ho]; rfl)
      have hll := HLL.out i hi
      clear ho
      obtain ⟨hpg, hdl, hdb⟩ := hoo
      have hel : (encW o).length = 257 := by rw [encW, List.length_cons, ints_len, hdl]
      have hio : (Try.prog.info? 119).map (·.size) = some (encW o).length := by rw [sizeW, hel]
      obtain ⟨Z0, hZ0⟩ : ∃ Z, Z = zW 0 := ⟨_, rfl⟩
      have HZ0 := hid hZ0
      have g1 := hid (hnew wr (.cells Z0.toArray 119))
      have K1 := hid (show (Try.prog.info? 119).map (·.size) = some (encW o).toArray.size by rw [sizeW, List.size_toArray, hel])
      have K2 := hid (show Z0.toArray.size = (encW o).toArray.size by rw [hZ0, List.size_toArray, List.size_toArray, zW_len, hel])
      have oo := hid (all_oneCell_toArray (encW_one o))
      have hA := (hD.below ((Below.refl _ wr).alloc (Nat.le_refl _) (.cells (encW o).toArray 119))).drew
      have gN := hnew wr (.cells (encW o).toArray 119)
      have HBY := hid (bytesOf_in _ base _ _ hA D.np hll h4 o.page hpg)
      have HIM := hid hA.im
      have KN0 := hid (show (wr.alloc (.cells (encW o).toArray 119)).drew.cell? ⟨wr.heap.size, 0, none⟩ = some (.int .i64 o.page) by
        rw [cell_of_row _ _ _ _ _ _ (show (wr.alloc (.cells (encW o).toArray 119)).drew.heap[wr.heap.size]? = _ from gN)]; rfl)
      have KC := hid (show (ints .u8 o.data).length = Nat.min 256 256 by rw [ints_len, hdl]; decide)
      have KSRC := hid (src_news (encW_src (rng (show (wr.alloc (.cells (encW o).toArray 119)).drew.heap[wr.heap.size]? = _ from gN)) (by show wr.heap.size < (wr.heap.push _).size; simp) hdl 256 (Nat.le_refl _) (by unfold maxLen; omega)))
      have KFIT := hid (show o.page * 256 + (ints .u8 o.data).length ≤ (ints .u8 (layTo D.img D.ops i) ++ rs).length by rw [ints_len, List.length_append, ints_len, hdl, hll]; omega)
      have hgN : g < wr.heap.size := hlt_ hD.im
      have KEQ := hid (show (ints .u8 (layTo D.img D.ops i) ++ rs).take (o.page * 256) ++ ints .u8 o.data ++ (ints .u8 (layTo D.img D.ops i) ++ rs).drop (o.page * 256 + (ints .u8 o.data).length) = ints .u8 (layTo D.img D.ops (i + 1)) ++ rs by rw [ints_putAt _ _ _ _ (by omega), HLS.out])
      have hD2 := hA.setImg (layTo D.img D.ops (i + 1)) (by show _ = (layTo D.img D.ops i).length; rw [hll, HLL.out (i + 1) (by omega)])
      have hF2 := (hF.alloc (.cells (encW o).toArray 119)).drew.setRow hD.hg (ints .u8 (layTo D.img D.ops (i + 1)) ++ rs).toArray
      have KDK := hid hD2
      have KFR := hid hF2
      have KKEEP := hid (fun cs => (show ((wr.alloc (.cells (encW o).toArray 119)).drew.setRow g cs).cell? ⟨wr.heap.size, 0, none⟩ = some (.int .i64 o.page) by
        rw [World.cell?, setRow_other _ _ _ _ (show wr.heap.size ≠ g by omega)]; exact KN0.out))
      have hgc2 : gc ≤ 9223372036854775807 := hgc
      clear hD hF hA gN hD2 hF2 e2 e3 e4 e5 hll hel hZ0 HLS
      simp only at *
      go_wp2_with (first
        | refine wpList_load_mid rfl 119 _ rfl go (i * 257) rfl _ _ rg Try.underlying119 rfl hio ?_
        | refine wpList_allocW rfl rfl Z0 HZ0.out ?_
        | (refine wpList_store_row rfl 119 _ _ rfl wr.heap.size _ rfl rfl 119 _ g1.out K1.out K2.out oo.out ?_; rw [setRow_alloc]))
      clear g1 K1 K2 oo HZ0 rg
      generalize hNN : wr.heap.size = N at *
      clear hNN
      refine wp_region_noPanic ?_
      refine wp_region_held_drew (S := fun w' => w'.cell? ⟨N, 0, none⟩ = some (.int .i64 o.page)) (by kernel_rfl) KN0.out (fun hHeld => ?_)
      refine wpAnyH_take (i := 0) (oi := { dst := some 25, op := Op.move (Operand.tmp 0), type := 23, pos := "write.go:53", after := #[], guard := none }) (v := .pointer (some ⟨p, 0, none⟩)) rfl (by kernel_rfl) (by kernel_rfl) (by kernel_rfl) (fun _ _ _ h => h) (Or.inl ⟨by rfl, by intro w hS; go_simp⟩) hHeld ?_
      try simp only [Act.put, List.setIfInBounds_toArray, List.set_cons_zero, List.set_cons_succ]
      refine wpAnyH_take (i := 1) (oi := { dst := some 26, op := Op.fieldAddr 119 (Operand.tmp 5) 0, type := 0, pos := "write.go:53", after := #[], guard := none }) (v := .pointer (some ⟨N, 0, none⟩)) rfl (by kernel_rfl) (by kernel_rfl) (by kernel_rfl) (fun _ _ _ h => h) (Or.inl ⟨by rfl, by intro w hS; go_simp⟩) hHeld ?_
      try simp only [Act.put, List.setIfInBounds_toArray, List.set_cons_zero, List.set_cons_succ]
      refine wpAnyH_take (i := 4) (oi := { dst := some 29, op := Op.fieldAddr 119 (Operand.tmp 5) 1, type := 0, pos := "write.go:53", after := #[], guard := none }) (v := .pointer (some ⟨N, 1, none⟩)) rfl (by kernel_rfl) (by kernel_rfl) (by kernel_rfl) (fun _ _ _ h => h) (Or.inl ⟨by rfl, by intro w hS; go_simp⟩) hHeld ?_
      try simp only [Act.put, List.setIfInBounds_toArray, List.set_cons_zero, List.set_cons_succ]
      refine wpAnyH_take (i := 2) (oi := { dst := some 27, op := Op.load 3 (Operand.tmp 26), type := 3, pos := "write.go:53", after := #[{ on := 1, ground := Ground.data }], guard := none }) (v := .int .i64 o.page) rfl (by kernel_rfl) (by kernel_rfl) (by kernel_rfl) (fun _ _ _ h => h) (Or.inl ⟨by rfl, by intro w hS; have hc := hS; go_simp⟩) hHeld ?_
      try simp only [Act.put, List.setIfInBounds_toArray, List.set_cons_zero, List.set_cons_succ]
      refine wpAnyH_take (i := 5) (oi := { dst := some 30, op := Op.slice 117 (Operand.tmp 29) none none none, type := 36, pos := "write.go:53", after := #[{ on := 4, ground := Ground.data }], guard := none }) (v := .slice (some ⟨N, 1, none⟩) 256 256) rfl (by kernel_rfl) (by kernel_rfl) (by kernel_rfl) (fun _ _ _ h => h) (Or.inl ⟨by rfl, by intro w hS; go_simp⟩) hHeld ?_
      try simp only [Act.put, List.setIfInBounds_toArray, List.set_cons_zero, List.set_cons_succ]
      refine wpAnyH_ready (rs := [3]) (by kernel_rfl) (by simp) ?_
      refine (AllReadyH.cons (o := { dst := some 28, op := Op.call { callee := Callee.value (Operand.func 60), args := #[Operand.tmp 25, Operand.tmp 27], argTypes := #[23, 3] }, type := 36, pos := "write.go:53", after := #[{ on := 0, ground := Ground.data }, { on := 2, ground := Ground.data }], guard := none }) rfl (fun K hK => ?_) AllReadyH.nil)
      go_simp
      go_at_call 60
      refine HBY.out.mono ?_
      rintro e w4 ⟨rfl, rfl⟩
      go_wp2_with fail
      refine hK.out _ _ (hHeld) (fun hHeld2 => ?_)
      clear hK K hHeld
      have hHeld := hHeld2
      clear hHeld2
      try simp only [Act.put, List.setIfInBounds_toArray, List.set_cons_zero, List.set_cons_succ]
      refine wpAnyH_ready (rs := [6]) (by kernel_rfl) (by simp) ?_
      refine (AllReadyH.cons (o := { dst := some 31, op := Op.call { callee := Callee.builtin Builtin.copy, args := #[Operand.tmp 28, Operand.tmp 30], argTypes := #[36, 36] }, type := 3, pos := "write.go:53", after := #[{ on := 3, ground := Ground.data }, { on := 5, ground := Ground.data }, { on := 3, ground := Ground.chain }], guard := none }) rfl (fun K hK => ?_) AllReadyH.nil)
      refine step_copy_row rfl (.tmp 28) (.tmp 30) 36 36 rfl 5 Try.underlying36 Try.size5 ⟨N, 1, none⟩ 256 (gc - o.page * 256) 256 256 g (o.page * 256) rfl rfl _ 5 HIM.out (ints .u8 o.data) KC.out KSRC.out KFIT.out (ints_one .u8 o.data) ?_
      refine hK.out _ _ (KKEEP.out _) (fun hHeld2 => ?_)
      clear hK K hHeld
      have hHeld := hHeld2
      clear hHeld2
      try simp only [Act.put, List.setIfInBounds_toArray, List.set_cons_zero, List.set_cons_succ]
      refine wpAnyH_done (by kernel_rfl) ?_ _
      refine NoPanic.normal ?_
      clear hHeld
      rw [KEQ.out]
      go_wp2
      go_roundw
      case rel => exact ⟨i + 1, by omega, by go_num, KDK.out, KFR.out⟩
      case measure => simp [intOf]; omega
    · obtain rfl : i = D.ops.length := by omega
      clear hlt
      have k3 := hid (dropOpen_in wr base _ _ hD)
      have HF := hid hF
      clear hD hF
      go_wp2_with (go_at_call 61; refine k3.out.mono ?_; rintro e w5 ⟨rfl, h5, f5⟩; have c2 := h5.c2; have fz2 := h5.fz 2; simp only at c2 fz2; rw [S6.out] at c2)
      go_ret
      have h6 := h5.put (D' := { D.acted with img := layTo D.img D.ops D.ops.length, ops := [], syncs := D.syncs + 1 }) 2 (.int .i64 (D.syncs + 1)) rfl rfl rfl
      exact ⟨rfl, h6, (HF.out.trans f5 (Gr.refl _ _)).setCell ((DP.mem _ _).2 (Or.inl rfl)) _ _⟩
end Go.Proofs.Ytihkjfbhmlfonaa
