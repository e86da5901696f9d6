import Derived.Test.YtbgjnihkiolmlaaE4f
namespace Go.Proofs.Ytbgjnihkiolmlaa
set_option linter.unusedVariables false
set_option linter.unusedSimpArgs false
open Go.RowKit
attribute [local go_sem ↓] Go.wp_at_zero Go.wp_at_succ

theorem zero3 (w : World) : (zeroValue 3).run Try.prog w = .ok (.int .i64 0) w := by kernel_rfl
theorem wpList_look_yes {w : World} {ops : Array Oper} {rest : List Oper} {o : Oper} {a : Act} {Q : Exit → Act → World → Prop} (hg : o.guard = none) (m x : Operand) (hop : o.op = Op.lookup 57 m x true)
    (b n : Nat) (M : DataW Unit) (L : List OW) (hm : a.eval m = .map (some b)) (hown : w.ownsMap Try.prog 3 (plainElem Try.prog 3) b n M) (hN : NewM M L) (q : Nat) (hx : a.eval x = .int .i64 q) (hq : q < 4096) (i : Nat) (hi : lastOf L q = some i)
    (h : wpList Try.prog ops Q rest (a.put o.dst (.tuple #[.int .i64 i, .bool true])) w) : wpList Try.prog ops Q (o :: rest) a w := by
  refine wpList_lookup_own_ok_int w hg m x 57 hop 3 3 .i64 keyed3 Try.underlying57 Try.underlying3 (zero3 _) b n M hm hown _ _ hx (Maps.keyOf_int_mk Try.underlying3 (wfk q hq)) ?_
  intro c hc _
  obtain ⟨y1, y2⟩ := hN.yes q i hi
  rw [y1]
  rw [y2] at hc
  simp only [DataW.lit.injEq, Lit.int.injEq, true_and] at hc
  rw [← hc]; exact h
theorem wpList_look_no {w : World} {ops : Array Oper} {rest : List Oper} {o : Oper} {a : Act} {Q : Exit → Act → World → Prop} (hg : o.guard = none) (m x : Operand) (hop : o.op = Op.lookup 57 m x true)
    (b n : Nat) (M : DataW Unit) (L : List OW) (hm : a.eval m = .map (some b)) (hown : w.ownsMap Try.prog 3 (plainElem Try.prog 3) b n M) (hN : NewM M L) (q : Nat) (hx : a.eval x = .int .i64 q) (hq : q < 4096) (hi : lastOf L q = none)
    (h : wpList Try.prog ops Q rest (a.put o.dst (.tuple #[.int .i64 0, .bool false])) w) : wpList Try.prog ops Q (o :: rest) a w := by
  refine wpList_lookup_own_ok_int w hg m x 57 hop 3 3 .i64 keyed3 Try.underlying57 Try.underlying3 (zero3 _) b n M hm hown _ _ hx (Maps.keyOf_int_mk Try.underlying3 (wfk q hq)) ?_
  intro c hc _
  have y1 := hN.no q hi
  rw [y1]
  rw [Maps.atKey_of_not_has y1] at hc
  simp only [DataW.lit.injEq, Lit.int.injEq, true_and] at hc
  rw [← hc]; exact h
def dW : OW := ⟨0, []⟩
theorem flat_get : ∀ (ops : List OW) (n : Nat), (∀ o ∈ ops, OwOk n o) → ∀ (i j : Nat), i < ops.length → j < 257 → (ops.flatMap encW)[i * 257 + j]? = (encW (ops.getD i dW))[j]?
  | [], n, h, i, j, hi, hj => by simp at hi
  | o :: ops, n, h, 0, j, hi, hj => by
    have hl := (h o (by simp)).len
    rw [Nat.zero_mul, Nat.zero_add, List.flatMap_cons, List.getElem?_append_left (by omega)]; rfl
  | o :: ops, n, h, i + 1, j, hi, hj => by
    have hl := (h o (by simp)).len
    have ih := flat_get ops n (fun x hx => h x (by simp [hx])) i j (by simpa using hi) hj
    rw [List.flatMap_cons, List.getElem?_append_right (by omega), hl, show (i + 1) * 257 + j - 257 = i * 257 + j by omega, ih]; rfl
theorem getD_memW (ops : List OW) (i : Nat) (hi : i < ops.length) : ops.getD i dW ∈ ops := by
  rw [List.getD_eq_getElem?_getD, List.getElem?_eq_getElem hi]; exact List.getElem_mem hi
/-- An open write where it lies. -/
theorem DK.opAt {w : World} {base : Nat} {P : DP} {D : DS} (h : DK w base P D) (hok : DsOk D) (i : Nat) (hi : i < D.ops.length) :
    ∃ go cap, P.ov = .slice (some ⟨go, 0, none⟩) D.ops.length cap ∧ go < w.heap.size ∧ P.ov.ownBlock = some go ∧ D.ops.length ≤ cap ∧ cap ≤ maxLen ∧ w.rangeAt go (i * 257) (encW (D.ops.getD i dW)) := by
  rcases h.opn.2 with ⟨_, h0⟩ | ⟨g, cap, cur, e1, e2, e3, e4, e5, e6, e7⟩
  · omega
  · refine ⟨g, cap, e1, hlt e3, by rw [e1]; rfl, e4, e5, fun j v hv => ?_⟩
    have hj := (List.getElem?_eq_some_iff.1 hv).1
    rw [(hok.np.2.2.2 _ (getD_memW D.ops i hi)).len] at hj
    rw [cell_of_row _ _ _ _ _ _ e3, ← hv, ← flat_get D.ops D.np hok.np.2.2.2 i j hi hj, ← e7, List.getElem?_take, if_pos (by omega), Array.getElem?_toList]
theorem encW_src {w : World} {g o : Nat} {x : OW} (h : w.rangeAt g o (encW x)) (hg : g < w.heap.size) (hd : x.data.length = 256) (cap : Nat) (hc : 256 ≤ cap) (hm : cap ≤ maxLen) : Src w (some ⟨g, o + 1, none⟩) cap x.data := by
  refine ⟨by omega, hm, g, o + 1, fun _ => hg, fun _ => rfl, fun j hj => ?_⟩
  have := h (j + 1) (.int .u8 (x.data.getD j 0)) (by rw [encW, List.getElem?_cons_succ, ints_get _ _ _ hj])
  rwa [show o + 1 + j = o + (j + 1) by omega]
/-- What a page reads. -/
def DS.readOf (D : DS) (q : Nat) : List Int := match lastOf D.ops q with | some i => (D.ops.getD i dW).data | none => (D.img.drop (q * 256)).take 256
set_option maxHeartbeats 400000 in
theorem Read_down (w : World) (base : Nat) (P : DP) (D : DS) (h : DK w base P D) (hpw : D.power = false) (q : Int) :
    Calls Try.prog 46 #[.pointer (some ⟨P.p, 0, none⟩), .int .i64 q] w fun e w' => e = .returned (.tuple #[.slice none 0 0, .int .i64 2]) ∧ w = w' := by
  have c7 := h.c7
  rw [hpw] at c7
  clear hpw h
  go_enter Try.func46, Try.ntmps46
  go_wp2
  go_ret2
  exact ⟨rfl, rfl⟩
set_option maxRecDepth 100000 in
set_option maxHeartbeats 1000000 in
theorem Read_in (w : World) (base : Nat) (P : DP) (D : DS) (h : DK w base P D) (hok : DsOk D) (hpw : D.power = true) (q : Nat) (hq : q < D.np) (hr : D.reads < 4000000000000000000) :
    Calls Try.prog 46 #[.pointer (some ⟨P.p, 0, none⟩), .int .i64 q] w fun e w' => ∃ v, e = .returned (.tuple #[v, .int .i64 0]) ∧ Own w' w.heap.size v (D.readOf q) ∧ DK w' base P { D with reads := D.reads + 1 } ∧ Fr P.fp w w' := by
  have c7 := h.c7
  rw [hpw] at c7
  obtain ⟨h3, h4, hn, hop⟩ := hok.np
  have HP := hid (has_in w base P D h D.np hn h4 q)
  have HE := hid (show decide (0 ≤ (q : Int) ∧ (q : Int) < D.np) = true from decide_eq_true ⟨by omega, by omega⟩)
  have c0 := h.c0
  have f0 := h.fz 0
  have hq4 : q < 4096 := by omega
  have rb := hok.reads
  have ir : D.reads + 1 ≤ 9223372036854775807 := by omega
  have ir0 : 0 ≤ D.reads := rb.1
  have h1 := h.put (D' := { D with reads := D.reads + 1 }) 0 (.int .i64 (D.reads + 1)) rfl rfl rfl
  have hF := (Fr.refl P.fp w).setCell h.hp 0 (.int .i64 (D.reads + 1))
  have ok1 : DsOk { D with reads := D.reads + 1 } := ⟨hok.n, hok.bts, hok.ops, by show 0 ≤ D.reads + 1 ∧ D.reads + 1 ≤ _; omega, hok.writes, hok.syncs, hok.epoch, hok.armed⟩
  have hsz : (w.setCell ⟨P.p, 0, none⟩ (.int .i64 (D.reads + 1))).heap.size = w.heap.size := World.size_setCell _ _ _
  cases hl : lastOf D.ops q with
  | some i =>
    have hi := lastOf_lt hl
    have hrd : D.readOf q = (D.ops.getD i dW).data := by unfold DS.readOf; rw [hl]
    obtain ⟨go, cap, e1, e2, e3, e4, e5, e6⟩ := h1.opAt ok1 i hi
    have hdl : (D.ops.getD i dW).data.length = 256 := (hop _ (getD_memW D.ops i hi)).2.1
    have HC := Clone_any _ _ _ _ (encW_src e6 e2 hdl 256 (Nat.le_refl _) (by unfold maxLen; omega)) (fun e => by cases e) (by show (D.ops.getD i dW).data.length ≤ _; rw [hdl]; decide)
    simp only at HC e1 e6
    rw [hdl] at HC
    have HCC := hid HC
    clear HC
    rw [hrd]
    have k5 := h1.c5
    have k6 := h1.c6
    rw [e1] at k5
    have km := h1.mp
    have kn := h1.new
    simp only at k5 k6 km kn
    have HL := hid hl
    have HFIN := hid (fun (w2 : World) (hb : Below (w.setCell ⟨P.p, 0, none⟩ (.int .i64 (D.reads + 1))).heap.size (w.setCell ⟨P.p, 0, none⟩ (.int .i64 (D.reads + 1))) w2) => (show DK w2 base P { D with reads := D.reads + 1 } ∧ Fr P.fp w w2 from ⟨h1.below hb, hF.tail (F' := []) hb⟩))
    have HSZ := hid hsz
    have ii : (i : Int) < (D.ops.length : Int) := by omega
    have hopl := hok.ops
    unfold maxLen at e5
    clear h1 hF h hn hpw hl hrd hdl hsz hop ok1 e1 e2 e3 e6 rb hok
    obtain ⟨p, g, m, gc, ov, rs, M⟩ := P
    simp only at *
    go_enter Try.func46, Try.ntmps46
    go_wp2_with (first
      | (go_at_call 53; refine HP.out.mono ?_; rintro e w0 ⟨rfl, rfl⟩; rw [HE.out])
      | (at_lookup; refine wpList_look_yes rfl (.tmp 32) (.tmp 33) rfl m _ M _ rfl km kn q rfl hq4 i HL.out ?_)
      | (go_at_call 55; refine HCC.out.mono ?_; rintro e w2 ⟨v, rfl, hO, hB⟩))
    go_ret2
    obtain ⟨q1, q2⟩ := HFIN.out _ hB
    exact ⟨v, rfl, by rw [HSZ.out] at hO; exact hO, q1, q2⟩
  | none =>
    have hrd : D.readOf q = (D.img.drop (q * 256)).take 256 := by unfold DS.readOf; rw [hl]
    have HB := hid (bytesOf_in _ base P _ h1 D.np hn h4 q hq)
    have hsr := h1.src (q * 256) 256 (P.gc - q * 256) (by show q * 256 + 256 ≤ D.img.length; omega) (by have := h.gl; omega) (by have := h.gm; omega)
    have hdl : ((D.img.drop (q * 256)).take 256).length = 256 := by simp; omega
    have HC := Clone_any _ _ _ _ hsr (fun e => by cases e) (by show ((D.img.drop (q * 256)).take 256).length ≤ _; rw [hdl]; decide)
    simp only at HC
    rw [hdl] at HC
    have HCC := hid HC
    clear HC
    rw [hrd]
    have k6 := h1.c6
    have km := h1.mp
    have kn := h1.new
    simp only at k6 km kn
    have HL := hid hl
    have HFIN := hid (fun (w2 : World) (hb : Below (w.setCell ⟨P.p, 0, none⟩ (.int .i64 (D.reads + 1))).heap.size (w.setCell ⟨P.p, 0, none⟩ (.int .i64 (D.reads + 1))) w2) => (show DK w2 base P { D with reads := D.reads + 1 } ∧ Fr P.fp w w2 from ⟨h1.below hb, hF.tail (F' := []) hb⟩))
    have HSZ := hid hsz
    clear h1 hF h hn hpw hl hrd hdl hsz hop ok1 rb hok hsr
    obtain ⟨p, g, m, gc, ov, rs, M⟩ := P
    simp only at *
    go_enter Try.func46, Try.ntmps46
    go_wp2_with (first
      | (go_at_call 53; refine HP.out.mono ?_; rintro e w0 ⟨rfl, rfl⟩; rw [HE.out])
      | (at_lookup; refine wpList_look_no rfl (.tmp 32) (.tmp 33) rfl m _ M _ rfl km kn q rfl hq4 HL.out ?_)
      | (go_at_call 54; refine HB.out.mono ?_; rintro e w1 ⟨rfl, rfl⟩)
      | (go_at_call 55; refine HCC.out.mono ?_; rintro e w2 ⟨v, rfl, hO, hB⟩))
    go_ret2
    obtain ⟨q1, q2⟩ := HFIN.out _ hB
    exact ⟨v, rfl, by rw [HSZ.out] at hO; exact hO, q1, q2⟩
end Go.Proofs.Ytbgjnihkiolmlaa
