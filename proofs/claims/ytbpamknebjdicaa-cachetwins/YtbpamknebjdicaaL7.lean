import Derived.Test.YtbpamknebjdicaaL4
import Derived.Test.YtbpamknebjdicaaL6
namespace Go.Proofs.Ytbpamknebjdicaa
set_option linter.unusedVariables false
set_option linter.unusedSimpArgs false
open Go.RowKit
attribute [local go_sem ↓] Go.wp_at_zero Go.wp_at_succ

theorem MapIs.put {M : DataW Unit} {look : Int → Option Nat} (h : MapIs M look) {k : Int} (hk : wfK k) (b : Nat) : MapIs (M.put (litK k) (.lit (.int .i64 (b : Nat)))) (fun q => if q = k then some b else look q) := by
  refine ⟨h.isMap.put _ _, fun q hq hl => ?_, fun q c hq hl => ?_⟩
  · by_cases e : q = k
    · simp [e] at hl
    · rw [if_neg e] at hl
      rw [Maps.has_put_other (fun x => e (litK_inj x)), Maps.atKey_put_other (fun x => e (litK_inj x))]; exact h.no q hq hl
  · by_cases e : q = k
    · subst e
      simp at hl
      subst hl
      exact ⟨Maps.has_put_same h.isMap (keyOfK hk).1 _, Maps.atKey_put_same h.isMap (keyOfK hk).1 _ _⟩
    · rw [if_neg e] at hl
      rw [Maps.has_put_other (fun x => e (litK_inj x)), Maps.atKey_put_other (fun x => e (litK_inj x))]; exact h.yes q c hq hl
theorem MapIs.del {M : DataW Unit} {look : Int → Option Nat} (h : MapIs M look) {k : Int} : MapIs (M.del (litK k)) (fun q => if q = k then none else look q) := by
  refine ⟨h.isMap.del _, fun q hq hl => ?_, fun q c hq hl => ?_⟩
  · by_cases e : q = k
    · subst e; exact ⟨Maps.has_del_same, Maps.atKey_del_same _⟩
    · rw [if_neg e] at hl
      rw [Maps.has_del_other (fun x => e (litK_inj x)), Maps.atKey_del_other (fun x => e (litK_inj x))]; exact h.no q hq hl
  · by_cases e : q = k
    · simp [e] at hl
    · rw [if_neg e] at hl
      rw [Maps.has_del_other (fun x => e (litK_inj x)), Maps.atKey_del_other (fun x => e (litK_inj x))]; exact h.yes q c hq hl
/-- The map alone has turned. -/
theorem CK.turn {w w' : World} {base p m n n' : Nat} {s : CSi} {M : DataW Unit} {look : Int → Option Nat} (h : CK w base p m n s) (hm : w'.ownsMap Try.prog 3 PR m n' M) (hM : MapIs M look) (hg : w.grownBy w' (some m)) : CK w' base p m n' { s with look := look } ∧ Fr (fpC p m s) w w' := by
  have hne : ∀ i, i < w.heap.size → i ≠ m → w'.heap[i]? = w.heap[i]? := fun i hi he => hg.block i hi (fun q => he (Option.some.inj q))
  refine ⟨⟨(hne p (hlt h.cell) h.pm).trans h.cell, fun b hb => (hne b (hlt (h.ents b hb)) (h.eb hb).2).trans (h.ents b hb), ⟨M, hm, hM⟩, h.kwf, h.bp, h.bm, h.bb⟩, ⟨hg.os, hg.tape, hg.output, hg.size, fun i hi hn => hne i hi (fun q => hn (q ▸ mem_m p m s))⟩⟩
theorem CK.alloc {w : World} {base p m n : Nat} {s : CSi} (h : CK w base p m n s) (o : Obj) : CK (w.alloc o) base p m n s := by
  have hne : ∀ i x, w.heap[i]? = some x → (w.alloc o).heap[i]? = some x := fun i x hx => hold hx
  obtain ⟨M, hm, hM⟩ := h.mp
  exact ⟨hne _ _ h.cell, fun b hb => hne _ _ (h.ents b hb), ⟨M, hm.alloc o, hM⟩, h.kwf, h.bp, h.bm, h.bb⟩
/-- A new entry, not in the map yet. -/
theorem CK.fresh {w : World} {base p m n : Nat} {s : CSi} (h : CK w base p m n s) (hb : base ≤ w.heap.size) {k v : Int} (hk : wfK k) : CK (w.alloc (.cells (ecells ⟨k, v, false, none, none⟩) 71)) base p m n { s with E := fun i => if i = w.heap.size then ⟨k, v, false, none, none⟩ else s.E i, bs := w.heap.size :: s.bs } := by
  have h1 := h.alloc (.cells (ecells ⟨k, v, false, none, none⟩) 71)
  have hlt' : ∀ b ∈ s.bs, b ≠ w.heap.size := fun b q e => by have := hlt (h.ents b q); omega
  refine ⟨h1.cell, fun b q => ?_, h1.mp, fun b q => ?_, h.bp, h.bm, fun b q => ?_⟩
  · rcases List.mem_cons.1 q with e | e
    · subst e; simp only [if_pos rfl]; exact hnew w _
    · simp only [if_neg (hlt' b e)]; exact h1.ents b e
  · rcases List.mem_cons.1 q with e | e
    · subst e; simp only [if_pos rfl]; exact hk
    · simp only [if_neg (hlt' b e)]; exact h.kwf b e
  · rcases List.mem_cons.1 q with e | e
    · subst e; exact hb
    · exact h.bb b e
theorem Fr.alloc' (F : List Nat) (w : World) (o : Obj) : Fr F w (w.alloc o) := Fr.of_below ((Below.refl _ w).alloc (Nat.le_refl _) _)
theorem CK.entered {w w2 : World} {base p m n : Nat} {s : CSi} (h : CK w base p m n s) (hb : base ≤ w.heap.size) {k v : Int} (hk : wfK k) {M : DataW Unit} (hM : MapIs M s.look) (hm : w2.ownsMap Try.prog 3 PR m (n + 1) (M.put (litK k) (.lit (.int .i64 (w.heap.size : Nat))))) (hg : (w.alloc (.cells (ecells ⟨k, v, false, none, none⟩) 71)).grownBy w2 (some m)) :
    CK w2 base p m (n + 1) (s.enter w.heap.size k v) ∧ Fr (fpC p m s) w w2 := by
  obtain ⟨a, b⟩ := (h.fresh hb (v := v) hk).turn hm (hM.put hk w.heap.size) hg
  refine ⟨a, (Fr.alloc' _ w _).trans b (fun i hi => ?_)⟩
  simp only [fpC, List.mem_cons] at hi ⊢
  rcases hi with e | e | e | e
  · exact Or.inl (Or.inl e)
  · exact Or.inl (Or.inr (Or.inl e))
  · exact Or.inr (by omega)
  · exact Or.inl (Or.inr (Or.inr e))
theorem build_entry (k v : Int) (w : World) : (Instr.build 71 #[(0, .int .i64 k), (1, .int .i64 v)]).run Try.prog w = .ok (.agg (ecells ⟨k, v, false, none, none⟩)) w := by kernel_rfl
set_option maxHeartbeats 400000 in
theorem enter_any (w : World) (base p m n : Nat) (s : CSi) (h : CK w base p m n s) (hb : base ≤ w.heap.size) (k v : Int) (hk : wfK k) (hn : n < 4000000000000000000) :
    Calls Try.prog 33 #[.pointer (some ⟨p, 0, none⟩), argK k, argV v] w fun x w' => x = .returned (.pointer (some ⟨w.heap.size, 0, none⟩)) ∧ CK w' base p m (n + 1) (s.enter w.heap.size k v) ∧ Fr (fpC p m s) w w' := by
  obtain ⟨M, hm, hM⟩ := h.mp
  have HE := hid (fun w2 a b => h.entered (w2 := w2) hb (v := v) hk hM a b)
  have c1 := (h.alloc (.cells (ecells ⟨k, v, false, none, none⟩) 71)).c1
  have hm1 := hm.alloc (.cells (ecells ⟨k, v, false, none, none⟩) 71)
  have hbd := build_entry k v
  have HK := hid (keyOfK hk).2
  have HN := hid (show n < maxLen by unfold maxLen; omega)
  clear h hm hM hb hk hn
  simp only [ecells, argK, argV, optr] at *
  go_enter Try.func33, Try.ntmps33
  go_wp2_with (first
    | (at_mapUpdate; refine wpList_mapUpdate_own _ rfl _ _ _ 63 rfl 3 64 keyedK Try.underlying63 PR m n M rfl hm1 HN.out _ _ (litK k) rfl rfl HK.out (.lit (.int .i64 (w.heap.size : Nat))) [] rfl ?_; intro w2 ho2 hg2; have HR := hid (HE.out w2 ho2 hg2); clear ho2 hg2 HE))
  go_ret
  exact ⟨rfl, HR.out.1, HR.out.2⟩
theorem step_drop {w : World} {ops : Array Oper} {o : Oper} {a : Act} {K : Act → World → Prop} {Q : Exit → Act → World → Prop} {E : Prop} (hgd : o.guard = none) (mo x : Operand) (hop : o.op = Op.call { callee := Callee.builtin Builtin.delete, args := #[mo, x], argTypes := #[63, 3] })
    (base p m n : Nat) (s : CSi) (h : CK w base p m n s) (hm : a.eval mo = .map (some m)) (k : Int) (hx : a.eval x = argK k) (hk : wfK k)
    (hK : ∀ w', CK w' base p m n (s.drop k) → Fr (fpC p m s) w w' → K (a.put o.dst (.tuple #[])) w') :
    if Region.wanted o (yielded ops a.tmps) = true then Oper.wp Try.prog o a w K Q else E := by
  have hw : Region.wanted o (yielded ops a.tmps) = true := by simp [Region.wanted, hgd]
  rw [if_pos hw]
  obtain ⟨M, hown, hM⟩ := h.mp
  obtain ⟨w', hrun, r1, r2⟩ := hown.drop keyedK Try.underlying63 (keyOfK hk).2 o.type
  unfold Oper.wp
  simp [execOp, hop, resolve, invoke, builtin, hm, hx, hrun, Result.andThen]
  obtain ⟨a1, a2⟩ := h.turn r1 (hM.del (k := k)) r2.grown
  exact hK w' a1 a2
theorem CK.ek {w : World} {base p m n : Nat} {s : CSi} (h : CK w base p m n s) {b : Nat} (hb : b ∈ s.bs) : w.cell? ⟨b, 0, none⟩ = some (argK (s.E b).key) := by rw [cell_of_row _ _ _ _ _ _ (h.ents b hb)]; rfl
theorem CK.setGone {w : World} {base p m n : Nat} {s : CSi} (h : CK w base p m n s) (v : Int) : CK (w.setCell ⟨p, 10, none⟩ (.int .i64 v)) base p m n { s with gone := v } := h.setP _ _ (by simp [ccells]) rfl rfl rfl
theorem CK.setHits {w : World} {base p m n : Nat} {s : CSi} (h : CK w base p m n s) (v : Int) : CK (w.setCell ⟨p, 8, none⟩ (.int .i64 v)) base p m n { s with hits := v } := h.setP _ _ (by simp [ccells]) rfl rfl rfl
theorem CK.setMisses {w : World} {base p m n : Nat} {s : CSi} (h : CK w base p m n s) (v : Int) : CK (w.setCell ⟨p, 9, none⟩ (.int .i64 v)) base p m n { s with misses := v } := h.setP _ _ (by simp [ccells]) rfl rfl rfl
theorem Ref.takeOk {s : CSi} {L : Bool → List Nat} (h : Ref s L none) {r : Bool} {A B : List Nat} {e : Nat} (hL : L r = A ++ e :: B) (hl : (L r).length < 4000000000000000000) :
    e ∈ s.bs ∧ inBs s (s.E e).prv ∧ inBs s (s.E e).nxt ∧ (s.E e).prv ≠ some e ∧ (s.E e).nxt ≠ some e ∧ (0 < (s.row r).count ∧ (s.row r).count < 4000000000000000000) := by
  have hr := h.row r
  have hn := h.nd r
  have hd := h.dom r
  rw [hL] at hr hn hd hl
  have hn2 := List.nodup_append.1 hn
  obtain ⟨a, b⟩ := hr.at
  rw [a, b]
  refine ⟨hd e (by simp), fun x hx => hd x (by simp [List.mem_of_getLast? hx]), fun x hx => hd x (by simp [List.mem_of_head? hx]), fun q => hn2.2.2 e (List.mem_of_getLast? q) e (by simp) rfl, fun q => (List.nodup_cons.1 hn2.2.1).1 (List.mem_of_head? q), ?_⟩
  rw [hr.count]
  simp at hl ⊢
  omega
theorem Ref.putOk {s : CSi} {L : Bool → List Nat} {x : Option Nat} (h : Ref s L x) (r : Bool) (hl : (L r).length < 4000000000000000000) : inBs s (s.row r).first ∧ inBs s (s.row r).last ∧ (0 ≤ (s.row r).count ∧ (s.row r).count < 4000000000000000000) := by
  have hr := h.row r
  rw [hr.first, hr.last, hr.count]
  exact ⟨fun x hx => h.dom r x (List.mem_of_head? hx), fun x hx => h.dom r x (List.mem_of_getLast? hx), by omega, by omega⟩
set_option maxHeartbeats 400000 in
theorem use_held (w : World) (base p m n : Nat) (s : CSi) (h : CK w base p m n s) (e : Nat) (he : e ∈ s.bs) (hh : (s.E e).held = true) :
    Calls Try.prog 31 #[.pointer (some ⟨p, 0, none⟩), .pointer (some ⟨e, 0, none⟩)] w fun x w' => x = .returned (.tuple #[]) ∧ w = w' := by
  have c1 := h.eh he
  rw [hh] at c1
  clear h hh he
  go_enter Try.func31, Try.ntmps31
  go_wp2
  refine bodyPost_ret (results_none rfl _ _ _) rfl ?_
  exact ⟨rfl, rfl⟩
set_option maxHeartbeats 400000 in
theorem use_clean (w : World) (base p m n : Nat) (s : CSi) (h : CK w base p m n s) (L : Bool → List Nat) (hR : Ref s L none) (A B : List Nat) (e : Nat) (hL : L true = A ++ e :: B) (hl : (L true).length < 4000000000000000000) :
    Calls Try.prog 31 #[.pointer (some ⟨p, 0, none⟩), .pointer (some ⟨e, 0, none⟩)] w fun x w' => x = .returned (.tuple #[]) ∧ ∃ t, LN base p m n s w t w' ∧ Sm s t ∧ Ref t (updL L true (e :: (A ++ B))) none := by
  obtain ⟨k1, k2, k3, k4, k5, k6⟩ := hR.takeOk hL hl
  have c1 := h.eh k1
  rw [hR.flag true e (by rw [hL]; simp)] at c1
  have H1 := hid (takeOut_any w base p m n s h true e k1 k2 k3 k4 k5 k6 2 rfl)
  have hR1 := hR.take hL
  have hl1 : (updL L true (A ++ B) true).length < 4000000000000000000 := by rw [updL_same]; rw [hL] at hl; simp at hl ⊢; omega
  obtain ⟨j1, j2, j3⟩ := hR1.putOk true hl1
  have H2 := hid (fun w1 (q : LN base p m n s w (s.takeOut true e) w1) => pushFirst_any w1 base p m n _ q.1 true e (by rw [q.2.2]; exact k1) j1 j3 2 rfl)
  have hR2 := hR1.pushFirst (r := true) (by rw [(Sm.takeOut s true e).held]; exact hR.flag true e (by rw [hL]; simp))
  rw [updL_same, show updL (updL L true (A ++ B)) true (e :: (A ++ B)) = updL L true (e :: (A ++ B)) by funext q; unfold updL; split <;> rfl] at hR2
  have HR := hid hR2
  have hS := (Sm.takeOut s true e).trans (Sm.link (s.takeOut true e) true none e ((s.takeOut true e).row true).first)
  clear h hR k1 k2 k3 k4 k5 k6 j1 j2 j3 hR1 hR2 hl hl1 hL
  simp only [Bool.not_true] at c1
  go_enter Try.func31, Try.ntmps31
  go_wp2_with (first
    | (go_at_call 36; refine H1.out.mono ?_; rintro x w1 ⟨rfl, hl1⟩; clear H1)
    | (go_at_call 32; refine (H2.out w1 hl1).mono ?_; rintro x w2 ⟨rfl, hl2⟩; have HL := hid (hl1.trans hl2); clear H2 hl1 hl2))
  go_end0
  exact ⟨rfl, _, HL.out, hS, HR.out⟩
end Go.Proofs.Ytbpamknebjdicaa
