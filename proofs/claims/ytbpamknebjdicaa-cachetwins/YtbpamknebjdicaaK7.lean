import Derived.Test.YtbpamknebjdicaaK4
namespace Go.Proofs.Ytbpamknebjdicaa.K2
set_option linter.unusedVariables false
set_option linter.unusedSimpArgs false
open Go.RowKit
attribute [local go_sem ↓] Go.wp_at_zero Go.wp_at_succ


theorem MapIs.put {M : DataW Unit} {look : Int → Option Nat} (h : MapIs M look) {k : Int} (hk : wfK k) (b : Nat) : MapIs (M.put (litK k) (.lit (.int .i64 (b : Nat)))) (fun q => if q = k then some b else look q) := by
  refine ⟨h.isMap.put _ _, fun q hq hl => ?_, fun q c hq hl => ?_⟩
  · by_cases e : q = k
    · simp [e] at hl
    · rw [if_neg e] at hl
      rw [Maps.has_put_other (fun x => e (litK_inj hq hk x)), Maps.atKey_put_other (fun x => e (litK_inj hq hk x))]; exact h.no q hq hl
  · by_cases e : q = k
    · subst e
      simp at hl
      subst hl
      exact ⟨Maps.has_put_same h.isMap (keyOfK hk).1 _, Maps.atKey_put_same h.isMap (keyOfK hk).1 _ _⟩
    · rw [if_neg e] at hl
      rw [Maps.has_put_other (fun x => e (litK_inj hq hk x)), Maps.atKey_put_other (fun x => e (litK_inj hq hk x))]; exact h.yes q c hq hl
theorem MapIs.del {M : DataW Unit} {look : Int → Option Nat} (h : MapIs M look) {k : Int} (hk : wfK k) : MapIs (M.del (litK k)) (fun q => if q = k then none else look q) := by
  refine ⟨h.isMap.del _, fun q hq hl => ?_, fun q c hq hl => ?_⟩
  · by_cases e : q = k
    · subst e; exact ⟨Maps.has_del_same, Maps.atKey_del_same _⟩
    · rw [if_neg e] at hl
      rw [Maps.has_del_other (fun x => e (litK_inj hq hk x)), Maps.atKey_del_other (fun x => e (litK_inj hq hk x))]; exact h.no q hq hl
  · by_cases e : q = k
    · simp [e] at hl
    · rw [if_neg e] at hl
      rw [Maps.has_del_other (fun x => e (litK_inj hq hk x)), Maps.atKey_del_other (fun x => e (litK_inj hq hk x))]; exact h.yes q c hq hl
/-- The map alone has turned. -/
theorem CK.turn {w w' : World} {base p m n n' : Nat} {s : CSi} {M : DataW Unit} {look : Int → Option Nat} (h : CK w base p m n s) (hm : w'.ownsMap Try.prog 43 PR m n' M) (hM : MapIs M look) (hg : w.grownBy w' (some m)) : CK w' base p m n' { s with look := look } ∧ Fr (fpC p m s) w w' := by
  have hne : ∀ i, i < w.heap.size → i ≠ m → w'.heap[i]? = w.heap[i]? := fun i hi he => hg.block i hi (fun q => he (Option.some.inj q))
  refine ⟨⟨(hne p (hlt h.cell) h.pm).trans h.cell, fun b hb => (hne b (hlt (h.ents b hb)) (h.eb hb).2).trans (h.ents b hb), ⟨M, hm, hM⟩, h.kwf, h.bp, h.bm, h.bb⟩, ⟨hg.os, hg.tape, hg.output, hg.size, fun i hi hn => hne i hi (fun q => hn (q ▸ mem_m p m s))⟩⟩
theorem CK.alloc {w : World} {base p m n : Nat} {s : CSi} (h : CK w base p m n s) (o : Obj) : CK (w.alloc o) base p m n s := by
  have hne : ∀ i x, w.heap[i]? = some x → (w.alloc o).heap[i]? = some x := fun i x hx => hold hx
  obtain ⟨M, hm, hM⟩ := h.mp
  exact ⟨hne _ _ h.cell, fun b hb => hne _ _ (h.ents b hb), ⟨M, hm.alloc o, hM⟩, h.kwf, h.bp, h.bm, h.bb⟩
/-- A new entry, not in the map yet. -/
theorem CK.fresh {w : World} {base p m n : Nat} {s : CSi} (h : CK w base p m n s) (hb : base ≤ w.heap.size) {k v : Int} (hk : wfK k) : CK (w.alloc (.cells (ecells ⟨k, v, false, none, none⟩) 84)) base p m n { s with E := fun i => if i = w.heap.size then ⟨k, v, false, none, none⟩ else s.E i, bs := w.heap.size :: s.bs } := by
  have h1 := h.alloc (.cells (ecells ⟨k, v, false, none, none⟩) 84)
  have hlt' : ∀ b ∈ s.bs, b ≠ w.heap.size := fun b q e => by have := hlt (h.ents b q); omega
  refine ⟨h1.cell, fun b q => ?_, h1.mp, fun b q => ?_, h.bp, h.bm, fun b q => ?_⟩
  · rcases List.mem_cons.1 q with e | e
    · subst e; simp only [if_pos rfl]; exact hnew w _
    · simp only [if_neg (hlt' b e)]; exact h1.ents b e
  · rcases List.mem_cons.1 q with e | e
    · subst e; simp only [if_pos rfl]; exact hk
    · simp only [if_neg (hlt' b e)]; exact h.kwf b e
  · rcases List.mem_cons.1 q with e | e
    · subst e; exact hb
    · exact h.bb b e
theorem CK.entered {w w2 : World} {base p m n : Nat} {s : CSi} (h : CK w base p m n s) (hb : base ≤ w.heap.size) {k v : Int} (hk : wfK k) {M : DataW Unit} (hM : MapIs M s.look) (hm : w2.ownsMap Try.prog 43 PR m (n + 1) (M.put (litK k) (.lit (.int .i64 (w.heap.size : Nat))))) (hg : (w.alloc (.cells (ecells ⟨k, v, false, none, none⟩) 84)).grownBy w2 (some m)) :
    CK w2 base p m (n + 1) (s.enter w.heap.size k v) ∧ Fr (fpC p m s) w w2 := by
  obtain ⟨a, b⟩ := (h.fresh hb (v := v) hk).turn hm (hM.put hk w.heap.size) hg
  refine ⟨a, (Fr.alloc' _ w _).trans b (fun i hi => ?_)⟩
  simp only [fpC, List.mem_cons] at hi ⊢
  rcases hi with e | e | e | e
  · exact Or.inl (Or.inl e)
  · exact Or.inl (Or.inr (Or.inl e))
  · exact Or.inr (by omega)
  · exact Or.inl (Or.inr (Or.inr e))
theorem build_entry (k v : Int) (w : World) : (Instr.build 84 #[(0, .agg (ints .u8 (pathL k)).toArray), (1, .string (wordB v))]).run Try.prog w = .ok (.agg (ecells ⟨k, v, false, none, none⟩)) w := by kernel_rfl
theorem step_mapUpK {w : World} {ops : Array Oper} {o : Oper} {a : Act} {K : Act → World → Prop} {Q : Exit → Act → World → Prop} {E : Prop} (hgd : o.guard = none) (mo x v : Operand) (hop : o.op = Op.mapUpdate 75 mo x v)
    (m n b : Nat) (M : DataW Unit) (hm : a.eval mo = .map (some m)) (hown : w.ownsMap Try.prog 43 PR m n M) (hn : n < maxLen) (k : Int) (hx : a.eval x = argK k) (hk : wfK k) (hv : a.eval v = .pointer (some ⟨b, 0, none⟩))
    (h : ∀ w', w'.ownsMap Try.prog 43 PR m (n + 1) (M.put (litK k) (.lit (.int .i64 (b : Nat)))) → w.grownBy w' (some m) → K (a.put o.dst undef) w') :
    if Region.wanted o (yielded ops a.tmps) = true then Oper.wp Try.prog o a w K Q else E := by
  have hw : Region.wanted o (yielded ops a.tmps) = true := by simp [Region.wanted, hgd]
  rw [if_pos hw]
  obtain ⟨w', hrun, r1, r2⟩ := hown.update keyedK Try.underlying75 hn (keyOfK hk).2 (PR_some b)
  unfold Oper.wp
  simp [execOp, hop, hm, hx, hv, hrun, Result.andThen]
  exact h w' r1 r2
theorem wpList_buildK {w : World} {ops : Array Oper} {rest : List Oper} {o : Oper} {a : Act} {Q : Exit → Act → World → Prop} (hgd : o.guard = none) (x y : Operand) (ho : o.op = Op.build 84 #[(0, x), (1, y)]) (vx vy v : Value) (hx : a.eval x = vx) (hy : a.eval y = vy)
    (hrun : (Instr.build 84 #[(0, vx), (1, vy)]).run Try.prog w = .ok v w) (h : wpList Try.prog ops Q rest (a.put o.dst v) w) : wpList Try.prog ops Q (o :: rest) a w := by
  refine wpList_plain hgd fun K hK => ?_
  subst hx hy
  unfold Oper.wp
  simp [execOp, ho, hrun, Result.andThen]
  exact hK _ _ h
theorem ecN (x : Ent Int Int) : (Try.prog.info? 84).map (·.size) = some (ecells x).size := by kernel_rfl
set_option maxRecDepth 100000 in
set_option maxHeartbeats 1000000 in
theorem enter_any (w : World) (base p m n : Nat) (s : CSi) (h : CK w base p m n s) (hb : base ≤ w.heap.size) (k v : Int) (hk : wfK k) (hn : n < 4000000000000000000) :
    Calls Try.prog 40 #[.pointer (some ⟨p, 0, none⟩), argK k, argV v] w fun x w' => x = .returned (.pointer (some ⟨w.heap.size + 1, 0, none⟩)) ∧ CK w' base p m (n + 1) (s.enter (w.heap.size + 1) k v) ∧ Fr (fpC p m s) w w' := by
  obtain ⟨KL, hKL⟩ : ∃ KL, KL = ints .u8 (pathL k) := ⟨_, rfl⟩
  obtain ⟨EC, hEC⟩ : ∃ EC, EC = ecells ⟨k, v, false, none, none⟩ := ⟨_, rfl⟩
  have h0 := h.alloc (.cells KL.toArray 43)
  have hs0 : (w.alloc (.cells KL.toArray 43)).heap.size = w.heap.size + 1 := by simp
  have hr0 := hnew w (.cells KL.toArray 43)
  have hF0 := Fr.alloc' (fpC p m s) w (.cells KL.toArray 43)
  obtain ⟨M, hm, hM⟩ := h0.mp
  have hne : w.heap.size ≠ p ∧ w.heap.size ≠ m := ⟨by have := (hlt h.cell); omega, by obtain ⟨M', hm', _⟩ := h.mp; have := hm'.lt; omega⟩
  have hb0 : base ≤ (w.alloc (.cells KL.toArray 43)).heap.size := by rw [hs0]; omega
  have HE := hid (fun w2 a (b : ((w.alloc (.cells KL.toArray 43)).alloc (.cells EC 84)).grownBy w2 (some m)) => h0.entered (w2 := w2) hb0 (v := v) hk hM a (hEC ▸ b))
  have h1 := h0.alloc (.cells EC 84)
  have hm1 := hm.alloc (.cells EC 84)
  have hr1 : ((w.alloc (.cells KL.toArray 43)).alloc (.cells EC 84)).heap[w.heap.size]? = _ := hold hr0
  have hS := hid (And.intro h1.c1 hr1)
  have HK2 := hid (fun w2 (x : ((w.alloc (.cells KL.toArray 43)).alloc (.cells EC 84)).drew.grownBy w2 (some m)) => (⟨by
      have := h1.c1
      have q := x.block p (hlt h1.cell) (fun e => h1.pm (Option.some.inj e))
      rw [cell_of_row _ _ _ _ _ _ (q.trans h1.cell)]; rfl, (x.block w.heap.size (by have := hlt hr1; exact this) (fun e => hne.2 (Option.some.inj e))).trans hr1⟩ : w2.cell? ⟨p, 1, none⟩ = some (.map (some m)) ∧ w2.heap[w.heap.size]? = some (.cells KL.toArray 43 (0, 0))))
  rw [hs0] at HE
  have HBD := hid (build_entry k v)
  rw [← hKL, ← hEC] at HBD
  have HKA := hid (show argK k = .agg KL.toArray by rw [hKL]; rfl)
  have hka : argK k = .agg KL.toArray := HKA.out
  have HKN := hid (show (Try.prog.info? 43).map (·.size) = some KL.toArray.size by rw [hKL]; exact keyN k)
  have HKN2 := hid (show (Try.prog.info? 43).map (·.size) = some KL.length by rw [hKL]; exact keyN k)
  rw [hka]
  have HKW := hid hk
  have HN := hid (show n < maxLen by unfold maxLen; omega)
  have HM1 := hid hm1
  have HF0 := hid hF0
  have HR0 := hid hr0
  clear h hm hM hb hk hn h0 h1 hm1 hr1 hF0 hne hb0 hr0 hka hKL hEC
  simp only [argV] at *
  go_enter Try.func40, Try.ntmps40
  go_wp2_with (first
    | (refine wpList_load_row_w (by rfl) 43 (.tmp 4) (by rfl) w.heap.size (by rfl) 43 KL.toArray _ _ (by exact HR0.out) Try.underlying43 rfl HKN.out ?_)
    | (refine wpList_buildK (by rfl) (.tmp 8) (.tmp 9) (by rfl) (.agg KL.toArray) (.string (wordB v)) (.agg EC) (by rfl) (by rfl) (by exact HBD.out _) ?_))
  refine wp_region_noPanic ?_
  refine wp_region_held_drew (S := fun w' => w'.cell? ⟨p, 1, none⟩ = some (.map (some m)) ∧ w'.heap[w.heap.size]? = some (.cells KL.toArray 43 (0, 0))) (by kernel_rfl) hS.out (fun hHeld => ?_)
  refine wpAnyH_take (i := 0) (oi := { dst := some 12, op := Op.move (Operand.tmp 0), type := 40, pos := "cache.go:102", after := #[], guard := none }) (v := .pointer (some ⟨p, 0, none⟩)) rfl (by kernel_rfl) (by kernel_rfl) (by kernel_rfl) (fun _ _ _ h => h) (Or.inl ⟨by rfl, by intro w hS; go_simp⟩) hHeld ?_
  try simp only [Act.put, List.setIfInBounds_toArray, List.set_cons_zero, List.set_cons_succ]
  refine wpAnyH_take (i := 4) (oi := { dst := some 16, op := Op.load 43 (Operand.tmp 4), type := 43, pos := "cache.go:102", after := #[], guard := none }) (v := .agg (KL).toArray) rfl (by kernel_rfl) (by kernel_rfl) (by kernel_rfl) (fun _ _ _ h => h) (yieldsIf_load_mid (by rfl) 43 _ rfl w.heap.size (0) rfl (KL) _ (fun w hS => rng hS.2) Try.underlying43 rfl HKN2.out) hHeld ?_
  try simp only [Act.put, List.setIfInBounds_toArray, List.set_cons_zero, List.set_cons_succ]
  refine wpAnyH_take (i := 5) (oi := { dst := some 17, op := Op.move (Operand.tmp 7), type := 76, pos := "cache.go:102", after := #[], guard := none }) (v := .pointer (some ⟨w.heap.size + 1, 0, none⟩)) rfl (by kernel_rfl) (by kernel_rfl) (by kernel_rfl) (fun _ _ _ h => h) (Or.inl ⟨by rfl, by intro w hS; go_simp⟩) hHeld ?_
  try simp only [Act.put, List.setIfInBounds_toArray, List.set_cons_zero, List.set_cons_succ]
  refine wpAnyH_take (i := 1) (oi := { dst := some 13, op := Op.nilCheck (Operand.tmp 12), type := 0, pos := "cache.go:102", after := #[{ on := 0, ground := Ground.data }], guard := none }) (v := .pointer (some ⟨p, 0, none⟩)) rfl (by kernel_rfl) (by kernel_rfl) (by kernel_rfl) (fun _ _ _ h => h) (Or.inl ⟨by rfl, by intro w hS; go_simp⟩) hHeld ?_
  try simp only [Act.put, List.setIfInBounds_toArray, List.set_cons_zero, List.set_cons_succ]
  refine wpAnyH_take (i := 2) (oi := { dst := some 14, op := Op.fieldAddr 80 (Operand.tmp 13) 1, type := 0, pos := "cache.go:102", after := #[{ on := 1, ground := Ground.data }], guard := none }) (v := .pointer (some ⟨p, 1, none⟩)) rfl (by kernel_rfl) (by kernel_rfl) (by kernel_rfl) (fun _ _ _ h => h) (Or.inl ⟨by rfl, by intro w hS; go_simp⟩) hHeld ?_
  try simp only [Act.put, List.setIfInBounds_toArray, List.set_cons_zero, List.set_cons_succ]
  refine wpAnyH_take (i := 3) (oi := { dst := some 15, op := Op.load 75 (Operand.tmp 14), type := 75, pos := "cache.go:102", after := #[{ on := 2, ground := Ground.data }], guard := none }) (v := .map (some m)) rfl (by kernel_rfl) (by kernel_rfl) (by kernel_rfl) (fun _ _ _ h => h) (Or.inl ⟨by rfl, by intro w hS; have hc := hS.1; go_simp⟩) hHeld ?_
  try simp only [Act.put, List.setIfInBounds_toArray, List.set_cons_zero, List.set_cons_succ]
  refine wpAnyH_ready (rs := [6]) (by kernel_rfl) (by simp) ?_
  refine (AllReadyH.cons (o := { dst := none, op := Op.mapUpdate 75 (Operand.tmp 15) (Operand.tmp 16) (Operand.tmp 17), type := 0, pos := "cache.go:102", after := #[{ on := 3, ground := Ground.data }, { on := 4, ground := Ground.data }, { on := 5, ground := Ground.data }, { on := 0, ground := Ground.phase }, { on := 1, ground := Ground.phase }, { on := 2, ground := Ground.phase }, { on := 3, ground := Ground.phase }, { on := 4, ground := Ground.phase }, { on := 5, ground := Ground.phase }], guard := none }) rfl (fun K hK => ?_) AllReadyH.nil)
  refine step_mapUpK (by rfl) (.tmp 15) (.tmp 16) (.tmp 17) (by rfl) m n (w.heap.size + 1) M (by rfl) HM1.out.drew HN.out k (by rw [HKA.out]; rfl) HKW.out (by rfl) ?_
  intro w2 ho2 hg2
  have HR := hid (HE.out w2 ho2 ⟨hg2.os, hg2.tape, hg2.output, hg2.size, hg2.block⟩)
  refine hK.out _ _ (HK2.out w2 hg2) (fun hHeld2 => ?_)
  clear hK K hHeld
  have hHeld := hHeld2
  clear hHeld2
  clear HE HK2 hg2 ho2
  try simp only [Act.put, List.setIfInBounds_toArray, List.set_cons_zero, List.set_cons_succ]
  refine wpAnyH_done (by kernel_rfl) ?_ _
  refine NoPanic.normal ?_
  go_wp2
  go_ret
  exact ⟨rfl, HR.out.1, HF0.out.trans' HR.out.2⟩
theorem step_drop {w : World} {ops : Array Oper} {o : Oper} {a : Act} {K : Act → World → Prop} {Q : Exit → Act → World → Prop} {E : Prop} (hgd : o.guard = none) (mo x : Operand) (hop : o.op = Op.call { callee := Callee.builtin Builtin.delete, args := #[mo, x], argTypes := #[75, 43] })
    (base p m n : Nat) (s : CSi) (h : CK w base p m n s) (hm : a.eval mo = .map (some m)) (k : Int) (hx : a.eval x = argK k) (hk : wfK k)
    (hK : ∀ w', CK w' base p m n (s.drop k) → Fr (fpC p m s) w w' → K (a.put o.dst (.tuple #[])) w') :
    if Region.wanted o (yielded ops a.tmps) = true then Oper.wp Try.prog o a w K Q else E := by
  have hw : Region.wanted o (yielded ops a.tmps) = true := by simp [Region.wanted, hgd]
  rw [if_pos hw]
  obtain ⟨M, hown, hM⟩ := h.mp
  obtain ⟨w', hrun, r1, r2⟩ := hown.drop keyedK Try.underlying75 (keyOfK hk).2 o.type
  unfold Oper.wp
  simp [execOp, hop, resolve, invoke, builtin, hm, hx, hrun, Result.andThen]
  obtain ⟨a1, a2⟩ := h.turn r1 (hM.del hk) r2.grown
  exact hK w' a1 a2
theorem CK.ek {w : World} {base p m n : Nat} {s : CSi} (h : CK w base p m n s) {b : Nat} (hb : b ∈ s.bs) : w.rangeAt b 0 (ints .u8 (pathL (s.E b).key)) := fun j v hv => by
  rw [Nat.zero_add, cell_of_row _ _ _ _ _ _ (h.ents b hb)]
  unfold ecells
  rw [List.getElem?_toArray, List.getElem?_append_left (List.getElem?_eq_some_iff.1 hv).1]
  exact hv
theorem CK.setGone {w : World} {base p m n : Nat} {s : CSi} (h : CK w base p m n s) (v : Int) : CK (w.setCell ⟨p, 10, none⟩ (.int .i64 v)) base p m n { s with gone := v } := h.setP _ _ (by simp [ccells]) rfl rfl rfl
theorem CK.setHits {w : World} {base p m n : Nat} {s : CSi} (h : CK w base p m n s) (v : Int) : CK (w.setCell ⟨p, 8, none⟩ (.int .i64 v)) base p m n { s with hits := v } := h.setP _ _ (by simp [ccells]) rfl rfl rfl
theorem CK.setMisses {w : World} {base p m n : Nat} {s : CSi} (h : CK w base p m n s) (v : Int) : CK (w.setCell ⟨p, 9, none⟩ (.int .i64 v)) base p m n { s with misses := v } := h.setP _ _ (by simp [ccells]) rfl rfl rfl
set_option maxHeartbeats 400000 in
theorem use_held (w : World) (base p m n : Nat) (s : CSi) (h : CK w base p m n s) (e : Nat) (he : e ∈ s.bs) (hh : (s.E e).held = true) :
    Calls Try.prog 61 #[.pointer (some ⟨p, 0, none⟩), .pointer (some ⟨e, 0, none⟩)] w fun x w' => x = .returned (.tuple #[]) ∧ w = w' := by
  have c1 := h.eh he
  rw [hh] at c1
  clear h hh he
  go_enter Try.func61, Try.ntmps61
  go_wp2
  refine bodyPost_ret (results_none rfl _ _ _) rfl ?_
  exact ⟨rfl, rfl⟩
set_option maxHeartbeats 400000 in
theorem use_clean (w : World) (base p m n : Nat) (s : CSi) (h : CK w base p m n s) (L : Bool → List Nat) (hR : Ref s L none) (A B : List Nat) (e : Nat) (hL : L true = A ++ e :: B) (hl : (L true).length < 4000000000000000000) :
    Calls Try.prog 61 #[.pointer (some ⟨p, 0, none⟩), .pointer (some ⟨e, 0, none⟩)] w fun x w' => x = .returned (.tuple #[]) ∧ ∃ t, LN base p m n s w t w' ∧ Sm s t ∧ Ref t (updL L true (e :: (A ++ B))) none := by
  obtain ⟨k1, k2, k3, k4, k5, k6⟩ := hR.takeOk hL hl
  have c1 := h.eh k1
  rw [hR.flag true e (by rw [hL]; simp)] at c1
  have H1 := hid (takeOut_any w base p m n s h true e k1 k2 k3 k4 k5 k6 2 rfl)
  have hR1 := hR.take hL
  have hl1 : (updL L true (A ++ B) true).length < 4000000000000000000 := by rw [updL_same]; rw [hL] at hl; simp at hl ⊢; omega
  obtain ⟨j1, j2, j3⟩ := hR1.putOk true hl1
  have H2 := hid (fun w1 (q : LN base p m n s w (s.takeOut true e) w1) => pushFirst_any w1 base p m n _ q.1 true e (by rw [q.2.2]; exact k1) j1 j3 2 rfl)
  have hR2 := hR1.pushFirst (r := true) (by rw [(Sm.takeOut s true e).held]; exact hR.flag true e (by rw [hL]; simp))
  rw [updL_same, show updL (updL L true (A ++ B)) true (e :: (A ++ B)) = updL L true (e :: (A ++ B)) by funext q; unfold updL; split <;> rfl] at hR2
  have HR := hid hR2
  have hS := (Sm.takeOut s true e).trans (Sm.link (s.takeOut true e) true none e ((s.takeOut true e).row true).first)
  clear h hR k1 k2 k3 k4 k5 k6 j1 j2 j3 hR1 hR2 hl hl1 hL
  simp only [Bool.not_true] at c1
  go_enter Try.func61, Try.ntmps61
  go_wp2_with (first
    | (go_at_call 41; refine H1.out.mono ?_; rintro x w1 ⟨rfl, hl1⟩; clear H1)
    | (go_at_call 62; refine (H2.out w1 hl1).mono ?_; rintro x w2 ⟨rfl, hl2⟩; have HL := hid (hl1.trans hl2); clear H2 hl1 hl2))
  go_end0
  exact ⟨rfl, _, HL.out, hS, HR.out⟩
end Go.Proofs.Ytbpamknebjdicaa.K2
