import Derived.Test.YtcifbnldohmbnabWx
import Derived.Test.YtcifbnldohmbnabCx
import Derived.Test.YtcifbnldohmbnabSt
namespace Go.Proofs.Ytcifbnldohmbnab
set_option linter.unusedVariables false
set_option linter.unusedSimpArgs false
open Go.RowKit
attribute [local go_sem ↓] Go.wp_at_zero Go.wp_at_succ

theorem step_store_mid {P : Program} {ops : Array Oper} {o : Oper} {a : Act} {w : World} {K : Act → World → Prop} {Q : Exit → Act → World → Prop} {E : Prop} (hw : Region.wanted o (yielded ops a.tmps) = true) (ty : TypeId) (x y : Operand) (ho : o.op = .store ty x y)
    (b off : Nat) (cells : Array Value) (hx : a.eval x = .pointer (some ⟨b, off, none⟩)) (hy : a.eval y = .agg cells)
    (ht : w.there b off cells.size) (hi : (P.info? ty).map (·.size) = some cells.size) (h1 : cells.all (·.oneCell') = true)
    (h : K (a.put o.dst undef) (w.setCells b off cells.toList)) : if Region.wanted o (yielded ops a.tmps) = true then Oper.wp P o a w K Q else E := by
  rw [if_pos hw]
  exact wp_store_mid ty x y ho b off cells hx hy ht hi h1 h
structure RmL (w : World) (M k : Nat) (cs : List Chg) (os : List MC) (rs : List RC) (vv : Value) : Prop where
  ol : os.length = cs.length + 2
  l34 : Len34 os
  row : RowM w M os
  tk : os.take k = rs.map rmM
  sn : rs.map Prod.snd = cs.take k
  val : ∀ x ∈ rs, w.heap[x.1]? = some (.cells (ints .u8 (rm x.2.val)).toArray 5 (0, 0))
  nod : (rs.map Prod.fst).Nodup
  gt : ∀ x ∈ rs, M < x.1
  vs : OwnS w M vv (rs.map rmV)
theorem RmL.below {w w1 : World} {M k : Nat} {cs : List Chg} {os : List MC} {rs : List RC} {vv : Value} (h : RmL w M k cs os rs vv) (hb : Below w.heap.size w w1) : RmL w1 M k cs os rs vv :=
  ⟨h.ol, h.l34, hbel hb h.row (hlt_ h.row), h.tk, h.sn, fun x hx => hbel hb (h.val x hx) (hlt_ (h.val x hx)), h.nod, h.gt, h.vs.below hb⟩
theorem RmL.step {wr w1 w2 : World} {M k : Nat} {cs : List Chg} {os : List MC} {rs : List RC} {vv vv2 : Value} {c : Chg} (h : RmL wr M k cs os rs vv) (hk : k < cs.length) (hb1 : Below wr.heap.size wr w1) (hG : w1.heap[wr.heap.size]? = some (.cells (ints .u8 (rm c.val)).toArray 5 (0, 0)))
    (hV : OwnS w2 M vv2 (rs.map rmV ++ [rmV (wr.heap.size, c)])) (hK : ∀ q, q < w1.heap.size → vv.ownBlock ≠ some q → w2.heap[q]? = w1.heap[q]?) (hc : cs.getD k dC = c) (ok : OkC c) :
    RowM w2 M os ∧ ∀ w3, w3 = w2.drew.setCells M (k * 34) (encM (rmM (wr.heap.size, c))) → RmL w3 M (k + 1) cs (os.set k (rmM (wr.heap.size, c))) (rs ++ [(wr.heap.size, c)]) vv2 := by
  have h1 := h.below hb1
  have hM : M < wr.heap.size := hlt_ h.row
  have ne5 : ∀ {q : Nat} {x : Array Value}, w1.heap[q]? = some (.cells x 5 (0, 0)) → w2.heap[q]? = some (.cells x 5 (0, 0)) := fun {q x} hx => by
    rw [hK q (hlt_ hx) (fun e => by obtain ⟨_, _, y, hy⟩ := h1.vs.heap q e; exact ne_of_type hx hy (by decide) rfl)]; exact hx
  have r2 : RowM w2 M os := by
    unfold RowM
    rw [hK M (hlt_ h1.row) (fun e => by obtain ⟨_, _, y, hy⟩ := h1.vs.heap M e; exact ne_of_type h1.row hy (by decide) rfl)]; exact h1.row
  refine ⟨r2, ?_⟩
  rintro w3 rfl
  have hkl : k < os.length := by rw [h.ol]; omega
  have lm : (encM (rmM (wr.heap.size, c))).length = 34 := rmM_len ok
  obtain ⟨r3, b3, o3⟩ := (show RowM w2.drew M os from r2).put h.l34 k hkl _ lm (rmM_one _)
  refine ⟨by rw [List.length_set]; exact h.ol, h.l34.set k _ lm, r3, ?_, ?_, ?_, ?_, ?_, ?_⟩
  · rw [take_set_snoc os k _ hkl, h.tk, List.map_append]; rfl
  · rw [List.map_append, h.sn, take_snoc cs k hk, hc]; rfl
  · intro x hx
    rcases List.mem_append.1 hx with hx | hx
    · rw [o3 x.1 (by have := h.gt x hx; omega)]; exact ne5 (h1.val x hx)
    · rw [List.mem_singleton] at hx; subst hx
      rw [o3 _ (by show wr.heap.size ≠ M; omega)]; exact ne5 hG
  · rw [List.map_append, List.nodup_append]
    refine ⟨h.nod, by simp, fun a ha b hb e => ?_⟩
    simp only [List.map_cons, List.map_nil, List.mem_singleton] at hb
    obtain ⟨x, hx, rfl⟩ := List.mem_map.1 ha
    have := hlt_ (h.val x hx)
    omega
  · intro x hx
    rcases List.mem_append.1 hx with hx | hx
    · exact h.gt x hx
    · rw [List.mem_singleton] at hx; subst hx; exact hM
  · rw [List.map_append]
    refine hV.of_heap fun q hq => ?_
    rw [o3 q (fun e => by subst e; obtain ⟨_, _, y, hy⟩ := hV.heap q hq; exact ne_of_type hy r2 (by decide) rfl)]; rfl
set_option maxRecDepth 100000 in
set_option maxHeartbeats 2000000 in
theorem roomyChanges_any (w : World) (cs : List Chg) (sp : Option Addr) (cap b o : Nat) (ms : List MC) (hC : Chs w sp cap cs b o ms) (hok : ∀ c ∈ cs, OkC c) (hlen : cs.length ≤ 2199023255488) :
    Calls Try.prog 20 #[.slice sp cs.length cap] w fun e w' => ∃ rs h vv, e = .returned (.tuple #[.slice (some ⟨w.heap.size, 0, none⟩) (cs.length + 2) (cs.length + 2), vv]) ∧ rs.map Prod.snd = cs ∧ Room w' w.heap.size w'.heap.size w.heap.size h rs ∧ OwnS w' w.heap.size vv (rs.map rmV) ∧ Below w.heap.size w w' := by
  have i0 : (cs.length : Int) ≤ 2199023255488 := by omega
  obtain ⟨ic, z, hi5, hz5, hzc, hs5, hy5⟩ := Try.infoZ
  have HI := hid hi5
  have K1 := hid (show ic.bytes * (cs.length + 2) ≤ 281474976710656 by rw [hy5]; omega)
  have K2 := hid (show cs.length + 2 ≤ maxLen by unfold maxLen; omega)
  have HC := hid hzc
  have HLEN := hid hlen
  clear hi5 hy5 hzc hlen
  go_enter Try.func20, Try.ntmps20
  go_wp2_with (first
    | (refine wpList_make_full _ rfl _ _ 28 rfl w.heap.size 52 ic z 34 Try.underlying28 HI.out hz5 hs5 .i64 .i64 _ _ (cs.length + 2) rfl rfl (by push_cast; rfl) (by push_cast; rfl) K1.out K2.out (Nat.le_refl _) ?_; intro w1 hO1 hg1; have hB1 := grown_keeps hg1 (fun k hk => by cases hk) (Nat.le_refl w.heap.size); rw [HC.out] at hO1; have hr1 := made_rowM hO1; clear hg1 hO1))
  clear K1 HI HC hz5 hs5
  generalize hM : w.heap.size = M at *
  have HM := hid hM
  clear hM
  go_loopw [5, 6] (fun vs iv wr => ∃ (k : Nat) (os : List MC) (rs : List RC) (vv : Value), k ≤ cs.length ∧ iv = .int .i64 k ∧ vv = vs ∧ RmL wr M k cs os rs vv ∧ Below M w wr) (fun _ iv _ => cs.length - (intOf iv).toNat)
  case atStart => exact ⟨0, List.replicate (cs.length + 2) dM, [], _, by omega, rfl, rfl, ⟨by simp, len34_rep _, hr1, rfl, rfl, (fun x hx => by simp at hx), List.nodup_nil, (fun x hx => by simp at hx), OwnS.nil _ _⟩, hB1⟩
  case round =>
  clear hr1 hB1
  obtain ⟨k, os, rs, vv, hk, rfl, rfl, hL, hB⟩ := hrel
  by_cases hlt : k < cs.length
  · have i1 : (k : Int) < (cs.length : Int) := by omega
    obtain ⟨hb, rfl⟩ := hC.pos (by omega)
    have hbM : b < M := by rw [← HM.out]; exact hb
    obtain ⟨sp', c', r1, r2, r3, r4, r5, r6, _⟩ := hC.at k hlt
    have hoc : OkC (cs.getD k dC) := hok _ (getD_mem' cs dC k hlt)
    have hcc : cs.getD k dC = cs.getD k dC := rfl
    have HSTEP := hid (fun (w1 w2 : World) (vv2 : Value) (hb1 : Below wr.heap.size wr w1) (hG : w1.heap[wr.heap.size]? = some (.cells (ints .u8 (rm (cs.getD k dC).val)).toArray 5 (0, 0))) (hV : OwnS w2 M vv2 (rs.map rmV ++ [rmV (wr.heap.size, cs.getD k dC)])) (hK : ∀ q, q < w1.heap.size → vv.ownBlock ≠ some q → w2.heap[q]? = w1.heap[q]?) => hL.step hlt hb1 hG hV hK rfl hoc)
    have HOC := hid hoc
    have HOL := hid hL.ol
    have hl34 := hL.l34
    have hMr : M < wr.heap.size := hlt_ hL.row
    have hLs := hid (show (rs.map rmV).length + 1 ≤ 4000000000000 by have a1 := congrArg List.length hL.sn; have a2 := HLEN.out; simp at a1 ⊢; omega)
    have hvS := hL.vs
    clear hL hcc hoc
    have hvl := HOC.out.2.2.2
    have c3 := (hB.cell (p := ⟨b, o + k * 34 + 33, none⟩) hbM).trans r3
    generalize cs.getD k dC = c at *
    have KR := hid (roomy_any wr c.val sp' c' (r5.below hB (by rw [HM.out]; exact Nat.le_refl _)) (by omega))
    have hik : (Try.prog.info? 26).map (·.size) = some (ints .u8 c.key).length := by rw [keySize]; simp [r6, ints]
    have SM := hid (show (encM (rmM (wr.heap.size, c))).toArray.size = 34 by simpa using rmM_len (x := (wr.heap.size, c)) HOC.out)
    obtain ⟨sv, cv, gv, hvv, _, _, _, _⟩ := id hvS.at
    rw [List.length_map] at hvv
    subst hvv
    go_wp2_with fail
    refine KR.out.mono ?_
    rintro e w1 ⟨rfl, hG, hb1⟩
    clear KR c3
    have hv1 := hvS.below hb1
    have hBw1 : Below M w w1 := hB.trans (hb1.mono (by omega))
    have hs1 : M ≤ w1.heap.size := by have := hb1.size; omega
    generalize hGG : wr.heap.size = G at *
    go_wp2_with (first | (at_builtin; refine wpList_pushS rfl (.tmp 25) (.tmp 27) rfl M _ (rs.map rmV) [rmV (G, c)] rfl hv1 rfl (by intro y hy; rw [List.mem_singleton] at hy; subst hy; rfl) hLs.out hs1 _ _ ?_; intro vv2 w2 hO2 hBp hKp hsz2))
    obtain ⟨r2M, hST⟩ := HSTEP.out w1 w2 vv2 hb1 hG hO2 hKp
    have HST := hid hST
    have hB2 : Below M w w2 := hBw1.trans hBp
    obtain ⟨_, b3, _⟩ := (show RowM w2.drew M os from r2M).put hl34 k (by rw [HOL.out]; omega) _ (rmM_len (x := (G, c)) HOC.out) (rmM_one _)
    have HT34 := hid ((show RowM w2.drew M os from r2M).there hl34 k (by rw [HOL.out]; omega))
    obtain ⟨sv2, cv2, gv2, hvv2, _, _, _, _⟩ := id hO2.at
    generalize (rs.map rmV ++ [rmV (G, c)]).length = nv2 at *
    subst hvv2
    clear hST HSTEP hvS hv1 hb1 hG hO2 hKp hBp
    go_wp2
    refine wp_region_noPanic ?_
    refine wp_region_held_drew (S := fun w' => Below M w w') (by kernel_rfl) hB2.drew (fun hHeld => ?_)
    refine wpAnyH_take (i := 0) (oi := { dst := some 29, op := Op.move (Operand.tmp 4), type := 28, pos := "law.go:102", after := #[], guard := none }) (v := .slice (some ⟨M, 0, none⟩) (cs.length + 2) (cs.length + 2)) rfl (by kernel_rfl) (by kernel_rfl) (by kernel_rfl) (fun _ _ _ h => h) (Or.inl ⟨by rfl, by intro w hS; go_simp⟩) hHeld ?_
    try simp only [Act.put, List.setIfInBounds_toArray, List.set_cons_zero, List.set_cons_succ]
    refine wpAnyH_take (i := 1) (oi := { dst := some 30, op := Op.move (Operand.tmp 6), type := 3, pos := "law.go:102", after := #[], guard := none }) (v := .int .i64 k) rfl (by kernel_rfl) (by kernel_rfl) (by kernel_rfl) (fun _ _ _ h => h) (Or.inl ⟨by rfl, by intro w hS; go_simp⟩) hHeld ?_
    try simp only [Act.put, List.setIfInBounds_toArray, List.set_cons_zero, List.set_cons_succ]
    refine wpAnyH_take (i := 2) (oi := { dst := some 31, op := Op.move (Operand.tmp 0), type := 28, pos := "law.go:102", after := #[], guard := none }) (v := .slice (some ⟨b, o, none⟩) cs.length cap) rfl (by kernel_rfl) (by kernel_rfl) (by kernel_rfl) (fun _ _ _ h => h) (Or.inl ⟨by rfl, by intro w hS; go_simp⟩) hHeld ?_
    try simp only [Act.put, List.setIfInBounds_toArray, List.set_cons_zero, List.set_cons_succ]
    refine wpAnyH_take (i := 3) (oi := { dst := some 32, op := Op.move (Operand.tmp 6), type := 3, pos := "law.go:102", after := #[], guard := none }) (v := .int .i64 k) rfl (by kernel_rfl) (by kernel_rfl) (by kernel_rfl) (fun _ _ _ h => h) (Or.inl ⟨by rfl, by intro w hS; go_simp⟩) hHeld ?_
    try simp only [Act.put, List.setIfInBounds_toArray, List.set_cons_zero, List.set_cons_succ]
    refine wpAnyH_take (i := 7) (oi := { dst := some 36, op := Op.move (Operand.tmp 0), type := 28, pos := "law.go:102", after := #[], guard := none }) (v := .slice (some ⟨b, o, none⟩) cs.length cap) rfl (by kernel_rfl) (by kernel_rfl) (by kernel_rfl) (fun _ _ _ h => h) (Or.inl ⟨by rfl, by intro w hS; go_simp⟩) hHeld ?_
    try simp only [Act.put, List.setIfInBounds_toArray, List.set_cons_zero, List.set_cons_succ]
    refine wpAnyH_take (i := 8) (oi := { dst := some 37, op := Op.move (Operand.tmp 6), type := 3, pos := "law.go:102", after := #[], guard := none }) (v := .int .i64 k) rfl (by kernel_rfl) (by kernel_rfl) (by kernel_rfl) (fun _ _ _ h => h) (Or.inl ⟨by rfl, by intro w hS; go_simp⟩) hHeld ?_
    try simp only [Act.put, List.setIfInBounds_toArray, List.set_cons_zero, List.set_cons_succ]
    refine wpAnyH_take (i := 12) (oi := { dst := some 41, op := Op.move (Operand.tmp 7), type := 27, pos := "law.go:102", after := #[], guard := none }) (v := .slice (some ⟨G, 0, none⟩) (c.val.length + 100) (c.val.length + 100)) rfl (by kernel_rfl) (by kernel_rfl) (by kernel_rfl) (fun _ _ _ h => h) (Or.inl ⟨by rfl, by intro w hS; go_simp⟩) hHeld ?_
    try simp only [Act.put, List.setIfInBounds_toArray, List.set_cons_zero, List.set_cons_succ]
    refine wpAnyH_take (i := 13) (oi := { dst := some 42, op := Op.move (Operand.tmp 0), type := 28, pos := "law.go:102", after := #[], guard := none }) (v := .slice (some ⟨b, o, none⟩) cs.length cap) rfl (by kernel_rfl) (by kernel_rfl) (by kernel_rfl) (fun _ _ _ h => h) (Or.inl ⟨by rfl, by intro w hS; go_simp⟩) hHeld ?_
    try simp only [Act.put, List.setIfInBounds_toArray, List.set_cons_zero, List.set_cons_succ]
    refine wpAnyH_take (i := 14) (oi := { dst := some 43, op := Op.move (Operand.tmp 6), type := 3, pos := "law.go:102", after := #[], guard := none }) (v := .int .i64 k) rfl (by kernel_rfl) (by kernel_rfl) (by kernel_rfl) (fun _ _ _ h => h) (Or.inl ⟨by rfl, by intro w hS; go_simp⟩) hHeld ?_
    try simp only [Act.put, List.setIfInBounds_toArray, List.set_cons_zero, List.set_cons_succ]
    refine wpAnyH_take (i := 4) (oi := { dst := some 33, op := Op.indexAddr 28 (Operand.tmp 31) (Operand.tmp 32), type := 0, pos := "law.go:102", after := #[{ on := 2, ground := Ground.data }, { on := 3, ground := Ground.data }], guard := none }) (v := .pointer (some ⟨b, o + k * 34, none⟩)) rfl (by kernel_rfl) (by kernel_rfl) (by kernel_rfl) (fun _ _ _ h => h) (Or.inl ⟨by rfl, by intro w hS; go_simp⟩) hHeld ?_
    try simp only [Act.put, List.setIfInBounds_toArray, List.set_cons_zero, List.set_cons_succ]
    refine wpAnyH_take (i := 9) (oi := { dst := some 38, op := Op.indexAddr 28 (Operand.tmp 36) (Operand.tmp 37), type := 0, pos := "law.go:102", after := #[{ on := 7, ground := Ground.data }, { on := 8, ground := Ground.data }], guard := none }) (v := .pointer (some ⟨b, o + k * 34, none⟩)) rfl (by kernel_rfl) (by kernel_rfl) (by kernel_rfl) (fun _ _ _ h => h) (Or.inl ⟨by rfl, by intro w hS; go_simp⟩) hHeld ?_
    try simp only [Act.put, List.setIfInBounds_toArray, List.set_cons_zero, List.set_cons_succ]
    refine wpAnyH_take (i := 15) (oi := { dst := some 44, op := Op.indexAddr 28 (Operand.tmp 42) (Operand.tmp 43), type := 0, pos := "law.go:102", after := #[{ on := 13, ground := Ground.data }, { on := 14, ground := Ground.data }], guard := none }) (v := .pointer (some ⟨b, o + k * 34, none⟩)) rfl (by kernel_rfl) (by kernel_rfl) (by kernel_rfl) (fun _ _ _ h => h) (Or.inl ⟨by rfl, by intro w hS; go_simp⟩) hHeld ?_
    try simp only [Act.put, List.setIfInBounds_toArray, List.set_cons_zero, List.set_cons_succ]
    refine wpAnyH_take (i := 5) (oi := { dst := some 34, op := Op.fieldAddr 52 (Operand.tmp 33) 0, type := 0, pos := "law.go:102", after := #[{ on := 4, ground := Ground.data }], guard := none }) (v := .pointer (some ⟨b, o + k * 34, none⟩)) rfl (by kernel_rfl) (by kernel_rfl) (by kernel_rfl) (fun _ _ _ h => h) (Or.inl ⟨by rfl, by intro w hS; go_simp⟩) hHeld ?_
    try simp only [Act.put, List.setIfInBounds_toArray, List.set_cons_zero, List.set_cons_succ]
    refine wpAnyH_take (i := 10) (oi := { dst := some 39, op := Op.fieldAddr 52 (Operand.tmp 38) 1, type := 0, pos := "law.go:102", after := #[{ on := 9, ground := Ground.data }], guard := none }) (v := .pointer (some ⟨b, o + k * 34 + 32, none⟩)) rfl (by kernel_rfl) (by kernel_rfl) (by kernel_rfl) (fun _ _ _ h => h) (Or.inl ⟨by rfl, by intro w hS; go_simp⟩) hHeld ?_
    try simp only [Act.put, List.setIfInBounds_toArray, List.set_cons_zero, List.set_cons_succ]
    refine wpAnyH_take (i := 16) (oi := { dst := some 45, op := Op.fieldAddr 52 (Operand.tmp 44) 2, type := 0, pos := "law.go:102", after := #[{ on := 15, ground := Ground.data }], guard := none }) (v := .pointer (some ⟨b, o + k * 34 + 33, none⟩)) rfl (by kernel_rfl) (by kernel_rfl) (by kernel_rfl) (fun _ _ _ h => h) (Or.inl ⟨by rfl, by intro w hS; go_simp⟩) hHeld ?_
    try simp only [Act.put, List.setIfInBounds_toArray, List.set_cons_zero, List.set_cons_succ]
    refine wpAnyH_take (i := 6) (oi := { dst := some 35, op := Op.load 26 (Operand.tmp 34), type := 26, pos := "law.go:102", after := #[{ on := 5, ground := Ground.data }], guard := none }) (v := .agg (ints .u8 c.key).toArray) rfl (by kernel_rfl) (by kernel_rfl) (by kernel_rfl) (fun _ _ _ h => h) (yieldsIf_load_mid (by rfl) 26 _ rfl b (o + k * 34) rfl (ints .u8 c.key) _ (fun w hS => rng_below r1 hS hbM) Try.underlying26 rfl hik) hHeld ?_
    try simp only [Act.put, List.setIfInBounds_toArray, List.set_cons_zero, List.set_cons_succ]
    refine wpAnyH_take (i := 11) (oi := { dst := some 40, op := Op.load 4 (Operand.tmp 39), type := 4, pos := "law.go:102", after := #[{ on := 10, ground := Ground.data }], guard := none }) (v := .bool c.del) rfl (by kernel_rfl) (by kernel_rfl) (by kernel_rfl) (fun _ _ _ h => h) (Or.inl ⟨by rfl, by intro w hS; have hc := (hS.cell (p := ⟨b, o + k * 34 + 32, none⟩) hbM).trans r2; go_simp⟩) hHeld ?_
    try simp only [Act.put, List.setIfInBounds_toArray, List.set_cons_zero, List.set_cons_succ]
    refine wpAnyH_take (i := 17) (oi := { dst := some 46, op := Op.load 27 (Operand.tmp 45), type := 27, pos := "law.go:102", after := #[{ on := 16, ground := Ground.data }], guard := none }) (v := .slice sp' c.val.length c') rfl (by kernel_rfl) (by kernel_rfl) (by kernel_rfl) (fun _ _ _ h => h) (Or.inl ⟨by rfl, by intro w hS; have hc := (hS.cell (p := ⟨b, o + k * 34 + 33, none⟩) hbM).trans r3; go_simp⟩) hHeld ?_
    try simp only [Act.put, List.setIfInBounds_toArray, List.set_cons_zero, List.set_cons_succ]
    refine wpAnyH_take (i := 18) (oi := { dst := some 47, op := Op.call { callee := Callee.builtin Builtin.len, args := #[Operand.tmp 46], argTypes := #[27] }, type := 3, pos := "law.go:102", after := #[{ on := 17, ground := Ground.data }], guard := none }) (v := .int .i64 c.val.length) rfl (by kernel_rfl) (by kernel_rfl) (by kernel_rfl) (fun _ _ _ h => h) (Or.inl ⟨by rfl, by intro w hS; go_simp⟩) hHeld ?_
    try simp only [Act.put, List.setIfInBounds_toArray, List.set_cons_zero, List.set_cons_succ]
    refine wpAnyH_take (i := 19) (oi := { dst := some 48, op := Op.slice 27 (Operand.tmp 41) none (some (Operand.tmp 47)) none, type := 27, pos := "law.go:102", after := #[{ on := 12, ground := Ground.data }, { on := 18, ground := Ground.data }], guard := none }) (v := .slice (some ⟨G, 0, none⟩) c.val.length (c.val.length + 100)) rfl (by kernel_rfl) (by kernel_rfl) (by kernel_rfl) (fun _ _ _ h => h) (Or.inl ⟨by rfl, by intro w hS; go_simp <;> (intro h; omega)⟩) hHeld ?_
    try simp only [Act.put, List.setIfInBounds_toArray, List.set_cons_zero, List.set_cons_succ]
    refine wpAnyH_take (i := 20) (oi := { dst := some 49, op := Op.build 52 #[(0, Operand.tmp 35), (1, Operand.tmp 40), (2, Operand.tmp 48)], type := 52, pos := "law.go:102", after := #[{ on := 6, ground := Ground.data }, { on := 11, ground := Ground.data }, { on := 19, ground := Ground.data }], guard := none }) (v := .agg (encM (rmM (G, c))).toArray) rfl (by kernel_rfl) (by kernel_rfl) (by kernel_rfl) (fun _ _ _ h => h) (yields_build (by rfl) _ _ _ rfl c.key r6 c.del (some ⟨G, 0, none⟩) c.val.length (c.val.length + 100) rfl rfl rfl) hHeld ?_
    try simp only [Act.put, List.setIfInBounds_toArray, List.set_cons_zero, List.set_cons_succ]
    refine wpAnyH_take (i := 21) (oi := { dst := some 50, op := Op.indexAddr 28 (Operand.tmp 29) (Operand.tmp 30), type := 0, pos := "law.go:102", after := #[{ on := 0, ground := Ground.data }, { on := 1, ground := Ground.data }, { on := 0, ground := Ground.phase }, { on := 1, ground := Ground.phase }, { on := 2, ground := Ground.phase }, { on := 3, ground := Ground.phase }, { on := 4, ground := Ground.phase }, { on := 5, ground := Ground.phase }, { on := 6, ground := Ground.phase }, { on := 7, ground := Ground.phase }, { on := 8, ground := Ground.phase }, { on := 9, ground := Ground.phase }, { on := 10, ground := Ground.phase }, { on := 11, ground := Ground.phase }, { on := 12, ground := Ground.phase }, { on := 13, ground := Ground.phase }, { on := 14, ground := Ground.phase }, { on := 15, ground := Ground.phase }, { on := 16, ground := Ground.phase }, { on := 17, ground := Ground.phase }, { on := 18, ground := Ground.phase }, { on := 19, ground := Ground.phase }, { on := 20, ground := Ground.phase }], guard := none }) (v := .pointer (some ⟨M, k * 34, none⟩)) rfl (by kernel_rfl) (by kernel_rfl) (by kernel_rfl) (fun _ _ _ h => h) (Or.inl ⟨by rfl, by intro w hS; go_simp <;> (intro h; omega)⟩) hHeld ?_
    try simp only [Act.put, List.setIfInBounds_toArray, List.set_cons_zero, List.set_cons_succ]
    refine wpAnyH_ready (rs := [22]) (by kernel_rfl) (by simp) ?_
    refine (AllReadyH.cons (o := { dst := none, op := Op.store 52 (Operand.tmp 50) (Operand.tmp 49), type := 0, pos := "law.go:102", after := #[{ on := 21, ground := Ground.data }, { on := 20, ground := Ground.data }, { on := 0, ground := Ground.phase }, { on := 1, ground := Ground.phase }, { on := 2, ground := Ground.phase }, { on := 3, ground := Ground.phase }, { on := 4, ground := Ground.phase }, { on := 5, ground := Ground.phase }, { on := 6, ground := Ground.phase }, { on := 7, ground := Ground.phase }, { on := 8, ground := Ground.phase }, { on := 9, ground := Ground.phase }, { on := 10, ground := Ground.phase }, { on := 11, ground := Ground.phase }, { on := 12, ground := Ground.phase }, { on := 13, ground := Ground.phase }, { on := 14, ground := Ground.phase }, { on := 15, ground := Ground.phase }, { on := 16, ground := Ground.phase }, { on := 17, ground := Ground.phase }, { on := 18, ground := Ground.phase }, { on := 19, ground := Ground.phase }, { on := 20, ground := Ground.phase }], guard := none }) rfl (fun K hK => ?_) AllReadyH.nil)
    refine step_store_mid (by rfl) 52 (.tmp 50) (.tmp 49) rfl M (k * 34) _ rfl rfl (by rw [SM.out]; exact HT34.out) (by rw [chgSize, SM.out]) (all_oneCell_toArray (rmM_one (G, c))) ?_
    rw [List.toList_toArray]
    refine hK.out _ _ (hHeld.trans (b3 M (Nat.le_refl _))) (fun hHeld2 => ?_)
    clear hK K hHeld
    have hHeld := hHeld2
    clear hHeld2
    try simp only [Act.put, List.setIfInBounds_toArray, List.set_cons_zero, List.set_cons_succ]
    refine wpAnyH_done (by kernel_rfl) ?_ _
    refine NoPanic.normal ?_
    have hBz := hHeld
    clear hHeld
    have h9 := HST.out _ rfl
    go_wp2
    go_roundw
    case rel => exact ⟨k + 1, _, _, _, by omega, by go_num, rfl, h9, hBz⟩
    case measure => simp [intOf]; omega
  · obtain rfl : k = cs.length := by omega
    have i2 : ¬ (cs.length : Int) < (cs.length : Int) := by omega
    obtain ⟨sv, cv, gv, hvv, _, _, _, _⟩ := id hL.vs.at
    rw [List.length_map] at hvv
    subst hvv
    have hMr : M < wr.heap.size := hlt_ hL.row
    have KS := hid (spare_any wr)
    clear hlt
    go_wp2_with fail
    refine KS.out.mono ?_
    rintro e w5 ⟨rfl, hg2, h202, hb5⟩
    clear KS
    have hL5 := hL.below hb5
    have hB5 : Below M w w5 := hB.trans (hb5.mono (by omega))
    have l0 : (encM ((spM wr.heap.size).getD 0 dM)).length = 34 := spM_len _ _ (getD_mem' _ dM 0 (by simp [spM]))
    have l1 : (encM ((spM wr.heap.size).getD 1 dM)).length = 34 := spM_len _ _ (getD_mem' _ dM 1 (by simp [spM]))
    have R0 := hg2.rng (spM_len _) 0 (by simp [spM])
    have o0 : ∀ v ∈ encM ((spM wr.heap.size).getD 0 dM), v.oneCell' = true := one_encM _ rfl
    have o1 : ∀ v ∈ encM ((spM wr.heap.size).getD 1 dM), v.oneCell' = true := one_encM _ rfl
    obtain ⟨r6, b6, o6⟩ := hL5.row.put hL5.l34 cs.length (by rw [hL5.ol]; omega) _ l0 o0
    have t6 := hL5.row.there hL5.l34 cs.length (by rw [hL5.ol]; omega)
    have l6 := hL5.l34.set cs.length _ l0
    have n6 : (os.set cs.length ((spM wr.heap.size).getD 0 dM)).length = cs.length + 2 := by rw [List.length_set]; exact hL5.ol
    have hg6 : RowM _ (wr.heap.size + 1) (spM wr.heap.size) := (o6 (wr.heap.size + 1) (by omega)).trans hg2
    have R1 := hg6.rng (spM_len _) 1 (by simp [spM])
    obtain ⟨r7, b7, o7⟩ := r6.put l6 (cs.length + 1) (by rw [n6]; omega) _ l1 o1
    have t7 := r6.there l6 (cs.length + 1) (by rw [n6]; omega)
    have HB7 := hid ((hB5.trans (b6 M (Nat.le_refl _))).trans (b7 M (Nat.le_refl _)))
    have OO := hid (show ∀ q, q ≠ M → (((w5.setCells M (cs.length * 34) (encM ((spM wr.heap.size).getD 0 dM))).setCells M ((cs.length + 1) * 34) (encM ((spM wr.heap.size).getD 1 dM)))).heap[q]? = w5.heap[q]? from fun q hq => (o7 q hq).trans (o6 q hq))
    rw [set_two os cs.length _ _ hL5.ol, hL5.tk] at r7
    have hsn : rs.map Prod.snd = cs := by rw [hL.sn, List.take_length]
    have HR := hid (show Room ((w5.setCells M (cs.length * 34) (encM ((spM wr.heap.size).getD 0 dM))).setCells M ((cs.length + 1) * 34) (encM ((spM wr.heap.size).getD 1 dM))) M ((w5.setCells M (cs.length * 34) (encM ((spM wr.heap.size).getD 0 dM))).setCells M ((cs.length + 1) * 34) (encM ((spM wr.heap.size).getD 1 dM))).heap.size M wr.heap.size rs from by
      have hv7 : ∀ x ∈ rs, _ := fun x hx => (OO.out x.1 (by have := hL.gt x hx; omega)).trans (hL5.val x hx)
      have hh7 := (OO.out wr.heap.size (by omega)).trans h202
      refine ⟨r7, hv7, hh7, fun x hx => hok _ (by rw [← hsn]; exact List.mem_map.2 ⟨x, hx, rfl⟩), hL.nod, fun x hx => by have := hlt_ (hL.val x hx); omega, ⟨Nat.le_refl _, by omega, fun x hx => by have := hL.gt x hx; omega⟩, ⟨hlt_ r7, hlt_ hh7, fun x hx => hlt_ (hv7 x hx)⟩, ?_⟩
      have := congrArg List.length hsn
      simp at this
      have := HLEN.out
      omega)
    have HV := hid (show OwnS ((w5.setCells M (cs.length * 34) (encM ((spM wr.heap.size).getD 0 dM))).setCells M ((cs.length + 1) * 34) (encM ((spM wr.heap.size).getD 1 dM))) M _ (rs.map rmV) from hL5.vs.of_heap fun q hq => OO.out q (fun e => by subst e; obtain ⟨_, _, y, hy⟩ := hL5.vs.heap q hq; exact ne_of_type hy hL5.row (by decide) rfl))
    have SZ0 := hid (show (Try.prog.info? 52).map (·.size) = some (encM ((spM wr.heap.size).getD 0 dM)).length by rw [chgSize, l0])
    have SZ1 := hid (show (Try.prog.info? 52).map (·.size) = some (encM ((spM wr.heap.size).getD 1 dM)).length by rw [chgSize, l1])
    have SA0 := hid (show (encM ((spM wr.heap.size).getD 0 dM)).toArray.size = 34 by simpa using l0)
    have SA1 := hid (show (encM ((spM wr.heap.size).getD 1 dM)).toArray.size = 34 by simpa using l1)
    rw [Nat.zero_mul] at R0
    rw [Nat.one_mul] at R1
    clear hL hL5 r6 b6 o6 r7 b7 o7 hg2 hg6 h202 hb5 hB OO l6 n6
    generalize (spM wr.heap.size).getD 0 dM = s0 at *
    generalize (spM wr.heap.size).getD 1 dM = s1 at *
    generalize wr.heap.size = G at *
    go_wp2_with (first
      | refine wpList_load_mid rfl 52 _ rfl (G + 1) 0 rfl (encM s0) _ R0 Try.underlying52 rfl SZ0.out ?_
      | (refine wpList_store_mid rfl 52 (.tmp 58) _ rfl M (cs.length * 34) _ rfl rfl (by rw [SA0.out]; exact t6) (by rw [chgSize, SA0.out]) (all_oneCell_toArray o0) ?_; rw [List.toList_toArray])
      | refine wpList_load_mid rfl 52 _ rfl (G + 1) 34 rfl (encM s1) _ R1 Try.underlying52 rfl SZ1.out ?_
      | (refine wpList_store_mid rfl 52 (.tmp 66) _ rfl M ((cs.length + 1) * 34) _ rfl rfl (by rw [SA1.out]; exact t7) (by rw [chgSize, SA1.out]) (all_oneCell_toArray o1) ?_; rw [List.toList_toArray]))
    refine bodyPost_ret (results_tmp2 Try.results20 _ _ _) rfl ⟨rs, G, .slice sv rs.length cv, ?_, hsn, ?_, ?_, ?_⟩
    · rw [HM.out]; rfl
    · rw [HM.out]; exact HR.out
    · rw [HM.out]; exact HV.out
    · rw [HM.out]; exact HB7.out
end Go.Proofs.Ytcifbnldohmbnab
