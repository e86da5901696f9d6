import Derived.Test.YtbcadiecpcngdaaNe9
import Derived.Shelf.Slices.Clone
namespace Go.Proofs.Ytbcadiecpcngdaa
set_option linter.unusedVariables false
set_option linter.unusedSimpArgs false
open Go.RowKit
attribute [local go_sem ↓] Go.wp_at_zero Go.wp_at_succ

theorem own_empty9 (w : World) : Own (w.alloc (.cells #[] 5)) w.heap.size (.slice (some ⟨w.heap.size, 0, none⟩) 0 0) [] :=
  ⟨rfl, Or.inr ⟨w.heap.size, 0, #[], rfl, Nat.le_refl _, hnew w _, Nat.le_refl _, by simp [maxLen], rfl, rfl⟩⟩
set_option maxRecDepth 100000 in
set_option maxHeartbeats 400000 in
theorem Clone_any9 (w : World) (zs : List Int) (sp : Option Addr) (cap : Nat) (hS : Src w sp cap zs) (hnil : sp = none → cap = 0) (hlen : zs.length ≤ 140737488351232) :
    Calls Try.prog 53 #[.slice sp zs.length cap] w fun e w' => ∃ v, e = .returned v ∧ Own w' w.heap.size v zs ∧ Below w.heap.size w w' := by
  have q22 : ∀ (w : World) (a : Option Addr) (n c n' c' : Nat), (binOp .eql 23 (.slice a n c) (.slice none n' c')).run Try.prog w = .ok (.bool a.isNone) w := fun w a n c n' c' => Lib.run_eql_slice_nil w _ _ a n c n' c' Try.underlying23
  cases sp with
  | none =>
    obtain rfl := hnil rfl
    have hz : zs = [] := List.eq_nil_of_length_eq_zero (by have := hS.1; omega)
    subst hz
    go_enter Try.func53, Try.ntmps53
    go_wp2
    go_ret
    exact ⟨_, rfl, Own.nil _ _, Below.refl _ _⟩
  | some a =>
    have hE := own_empty9 w
    have hS1 := hS.below ((Below.refl w.heap.size w).alloc (Nat.le_refl _) (.cells #[] 5)) (Nat.le_refl _)
    go_enter Try.func53, Try.ntmps53
    go_wp2_with (first | (at_builtin; refine wpList_append_wide rfl (.tmp 5) (.tmp 6) rfl w.heap.size _ [] zs rfl hE (some a) cap rfl (fun h => by cases h) hS1 (by simp; omega) (by simp) ?_; intro v2 w2 hO2 hg2 hd2))
    go_ret
    refine ⟨_, rfl, hO2, ?_⟩
    exact ((Below.refl _ w).alloc (Nat.le_refl _) _).trans (grown_keeps hg2 (fun k e => (hE.block k e).1) (by simp))
/-- append(own bytes, src...), as a step of a region that draws its order. -/
theorem step_appendB {w : World} {ops : Array Oper} {o : Oper} {a : Act} {K : Act → World → Prop} {Q : Exit → Act → World → Prop} {E : Prop} (hgd : o.guard = none) (s x : Operand)
    (ho : o.op = .call { callee := .builtin .append, args := #[s, x], argTypes := #[23, 23] })
    (base : Nat) (v : Value) (zs ys : List Int) (hs : a.eval s = v) (hown : Own w base v zs) (sp : Option Addr) (c : Nat) (hx : a.eval x = .slice sp ys.length c) (hnil : sp = none → c = 0) (hS : Src w sp c ys)
    (hlen : zs.length + ys.length ≤ 140737488351232) (hbase : base ≤ w.heap.size)
    (h : ∀ v' w', Own w' base v' (zs ++ ys) → w.grownBy w' v.ownBlock → (v'.ownBlock = v.ownBlock ∨ v'.ownBlock = some w.heap.size) → K (a.put o.dst v') w') :
    if Region.wanted o (yielded ops a.tmps) = true then Oper.wp Try.prog o a w K Q else E := by
  have hw : Region.wanted o (yielded ops a.tmps) = true := by simp [Region.wanted, hgd]
  rw [if_pos hw]
  obtain ⟨i5, hi5, hz5, hs5, hy5⟩ := Try.info5
  cases sp with
  | none =>
    obtain rfl := hnil rfl
    obtain rfl : ys = [] := List.eq_nil_of_length_eq_zero (by have := hS.1; omega)
    have hrun := run_append_owned_none (P := Try.prog) w base 23 o.type 5 i5 1 Try.underlying23 hi5 v _ _ hown
    unfold Oper.wp
    simp [execOp, ho, resolve, invoke, builtin, hs, hx, hrun, Result.andThen]
    exact h v w (by rw [List.append_nil]; exact hown) ⟨rfl, rfl, rfl, Nat.le_refl _, fun _ _ _ => rfl⟩ (Or.inl rfl)
  | some ad =>
    obtain ⟨v', w', hr, q1, q2, _, q4⟩ := run_append_own_at (P := Try.prog) w base 23 o.type 5 i5 (.int .u8 0) 1 1 Try.underlying23 hi5 hz5 hs5 hy5 rfl Nat.one_pos v zs.length (ints .u8 zs) hown ad ys.length c (ints .u8 ys) (by rw [ints_len]; omega) (src_news hS) (ints_one _ _) (by unfold maxLen; omega) (by omega) hbase
    unfold Oper.wp execOp
    simp only [ho, resolve, invoke, builtin, Sem.run_bind, Sem.run_pure, Result.andThen_ok, List.map_toArray, List.map_cons, List.map_nil, hs, hx, hr]
    exact h v' w' (Own.mk_append q1) q2 q4
theorem src_new9 (w : World) (ys : List Int) (t : TypeId) (fr : Nat × Nat) (hl : ys.length ≤ maxLen) : Src (w.alloc (.cells (ints .u8 ys).toArray t fr)) (some ⟨w.heap.size, 0, none⟩) ys.length ys :=
  ⟨Nat.le_refl _, hl, w.heap.size, 0, fun _ => by simp, fun _ => rfl, fun j hj => by rw [Nat.zero_add]; exact cell_ints (hnew w _) j hj⟩
theorem src_row' {w : World} {g t o : Nat} {zs : List Int} {cs : List Value} {fr : Nat × Nat} (h : w.heap[g]? = some (.cells cs.toArray t fr)) (hr : ∀ j, j < zs.length → cs[o + j]? = some (.int .u8 (zs.getD j 0))) (cap : Nat) (hc : zs.length ≤ cap) (hm : cap ≤ maxLen) : Src w (some ⟨g, o, none⟩) cap zs := by
  refine ⟨hc, hm, g, o, fun _ => hlt h, fun _ => rfl, ?_⟩
  intro j hj
  have e := hr j hj
  rw [cell_of_row w g (o + j) cs.toArray t fr h, List.getElem?_toArray]
  exact e
set_option maxRecDepth 100000 in
set_option maxHeartbeats 1000000 in
theorem appendNumber_any (w : World) (base : Nat) (v : Value) (zs : List Int) (n : Int) (h0 : 0 ≤ n) (h1 : n ≤ 4096) (hO : Own w base v zs) (hb : base ≤ w.heap.size) (hl : zs.length ≤ 1000) :
    Calls Try.prog 90 #[v, .int .i64 n] w fun e w' => ∃ v', e = .returned v' ∧ Own w' base v' (zs ++ four n) ∧ Below base w w' := by
  have HF := hid (show [n % 256, n / 256, n / 65536, n / 16777216] = four n by simp only [four, List.cons.injEq, and_true, true_and]; refine ⟨?_, ?_, ?_⟩ <;> omega)
  have HS := hid (src_new9 w [n % 256, n / 256, n / 65536, n / 16777216] 5 (0, 0) (by simp [maxLen]))
  go_enter Try.func90, Try.ntmps90
  go_wp2_with (first | (at_builtin; refine wpList_append_wide rfl (.tmp 5) (.tmp 17) rfl base v zs [n % 256, n / 256, n / 65536, n / 16777216] rfl (own_pushes hO _) (some ⟨w.heap.size, 0, none⟩) 4 rfl (fun h => by cases h) HS.out (by simp; omega) (by simp; omega) ?_; intro v2 w2 hO2 hg2 hd2))
  go_ret
  refine ⟨_, rfl, ?_, ?_⟩
  · rw [← HF.out]; exact hO2
  · exact ((Below.refl base w).alloc hb _).trans (grown_keeps hg2 (fun k hk => (hO.block k hk).1) (by simp; omega))
theorem own_lower {w : World} {b0 b1 : Nat} {v : Value} {zs : List Int} (h : Own w b1 v zs) (hb : b0 ≤ b1) : Own w b0 v zs := by
  refine ⟨h.1, ?_⟩
  rcases h.2 with h2 | ⟨g, cap, cur, rfl, hg, r⟩
  · exact Or.inl h2
  · exact Or.inr ⟨g, cap, cur, rfl, by omega, r⟩
/-- A leaf in a block of its own. -/
structure LB (w0 w : World) (g : Nat) (k : List Int) (v : Value) : Prop where
  hk : k.length = 32
  bel : Below w0.heap.size w0 w
  row : w.heap[g]? = some (.cells (leafC k v).toArray 96 (0, 0))
theorem LB.box {w : World} {k : List Int} {v : Value} (h : k.length = 32) : LB w (w.alloc (.cells (leafC k v).toArray 96)) w.heap.size k v := ⟨h, (Below.refl _ _).alloc (Nat.le_refl _) _, hnew w _⟩
theorem LB.drew {w0 w : World} {g : Nat} {k : List Int} {v : Value} (h : LB w0 w g k v) : LB w0 w.drew g k v := ⟨h.hk, h.bel.drew, h.row⟩
theorem LB.call {w0 w w' : World} {g B : Nat} {k : List Int} {v : Value} (h : LB w0 w g k v) (hb : Below B w w') (hg : g < B) (hB : w0.heap.size ≤ B) : LB w0 w' g k v := ⟨h.hk, h.bel.trans (hb.mono hB), hbel hb h.row hg⟩
theorem LB.cv {w0 w : World} {g : Nat} {k : List Int} {v : Value} (h : LB w0 w g k v) : w.cell? ⟨g, 32, none⟩ = some v := by
  rw [cell_of_row _ _ _ _ _ _ h.row]; simpa using leafC_v k v h.hk
theorem LB.rk {w0 w : World} {g : Nat} {k : List Int} {v : Value} (h : LB w0 w g k v) : w.rangeAt g 0 (ints .u8 k) := fun j x hx => by
  rw [Nat.zero_add, cell_of_row _ _ _ _ _ _ h.row]
  have := (List.getElem?_eq_some_iff.1 hx).1
  simp only [List.getElem?_toArray]
  unfold leafC
  rw [List.getElem?_append_left this]; exact hx
theorem src_rng {w : World} {g o : Nat} {zs : List Int} (h : w.rangeAt g o (ints .u8 zs)) (hg : g < w.heap.size) (cap : Nat) (hc : zs.length ≤ cap) (hm : cap ≤ maxLen) : Src w (some ⟨g, o, none⟩) cap zs :=
  ⟨hc, hm, g, o, fun _ => hg, fun _ => rfl, fun j hj => h j _ (ints_get .u8 zs j hj)⟩
theorem LB.src {w0 w : World} {g : Nat} {k : List Int} {v : Value} (h : LB w0 w g k v) : Src w (some ⟨g, 0, none⟩) 32 k := src_rng h.rk (hlt h.row) 32 (by rw [h.hk]; exact Nat.le_refl _) (by simp [maxLen])
set_option maxRecDepth 100000 in
set_option maxHeartbeats 1000000 in
theorem leafLoad_any (w : World) (k vs : List Int) (hk : k.length = 32) (sp : Option Addr) (cap : Nat) (hS : Src w sp cap vs) (hnil : sp = none → cap = 0) (hv : vs.length ≤ 128) :
    Calls Try.prog 86 #[.agg (leafC k (.slice sp vs.length cap)).toArray] w fun e w' => ∃ v, e = .returned v ∧ Own w' w.heap.size v (k ++ vs) ∧ Below w.heap.size w w' := by
  have d0 := LB.box (w := w) (v := .slice sp vs.length cap) hk
  have KC := hid (fun w1 (h : Src w1 (some ⟨w.heap.size, 0, none⟩) 32 k) => Clone_any9 w1 k (some ⟨w.heap.size, 0, none⟩) 32 h (fun h => by cases h) (by omega))
  rw [hk] at KC
  have hz : (w.alloc (.cells (leafC k (.slice sp vs.length cap)).toArray 96)).heap.size = w.heap.size + 1 := by simp
  go_enter Try.func86, Try.ntmps86
  go_wp2
  generalize w.alloc (.cells (leafC k (.slice sp vs.length cap)).toArray 96) = w1 at *
  have hz2 : w1.drew.heap.size = w.heap.size + 1 := hz
  refine wp_region_noPanic ?_
  refine wp_region_held_drew (S := (fun w' => LB w w' w.heap.size k (.slice sp vs.length cap))) (by kernel_rfl) d0.drew (fun hHeld => ?_)
  refine wpAnyH_take (i := 0) (oi := { dst := some 3, op := Op.fieldAddr 96 (Operand.tmp 1) 0, type := 0, pos := "form.go:102", after := #[], guard := none }) (v := .pointer (some ⟨w.heap.size, 0, none⟩)) rfl (by kernel_rfl) (by kernel_rfl) (by kernel_rfl) (fun _ _ _ h => h) (Or.inl ⟨by rfl, by intro w hS; go_simp⟩) hHeld ?_
  try simp only [Act.put, List.setIfInBounds_toArray, List.set_cons_zero, List.set_cons_succ]
  refine wpAnyH_take (i := 3) (oi := { dst := some 6, op := Op.fieldAddr 96 (Operand.tmp 1) 1, type := 0, pos := "form.go:102", after := #[], guard := none }) (v := .pointer (some ⟨w.heap.size, 32, none⟩)) rfl (by kernel_rfl) (by kernel_rfl) (by kernel_rfl) (fun _ _ _ h => h) (Or.inl ⟨by rfl, by intro w hS; go_simp⟩) hHeld ?_
  try simp only [Act.put, List.setIfInBounds_toArray, List.set_cons_zero, List.set_cons_succ]
  refine wpAnyH_take (i := 1) (oi := { dst := some 4, op := Op.slice 37 (Operand.tmp 3) none none none, type := 23, pos := "form.go:102", after := #[{ on := 0, ground := Ground.data }], guard := none }) (v := .slice (some ⟨w.heap.size, 0, none⟩) 32 32) rfl (by kernel_rfl) (by kernel_rfl) (by kernel_rfl) (fun _ _ _ h => h) (Or.inl ⟨by rfl, by intro w hS; go_simp⟩) hHeld ?_
  try simp only [Act.put, List.setIfInBounds_toArray, List.set_cons_zero, List.set_cons_succ]
  refine wpAnyH_take (i := 4) (oi := { dst := some 7, op := Op.load 23 (Operand.tmp 6), type := 23, pos := "form.go:102", after := #[{ on := 3, ground := Ground.data }], guard := none }) (v := .slice sp vs.length cap) rfl (by kernel_rfl) (by kernel_rfl) (by kernel_rfl) (fun _ _ _ h => h) (Or.inl ⟨by rfl, by intro w hS; have hc := hS.cv; go_simp⟩) hHeld ?_
  try simp only [Act.put, List.setIfInBounds_toArray, List.set_cons_zero, List.set_cons_succ]
  refine wpAnyH_ready (rs := [2]) (by kernel_rfl) (by simp) ?_
  refine (AllReadyH.cons (o := { dst := some 5, op := Op.call { callee := Callee.value (Operand.func 53), args := #[Operand.tmp 4], argTypes := #[23] }, type := 23, pos := "form.go:102", after := #[{ on := 1, ground := Ground.data }], guard := none }) rfl (fun K hK => ?_) AllReadyH.nil)
  go_simp
  go_at_call 53
  refine (KC.out _ hHeld.src).mono ?_
  rintro e w4 ⟨v5, rfl, hO5, hb4⟩
  go_wp2_with fail
  refine hK.out _ _ (hHeld.call hb4 (by show w.heap.size < w1.heap.size; omega) (by show w.heap.size ≤ w1.heap.size; omega)) (fun hHeld2 => ?_)
  clear hK K hHeld
  have hHeld := hHeld2
  clear hHeld2
  try simp only [Act.put, List.setIfInBounds_toArray, List.set_cons_zero, List.set_cons_succ]
  refine wpAnyH_ready (rs := [5]) (by kernel_rfl) (by simp) ?_
  refine (AllReadyH.cons (o := { dst := some 8, op := Op.call { callee := Callee.builtin Builtin.append, args := #[Operand.tmp 5, Operand.tmp 7], argTypes := #[23, 23] }, type := 23, pos := "form.go:102", after := #[{ on := 2, ground := Ground.data }, { on := 4, ground := Ground.data }, { on := 2, ground := Ground.chain }], guard := none }) rfl (fun K hK => ?_) AllReadyH.nil)
  refine step_appendB rfl (.tmp 5) (.tmp 7) rfl w1.heap.size _ k vs rfl hO5 sp cap rfl hnil (hS.below hHeld.bel (Nat.le_refl _)) (by omega) hb4.size ?_
  intro v6 w6 hO6 hg6 hd6
  have hb6 := grown_keeps hg6 (fun k hk => (hO5.block k hk).1) hb4.size
  refine hK.out _ _ (hHeld.call hb6 (by omega) (by omega)) (fun hHeld2 => ?_)
  clear hK K hHeld
  have hHeld := hHeld2
  clear hHeld2
  try simp only [Act.put, List.setIfInBounds_toArray, List.set_cons_zero, List.set_cons_succ]
  refine wpAnyH_take (i := 6) (oi := { dst := some 2, op := Op.assign (Operand.tmp 8), type := 23, pos := "form.go:102", after := #[{ on := 5, ground := Ground.data }, { on := 5, ground := Ground.chain }, { on := 0, ground := Ground.phase }, { on := 1, ground := Ground.phase }, { on := 2, ground := Ground.phase }, { on := 3, ground := Ground.phase }, { on := 4, ground := Ground.phase }, { on := 5, ground := Ground.phase }], guard := none }) (v := v6) rfl (by kernel_rfl) (by kernel_rfl) (by kernel_rfl) (fun _ _ _ h => h) (Or.inl ⟨by rfl, by intro w hS; go_simp⟩) hHeld ?_
  try simp only [Act.put, List.setIfInBounds_toArray, List.set_cons_zero, List.set_cons_succ]
  refine wpAnyH_done (by kernel_rfl) ?_ _
  refine NoPanic.normal ?_
  go_wp2
  go_ret
  exact ⟨_, rfl, own_lower hO6 (by omega), hHeld.bel⟩
/-- branch.load -/
def numsB (n : Nd) : List Int := four n.l ++ (four n.r ++ (four n.lc ++ four n.rc))
theorem numsB_len (n : Nd) : (numsB n).length = 16 := rfl
theorem BB.drew {w0 w : World} {g : Nat} {n : Nd} (h : BB w0 w g n) : BB w0 w.drew g n := ⟨h.ok, h.bel.drew, h.row⟩
theorem BB.up {w0 w w' : World} {g B : Nat} {n : Nd} (h : BB w0 w g n) (hb : Below B w w') (hg : g < B) (hB : w0.heap.size ≤ B) : BB w0 w' g n := ⟨h.ok, h.bel.trans (hb.mono hB), hbel hb h.row hg⟩
theorem BB.sls {w0 w : World} {g : Nat} {n : Nd} (h : BB w0 w g n) : Src w (some ⟨g, 2, none⟩) 32 n.ls := src_rng h.rls (hlt h.row) 32 (by rw [h.ok.ls]; exact Nat.le_refl _) (by simp [maxLen])
theorem BB.srs {w0 w : World} {g : Nat} {n : Nd} (h : BB w0 w g n) : Src w (some ⟨g, 36, none⟩) 32 n.rs := src_rng h.rrs (hlt h.row) 32 (by rw [h.ok.rs]; exact Nat.le_refl _) (by simp [maxLen])
theorem idx4_0 (a b c d : Int) (w : World) : (Instr.index 115 (.agg #[.int .i64 a, .int .i64 b, .int .i64 c, .int .i64 d]) (.int .i64 0)).run Try.prog w = .ok (.int .i64 a) w := by kernel_rfl
theorem idx4_1 (a b c d : Int) (w : World) : (Instr.index 115 (.agg #[.int .i64 a, .int .i64 b, .int .i64 c, .int .i64 d]) (.int .i64 1)).run Try.prog w = .ok (.int .i64 b) w := by kernel_rfl
theorem idx4_2 (a b c d : Int) (w : World) : (Instr.index 115 (.agg #[.int .i64 a, .int .i64 b, .int .i64 c, .int .i64 d]) (.int .i64 2)).run Try.prog w = .ok (.int .i64 c) w := by kernel_rfl
theorem idx4_3 (a b c d : Int) (w : World) : (Instr.index 115 (.agg #[.int .i64 a, .int .i64 b, .int .i64 c, .int .i64 d]) (.int .i64 3)).run Try.prog w = .ok (.int .i64 d) w := by kernel_rfl
theorem numsB_take (n : Nd) : (numsB n).take (4 * 0) = [] ∧ (numsB n).take (4 * 1) = (numsB n).take (4 * 0) ++ four n.l ∧ (numsB n).take (4 * 2) = (numsB n).take (4 * 1) ++ four n.r ∧ (numsB n).take (4 * 3) = (numsB n).take (4 * 2) ++ four n.lc ∧ (numsB n).take (4 * 4) = (numsB n).take (4 * 3) ++ four n.rc := ⟨rfl, rfl, rfl, rfl, rfl⟩
theorem numsB_tlen (n : Nd) (k : Nat) : ((numsB n).take (4 * k)).length ≤ 1000 := by rw [List.length_take, numsB_len]; omega
set_option maxRecDepth 100000 in
set_option maxHeartbeats 2000000 in
theorem branchLoad_any (w : World) (n : Nd) (ok : NdOk n) (hl : 0 ≤ n.l ∧ n.l ≤ 4096) (hr : 0 ≤ n.r ∧ n.r ≤ 4096) (hlc : 0 ≤ n.lc ∧ n.lc ≤ 4096) (hrc : 0 ≤ n.rc ∧ n.rc ≤ 4096) :
    Calls Try.prog 88 #[.agg (brC n).toArray] w fun e w' => ∃ v, e = .returned v ∧ Own w' w.heap.size v ((numsB n ++ n.ls) ++ n.rs) ∧ Below w.heap.size w w' := by
  have d0 := BB.box (w := w) ok
  have hz : (w.alloc (.cells (brC n).toArray 98)).heap.size = w.heap.size + 1 := by simp
  have k0 := d0.cl
  have k1 := d0.clc
  have k2 := d0.cr
  have k3 := d0.crc
  have K0 := hid (fun w1 v (h : Own w1 (w.heap.size + 1) v ((numsB n).take (4 * 0))) (hb : w.heap.size + 1 ≤ w1.heap.size) => appendNumber_any w1 (w.heap.size + 1) v _ n.l hl.1 hl.2 h hb (numsB_tlen n 0))
  have K1 := hid (fun w1 v (h : Own w1 (w.heap.size + 1) v ((numsB n).take (4 * 1))) (hb : w.heap.size + 1 ≤ w1.heap.size) => appendNumber_any w1 (w.heap.size + 1) v _ n.r hr.1 hr.2 h hb (numsB_tlen n 1))
  have K2 := hid (fun w1 v (h : Own w1 (w.heap.size + 1) v ((numsB n).take (4 * 2))) (hb : w.heap.size + 1 ≤ w1.heap.size) => appendNumber_any w1 (w.heap.size + 1) v _ n.lc hlc.1 hlc.2 h hb (numsB_tlen n 2))
  have K3 := hid (fun w1 v (h : Own w1 (w.heap.size + 1) v ((numsB n).take (4 * 3))) (hb : w.heap.size + 1 ≤ w1.heap.size) => appendNumber_any w1 (w.heap.size + 1) v _ n.rc hrc.1 hrc.2 h hb (numsB_tlen n 3))
  obtain ⟨t0, t1, t2, t3, t4⟩ := numsB_take n
  rw [← t1] at K0
  rw [← t2] at K1
  rw [← t3] at K2
  rw [← t4] at K3
  have hN : Own (w.alloc (.cells (brC n).toArray 98)) (w.heap.size + 1) (.slice none 0 0) ((numsB n).take (4 * 0)) := Own.nil _ _
  have T4 := hid (show (numsB n).take (4 * 4) = numsB n from rfl)
  have nl := numsB_len n
  clear t0 t1 t2 t3 t4 hl hr hlc hrc
  have HL := hid ok.ls
  have HR := hid ok.rs
  generalize n.l = vl at *
  generalize n.r = vr at *
  generalize n.lc = vlc at *
  generalize n.rc = vrc at *
  generalize numsB n = X at *
  go_enter Try.func88, Try.ntmps88
  go_wp2
  generalize w.alloc (.cells (brC n).toArray 98) = w1 at *
  go_loopw [3, 19] (fun v i wr => ∃ k : Nat, k ≤ 4 ∧ i = .int .i64 k ∧ Own wr (w.heap.size + 1) v (X.take (4 * k)) ∧ w.heap.size + 1 ≤ wr.heap.size ∧ BB w wr w.heap.size n) (fun _ i _ => 4 - (intOf i).toNat)
  case atStart => exact ⟨0, by omega, rfl, hN, by omega, d0⟩
  case round =>
    clear hN d0 k0 k1 k2 k3
    obtain ⟨k, hk, rfl, hO, hs, dr⟩ := hrel
    by_cases hlt : k < 4
    · match k, hlt with
      | 0, _ =>
        have ix := idx4_0 vl vr vlc vrc
        go_wp2_with fail
        refine (K0.out _ _ hO hs).mono ?_
        rintro e w2 ⟨v2, rfl, hO2, hb2⟩
        have d2 := dr.up hb2 (by omega) (by omega)
        have s2 := hb2.size
        go_wp2
        go_roundw
        case rel => exact ⟨1, by omega, by go_num, hO2, by omega, d2⟩
        case measure => simp [intOf]
      | 1, _ =>
        have ix := idx4_1 vl vr vlc vrc
        go_wp2_with fail
        refine (K1.out _ _ hO hs).mono ?_
        rintro e w2 ⟨v2, rfl, hO2, hb2⟩
        have d2 := dr.up hb2 (by omega) (by omega)
        have s2 := hb2.size
        go_wp2
        go_roundw
        case rel => exact ⟨2, by omega, by go_num, hO2, by omega, d2⟩
        case measure => simp [intOf]
      | 2, _ =>
        have ix := idx4_2 vl vr vlc vrc
        go_wp2_with fail
        refine (K2.out _ _ hO hs).mono ?_
        rintro e w2 ⟨v2, rfl, hO2, hb2⟩
        have d2 := dr.up hb2 (by omega) (by omega)
        have s2 := hb2.size
        go_wp2
        go_roundw
        case rel => exact ⟨3, by omega, by go_num, hO2, by omega, d2⟩
        case measure => simp [intOf]
      | 3, _ =>
        have ix := idx4_3 vl vr vlc vrc
        go_wp2_with fail
        refine (K3.out _ _ hO hs).mono ?_
        rintro e w2 ⟨v2, rfl, hO2, hb2⟩
        have d2 := dr.up hb2 (by omega) (by omega)
        have s2 := hb2.size
        go_wp2
        go_roundw
        case rel => exact ⟨4, by omega, by go_num, hO2, by omega, d2⟩
        case measure => simp [intOf]
    · obtain rfl : k = 4 := by omega
      rw [T4.out] at hO
      go_wp2_with fail
      refine wp_region_noPanic ?_
      refine wp_region_held_drew (S := (fun w' => BB w w' w.heap.size n)) (by kernel_rfl) dr.drew (fun hHeld => ?_)
      refine wpAnyH_take (i := 0) (oi := { dst := some 26, op := Op.move (Operand.tmp 3), type := 23, pos := "form.go:119", after := #[], guard := none }) (v := u3) rfl (by kernel_rfl) (by kernel_rfl) (by kernel_rfl) (fun _ _ _ h => h) (Or.inl ⟨by rfl, by intro w hS; go_simp⟩) hHeld ?_
      try simp only [Act.put, List.setIfInBounds_toArray, List.set_cons_zero, List.set_cons_succ]
      refine wpAnyH_take (i := 1) (oi := { dst := some 27, op := Op.fieldAddr 98 (Operand.tmp 1) 0, type := 0, pos := "form.go:119", after := #[], guard := none }) (v := .pointer (some ⟨w.heap.size, 0, none⟩)) rfl (by kernel_rfl) (by kernel_rfl) (by kernel_rfl) (fun _ _ _ h => h) (Or.inl ⟨by rfl, by intro w hS; go_simp⟩) hHeld ?_
      try simp only [Act.put, List.setIfInBounds_toArray, List.set_cons_zero, List.set_cons_succ]
      refine wpAnyH_take (i := 5) (oi := { dst := some 31, op := Op.fieldAddr 98 (Operand.tmp 1) 1, type := 0, pos := "form.go:119", after := #[], guard := none }) (v := .pointer (some ⟨w.heap.size, 34, none⟩)) rfl (by kernel_rfl) (by kernel_rfl) (by kernel_rfl) (fun _ _ _ h => h) (Or.inl ⟨by rfl, by intro w hS; go_simp⟩) hHeld ?_
      try simp only [Act.put, List.setIfInBounds_toArray, List.set_cons_zero, List.set_cons_succ]
      refine wpAnyH_take (i := 2) (oi := { dst := some 28, op := Op.fieldAddr 94 (Operand.tmp 27) 2, type := 0, pos := "form.go:119", after := #[{ on := 1, ground := Ground.data }], guard := none }) (v := .pointer (some ⟨w.heap.size, 2, none⟩)) rfl (by kernel_rfl) (by kernel_rfl) (by kernel_rfl) (fun _ _ _ h => h) (Or.inl ⟨by rfl, by intro w hS; go_simp⟩) hHeld ?_
      try simp only [Act.put, List.setIfInBounds_toArray, List.set_cons_zero, List.set_cons_succ]
      refine wpAnyH_take (i := 6) (oi := { dst := some 32, op := Op.fieldAddr 94 (Operand.tmp 31) 2, type := 0, pos := "form.go:119", after := #[{ on := 5, ground := Ground.data }], guard := none }) (v := .pointer (some ⟨w.heap.size, 36, none⟩)) rfl (by kernel_rfl) (by kernel_rfl) (by kernel_rfl) (fun _ _ _ h => h) (Or.inl ⟨by rfl, by intro w hS; go_simp⟩) hHeld ?_
      try simp only [Act.put, List.setIfInBounds_toArray, List.set_cons_zero, List.set_cons_succ]
      refine wpAnyH_take (i := 3) (oi := { dst := some 29, op := Op.slice 36 (Operand.tmp 28) none none none, type := 23, pos := "form.go:119", after := #[{ on := 2, ground := Ground.data }], guard := none }) (v := .slice (some ⟨w.heap.size, 2, none⟩) 32 32) rfl (by kernel_rfl) (by kernel_rfl) (by kernel_rfl) (fun _ _ _ h => h) (Or.inl ⟨by rfl, by intro w hS; go_simp⟩) hHeld ?_
      try simp only [Act.put, List.setIfInBounds_toArray, List.set_cons_zero, List.set_cons_succ]
      refine wpAnyH_take (i := 7) (oi := { dst := some 33, op := Op.slice 36 (Operand.tmp 32) none none none, type := 23, pos := "form.go:119", after := #[{ on := 6, ground := Ground.data }], guard := none }) (v := .slice (some ⟨w.heap.size, 36, none⟩) 32 32) rfl (by kernel_rfl) (by kernel_rfl) (by kernel_rfl) (fun _ _ _ h => h) (Or.inl ⟨by rfl, by intro w hS; go_simp⟩) hHeld ?_
      try simp only [Act.put, List.setIfInBounds_toArray, List.set_cons_zero, List.set_cons_succ]
      refine wpAnyH_ready (rs := [4]) (by kernel_rfl) (by simp) ?_
      refine (AllReadyH.cons (o := { dst := some 30, op := Op.call { callee := Callee.builtin Builtin.append, args := #[Operand.tmp 26, Operand.tmp 29], argTypes := #[23, 23] }, type := 23, pos := "form.go:119", after := #[{ on := 0, ground := Ground.data }, { on := 3, ground := Ground.data }], guard := none }) rfl (fun K hK => ?_) AllReadyH.nil)
      refine step_appendB rfl (.tmp 26) (.tmp 29) rfl (w.heap.size + 1) _ X n.ls rfl hO (some ⟨w.heap.size, 2, none⟩) 32 (by rw [HL.out]; rfl) (fun h => by cases h) hHeld.sls (by have := HL.out; omega) hs ?_
      intro v6 w6 hO6 hg6 hd6
      have hb6 := grown_keeps hg6 (fun k hk => (hO.block k hk).1) hs
      have s6 := hb6.size
      refine hK.out _ _ (hHeld.up hb6 (by omega) (by omega)) (fun hHeld2 => ?_)
      clear hK K hHeld
      have hHeld := hHeld2
      clear hHeld2
      try simp only [Act.put, List.setIfInBounds_toArray, List.set_cons_zero, List.set_cons_succ]
      refine wpAnyH_ready (rs := [8]) (by kernel_rfl) (by simp) ?_
      refine (AllReadyH.cons (o := { dst := some 34, op := Op.call { callee := Callee.builtin Builtin.append, args := #[Operand.tmp 30, Operand.tmp 33], argTypes := #[23, 23] }, type := 23, pos := "form.go:119", after := #[{ on := 4, ground := Ground.data }, { on := 7, ground := Ground.data }, { on := 4, ground := Ground.chain }], guard := none }) rfl (fun K hK => ?_) AllReadyH.nil)
      refine step_appendB rfl (.tmp 30) (.tmp 33) rfl (w.heap.size + 1) _ (X ++ n.ls) n.rs rfl hO6 (some ⟨w.heap.size, 36, none⟩) 32 (by rw [HR.out]; rfl) (fun h => by cases h) hHeld.srs (by have := HL.out; have := HR.out; rw [List.length_append]; omega) (Nat.le_trans hs s6) ?_
      intro v7 w7 hO7 hg7 hd7
      have hb7 := grown_keeps hg7 (fun k hk => (hO6.block k hk).1) (Nat.le_trans hs s6)
      refine hK.out _ _ (hHeld.up hb7 (by omega) (by omega)) (fun hHeld2 => ?_)
      clear hK K hHeld
      have hHeld := hHeld2
      clear hHeld2
      try simp only [Act.put, List.setIfInBounds_toArray, List.set_cons_zero, List.set_cons_succ]
      refine wpAnyH_take (i := 9) (oi := { dst := some 2, op := Op.assign (Operand.tmp 34), type := 23, pos := "form.go:119", after := #[{ on := 8, ground := Ground.data }, { on := 8, ground := Ground.chain }, { on := 0, ground := Ground.phase }, { on := 1, ground := Ground.phase }, { on := 2, ground := Ground.phase }, { on := 3, ground := Ground.phase }, { on := 4, ground := Ground.phase }, { on := 5, ground := Ground.phase }, { on := 6, ground := Ground.phase }, { on := 7, ground := Ground.phase }, { on := 8, ground := Ground.phase }], guard := none }) (v := v7) rfl (by kernel_rfl) (by kernel_rfl) (by kernel_rfl) (fun _ _ _ h => h) (Or.inl ⟨by rfl, by intro w hS; go_simp⟩) hHeld ?_
      try simp only [Act.put, List.setIfInBounds_toArray, List.set_cons_zero, List.set_cons_succ]
      refine wpAnyH_done (by kernel_rfl) ?_ _
      refine NoPanic.normal ?_
      go_wp2
      go_ret
      exact ⟨_, rfl, own_lower hO7 (by omega), hHeld.bel⟩
end Go.Proofs.Ytbcadiecpcngdaa
