import Derived.Test.YtibpffoencjlcaaDoorTv9d
namespace Go.Proofs.YtibpffoencjlcaaDoor
set_option linter.unusedVariables false
set_option linter.unusedSimpArgs false
open Go.RowKit
attribute [local go_sem ↓] Go.wp_at_zero Go.wp_at_succ

theorem list32 {l : List Value} (h : l.length = 32) : ∃ x0 x1 x2 x3 x4 x5 x6 x7 x8 x9 x10 x11 x12 x13 x14 x15 x16 x17 x18 x19 x20 x21 x22 x23 x24 x25 x26 x27 x28 x29 x30 x31, l = [x0, x1, x2, x3, x4, x5, x6, x7, x8, x9, x10, x11, x12, x13, x14, x15, x16, x17, x18, x19, x20, x21, x22, x23, x24, x25, x26, x27, x28, x29, x30, x31] := by
  match l, h with
  | [x0, x1, x2, x3, x4, x5, x6, x7, x8, x9, x10, x11, x12, x13, x14, x15, x16, x17, x18, x19, x20, x21, x22, x23, x24, x25, x26, x27, x28, x29, x30, x31], _ => exact ⟨x0, x1, x2, x3, x4, x5, x6, x7, x8, x9, x10, x11, x12, x13, x14, x15, x16, x17, x18, x19, x20, x21, x22, x23, x24, x25, x26, x27, x28, x29, x30, x31, rfl⟩
theorem slice_dig (ks : List Value) (hk : ks.length = 32) (w : World) :
    (Instr.buildSlice 26 1 #[(0, .agg ks.toArray)]).run Tryd.prog w = .ok (.slice (some ⟨w.heap.size, 0, none⟩) 1 1) (w.alloc (.cells ks.toArray 24)) := by
  obtain ⟨x0, x1, x2, x3, x4, x5, x6, x7, x8, x9, x10, x11, x12, x13, x14, x15, x16, x17, x18, x19, x20, x21, x22, x23, x24, x25, x26, x27, x28, x29, x30, x31, rfl⟩ := list32 hk
  kernel_rfl
theorem wpList_sliceD {w : World} {ops : Array Oper} {rest : List Oper} {o : Oper} {a : Act} {Q : Exit → Act → World → Prop} (hg : o.guard = none) (x : Operand) (ho : o.op = .buildSlice 26 1 #[(0, x)])
    (ks : List Value) (hk : ks.length = 32) (hx : a.eval x = .agg ks.toArray) (h : wpList Tryd.prog ops Q rest (a.put o.dst (.slice (some ⟨w.heap.size, 0, none⟩) 1 1)) (w.alloc (.cells ks.toArray 24))) :
    wpList Tryd.prog ops Q (o :: rest) a w := by
  refine wpList_plain hg fun K hK => ?_
  unfold Oper.wp execOp
  simp only [ho, List.map_toArray, List.map_cons, List.map_nil, hx, Sem.run_bind, slice_dig ks hk w, Result.andThen_ok, Sem.run_pure]
  exact hK _ _ h
theorem infoDm : (Tryd.prog.info? 24).map (fun i => (i.zero.map fun z => z.cells.size, i.size, i.bytes)) = some (some 32, 32, 32) := by kernel_rfl
theorem infoD : ∃ i z, Tryd.prog.info? 24 = some i ∧ i.zero = some z ∧ z.cells.size = 32 ∧ i.size = 32 ∧ i.bytes = 32 := by
  have h := infoDm
  cases hq : Tryd.prog.info? 24 with
  | none => rw [hq] at h; cases h
  | some i =>
    rw [hq] at h
    simp only [Option.map_some, Option.some.injEq, Prod.mk.injEq] at h
    obtain ⟨h1, h2, h3⟩ := h
    cases hz : i.zero with
    | none => rw [hz] at h1; cases h1
    | some z =>
      rw [hz] at h1
      simp only [Option.map_some, Option.some.injEq] at h1
      exact ⟨i, z, rfl, hz, h1, h2, h3⟩
theorem ownsRow_heap {w w1 : World} {base t k n : Nat} {v : Value} {cs : List Value} (h : w.ownsRow base t k v n cs) (hk : ∀ i, v.ownBlock = some i → w1.heap[i]? = w.heap[i]?) : w1.ownsRow base t k v n cs := by
  refine ⟨h.1, ?_⟩
  rcases h.2 with h2 | ⟨g, cap, cur, rfl, hg, hh, r⟩
  · exact Or.inl h2
  · exact Or.inr ⟨g, cap, cur, rfl, hg, (hk g rfl).trans hh, r⟩
theorem ownsRow_block {w : World} {base t k n : Nat} {v : Value} {cs : List Value} (h : w.ownsRow base t k v n cs) : ∀ i, v.ownBlock = some i → base ≤ i ∧ ∃ cur, w.heap[i]? = some (.cells cur t (0, 0)) := by
  intro i hi
  rcases h.2 with ⟨rfl, _⟩ | ⟨g, cap, cur, rfl, hg, hh, r⟩
  · simp [Value.ownBlock] at hi
  · simp [Value.ownBlock] at hi; subst hi; exact ⟨hg, cur, hh⟩
theorem ownsRow_form {w : World} {base t k n : Nat} {v : Value} {cs : List Value} (h : w.ownsRow base t k v n cs) : ∃ sp cap, v = .slice sp n cap := by
  rcases h.2 with ⟨rfl, rfl⟩ | ⟨g, cap, cur, rfl, _⟩
  · exact ⟨none, 0, rfl⟩
  · exact ⟨_, _, rfl⟩
/-- append(own list of digests, one more). -/
theorem wpList_pushD {w : World} {ops : Array Oper} {rest : List Oper} {o : Oper} {a : Act} {Q : Exit → Act → World → Prop} (hgd : o.guard = none) (s x : Operand)
    (ho : o.op = .call { callee := .builtin .append, args := #[s, x], argTypes := #[26, 26] })
    (base : Nat) (v : Value) (n : Nat) (xs : List Value) (ks : List Value) (hs : a.eval s = v) (hown : w.ownsRow base 24 32 v n xs) (hx : a.eval x = .slice (some ⟨w.heap.size, 0, none⟩) 1 1) (hl : ks.length = 32) (h1 : ∀ y ∈ ks, y.oneCell' = true)
    (hlen : n + 1 ≤ 2000000) (hbase : base ≤ w.heap.size) (t : TypeId) (fr : Nat × Nat)
    (h : ∀ v' w', w'.ownsRow base 24 32 v' (n + 1) (xs ++ ks) → Below base w w' → wpList Tryd.prog ops Q rest (a.put o.dst v') w') :
    wpList Tryd.prog ops Q (o :: rest) a (w.alloc (.cells ks.toArray t fr)) := by
  obtain ⟨i5, z, hi5, hz5, hc5, hs5, hy5⟩ := infoD
  have hown' : (w.alloc (.cells ks.toArray t fr)).ownsRow base 24 32 v n xs := ownsRow_heap hown fun k hk => by
    obtain ⟨_, cur, hh⟩ := ownsRow_block hown k hk
    rw [hh]; exact hold hh
  refine wpList_append_own_at _ hgd s x 26 ho base 24 i5 z 32 32 Tryd.underlying26 hi5 hz5 hs5 hy5 hc5 (by decide) v n _ hs hown' ⟨w.heap.size, 0, none⟩ 1 1 ks hx (by omega) ?_ h1 (by unfold maxLen; omega) (by omega) (by simp; omega) ?_
  · intro j u hu
    rw [Addr.add_mid, Nat.zero_add, cell_of_row _ _ _ _ _ _ (hnew w _)]
    simpa using hu
  · intro v' w' q1 q2 _ q4
    exact h v' w' q1 (((Below.refl base w).alloc hbase _).trans (grown_keeps q2 (fun k hk => (ownsRow_block hown k hk).1) (by simp; omega)))
set_option maxRecDepth 100000 in
set_option maxHeartbeats 400000 in
theorem lwithin_any (k lo hi : Int) (h : lo ≤ hi) (w : World) : Calls Tryd.prog 7 #[.int .i64 k, .int .i64 lo, .int .i64 hi] w fun e w' => e = .returned (.int .i64 (min (max k lo) hi)) ∧ w' = w := by
  by_cases a : k < lo
  · rw [show min (max k lo) hi = lo by omega]
    go_enter Tryd.func7, Tryd.ntmps7
    go_wp2
    go_ret
    exact ⟨rfl, rfl⟩
  · by_cases b : hi < k
    · rw [show min (max k lo) hi = hi by omega]
      go_enter Tryd.func7, Tryd.ntmps7
      go_wp2
      go_ret
      exact ⟨rfl, rfl⟩
    · rw [show min (max k lo) hi = k by omega]
      go_enter Tryd.func7, Tryd.ntmps7
      go_wp2
      go_ret
      exact ⟨rfl, rfl⟩
/-- Digests one behind the other. -/
def emG (f : Nat → List Int) : Nat → List Value
  | 0 => []
  | n + 1 => emG f n ++ ints .u8 (f n)
theorem emG_len (f : Nat → List Int) (hf : ∀ i, (f i).length = 32) : ∀ n, (emG f n).length = 32 * n
  | 0 => rfl
  | n + 1 => by simp [emG, emG_len f hf n, ints_len, hf]; omega
theorem emG_get (f : Nat → List Int) (hf : ∀ i, (f i).length = 32) (i j : Nat) (hj : j < 32) : ∀ n, i < n → (emG f n)[i * 32 + j]? = (ints .u8 (f i))[j]?
  | n + 1, h => by
    unfold emG
    by_cases hc : i < n
    · rw [List.getElem?_append_left (by rw [emG_len f hf]; omega), emG_get f hf i j hj n hc]
    · obtain rfl : i = n := by omega
      rw [List.getElem?_append_right (by rw [emG_len f hf]; omega), emG_len f hf, show i * 32 + j - 32 * i = j by omega]
theorem rowG_rng {w : World} {base : Nat} {v : Value} {f : Nat → List Int} (hf : ∀ i, (f i).length = 32) {n : Nat} (h : w.ownsRow base 24 32 v n (emG f n)) (hp : 0 < n) : ∃ g cap, v = .slice (some ⟨g, 0, none⟩) n cap ∧ base ≤ g ∧ g < w.heap.size ∧ ∀ i, i < n → w.rangeAt g (i * 32) (ints .u8 (f i)) := by
  obtain ⟨h1, ⟨rfl, hn⟩ | ⟨g, cap, cur, rfl, hg, hh, hc, hm, hs, ht⟩⟩ := h
  · omega
  · refine ⟨g, cap, rfl, hg, hlt hh, fun i hi j u hu => ?_⟩
    have hj : j < 32 := by have := (List.getElem?_eq_some_iff.1 hu).1; rwa [ints_len, hf] at this
    rw [cell_of_row _ _ _ _ _ _ hh]
    have h3 := emG_get f hf i j hj n hi
    rw [hu, ← ht, List.getElem?_take, if_pos (by omega)] at h3
    simpa using h3
/-- A list of ints that came in. -/
def SrcI (w : World) (sp : Option Addr) (zs : List Int) : Prop := ∃ b o, (0 < zs.length → b < w.heap.size) ∧ (0 < zs.length → sp = some ⟨b, o, none⟩) ∧ ∀ j, j < zs.length → w.cell? ⟨b, o + j, none⟩ = some (.int .i64 (zs.getD j 0))
theorem hgt_nat (n : Nat) (h : n ≤ 256) : hgt (n : Int) = n := by unfold hgt; omega
set_option maxRecDepth 100000 in
set_option maxHeartbeats 8000000 in
theorem nodeTower_aux (w : World) (hG : Glob w) (k : Int) (xs : List Int) (sp : Option Addr) (cap : Nat) (hS : SrcI w sp xs) (hlen : xs.length ≤ 1048576) (T0 T5 T6 : List Int) (l0 : T0.length = 32) (l5 : T5.length = 32) (l6 : T6.length = 32) (z0 : T0 ≠ z32) (z1 : T6 ≠ T5)
    (Ka : Hid (∀ w1, Glob w1 → Calls Tryd.prog 6 #[.int .i64 32, .int .i64 0] w1 fun e w' => e = .returned (.agg (ints .u8 T0).toArray) ∧ Below w1.heap.size w1 w'))
    (Kb : Hid (∀ w1, Glob w1 → Calls Tryd.prog 6 #[.int .i64 32, .int .i64 256] w1 fun e w' => e = .returned (.agg (ints .u8 T6).toArray) ∧ Below w1.heap.size w1 w'))
    (Kc : Hid (∀ w1, Glob w1 → Calls Tryd.prog 6 #[.int .i64 32, .int .i64 255] w1 fun e w' => e = .returned (.agg (ints .u8 T5).toArray) ∧ Below w1.heap.size w1 w')) :
    Calls Tryd.prog 3 #[.int .i64 k, .slice sp xs.length cap] w fun e w' => e = .returned (.bool true) ∧ Below w.heap.size w w' := by
  obtain ⟨b, o, hb, hsp, hcell⟩ := hS
  have HC := hid hcell
  have KE := hid (fun w1 (h : Glob w1) (kk x : Int) => empty_any w1 h kk x)
  have q0 := eqD_ne T0 z32 l0 (show z32.length = 32 from rfl) z0
  have q1 := eqD_ne T6 T5 l6 l5 z1
  have g24 := Tryd.guardD
  have i0 : (xs.length : Int) ≤ 1048576 := by omega
  obtain ⟨f, hf⟩ : ∃ f : Nat → List Int, f = fun i => emptyD k (hgt (xs.getD i 0)) := ⟨_, rfl⟩
  have hfl : ∀ i, (f i).length = 32 := fun i => by rw [hf]; exact emptyD_len _ _
  have HF := hid (show ∀ i, emptyD k (hgt (xs.getD i 0)) = f i from fun i => by rw [hf])
  clear hf hcell
  generalize hN : xs.length = N at *
  go_enter Tryd.func3, Tryd.ntmps3
  go_wp2_with fail
  refine (Ka.out w hG).mono ?_
  rintro e w1 ⟨rfl, hb1⟩
  go_wp2_with (first | (refine wpList_zero_w (by rfl) 24 (by rfl) _ built_zeroD ?_))
  refine (Kb.out w1 (hG.below hb1 hG.1)).mono ?_
  rintro e w2 ⟨rfl, hb2⟩
  have hb2' := hb1.trans (hb2.mono hb1.size)
  clear q0 hb2 hb1 Ka Kb
  go_wp2_with fail
  refine (Kc.out w2 (hG.below hb2' hG.1)).mono ?_
  rintro e w3 ⟨rfl, hb3⟩
  have hb3' := hb2'.trans (hb3.mono hb2'.size)
  clear hb3 hb2' Kc
  go_wp2
  clear q1
  go_loopw [5, 6] (fun v iv wr => ∃ n : Nat, n ≤ N ∧ iv = .int .i64 n ∧ wr.ownsRow w.heap.size 24 32 v n (emG f n) ∧ Below w.heap.size w wr) (fun _ iv _ => N - (intOf iv).toNat)
  case atStart => exact ⟨0, Nat.zero_le _, rfl, ⟨rfl, Or.inl ⟨rfl, rfl⟩⟩, hb3'⟩
  case round =>
    clear hb3'
    obtain ⟨n, hn, rfl, hO, hB⟩ := hrel
    obtain ⟨spv, capv, rfl⟩ := ownsRow_form hO
    by_cases hlt' : n < N
    · have i1 : (n : Int) < (N : Int) := by omega
      obtain rfl := hsp (by omega)
      have cx := (hB.cell (p := ⟨b, o + n, none⟩) (hb (by omega))).trans (HC.out n hlt')
      have HFn := hid (HF.out n).symm
      have hD := hfl n
      generalize xs.getD n 0 = x at *
      have KW := hid (fun w1 => lwithin_any x 0 256 (by decide) w1)
      rw [show min (max x 0) 256 = ((hgt x : Nat) : Int) by unfold hgt; omega] at KW
      have hhl := hgt_le x
      have KE1 := hid (fun w1 (h : Glob w1) => KE.out w1 h k x)
      have KE2 := hid (fun w1 (h : Glob w1) => KE.out w1 h k ((hgt x : Nat) : Int))
      rw [hgt_nat (hgt x) hhl] at KE2
      have hD' : (emptyD k (hgt x)).length = 32 := emptyD_len _ _
      rw [HFn.out] at hD
      have HFn2 := hid (show f n = emptyD k (hgt x) from HFn.out)
      have KPm := hid (fun w1 (h : Glob w1) => KE.out w1 h k (((hgt x - 1 : Nat)) : Int))
      rw [hgt_nat (hgt x - 1) (by omega)] at KPm
      generalize hhe : hgt x = hh at *
      have qD := eqD_self (emptyD k hh) hD
      clear HFn hD' hhe
      have HFn := HFn2
      clear HFn2
      by_cases hp : hh = 0
      · subst hp
        have HZ0 := hid (show cutZ (sha [2]) (kept k) = emptyD k 0 from rfl)
        rw [show ((0 : Nat) : Int) = 0 from rfl] at KW KE2
        generalize emptyD k 0 = D at *
        go_wp2_with (first | (go_at_call 7; refine (KW.out _).mono ?_; rintro e w5 ⟨rfl, hw5⟩; obtain rfl := hw5.symm; clear KW))
        refine (KE1.out wr (hG.below hB hG.1)).mono ?_
        rintro e w3 ⟨rfl, hb3⟩
        have d1 := ((DR.nil wr).call hb3).alloc D 24
        clear hb3 KE1
        go_wp2_with (first | (refine wpList_store_row rfl 24 _ _ rfl _ _ rfl rfl 24 _ (by exact hnew _ (.cells (ints .u8 z32).toArray 24)) (by rw [Tryd.size24, ints_size, hD]) (by rw [ints_size, ints_size, hD]; rfl) (all_oneCell_toArray (ints_one .u8 _)) ?_; rw [setRow_alloc]))
        generalize w3.heap.size = b8 at *
        generalize w3.alloc (.cells (ints .u8 D).toArray 24) = w6 at *
        refine wp_region_noPanic ?_
        refine wp_region_held_drew (S := (fun w' => DR wr w' [(b8, D, 24)])) (by kernel_rfl) d1.drew (fun hHeld => ?_)
        refine wpAnyH_take (i := 0) (oi := { dst := some 36, op := Op.load 24 (Operand.tmp 8), type := 24, pos := "outright.go:114", after := #[], guard := none }) (v := .agg (ints .u8 D).toArray) rfl (by kernel_rfl) (by kernel_rfl) (by kernel_rfl) (fun _ _ _ h => h) (yieldsIf_load_mid (by rfl) 24 _ rfl b8 (0) rfl (ints .u8 D) _ (fun w hS => (DR.rng hS (.head _))) Tryd.underlying24 rfl (by rw [ints_len, hD]; rfl)) hHeld ?_
        try simp only [Act.put, List.setIfInBounds_toArray, List.set_cons_zero, List.set_cons_succ]
        refine wpAnyH_take (i := 1) (oi := { dst := some 37, op := Op.move (Operand.tmp 0), type := 3, pos := "outright.go:114", after := #[], guard := none }) (v := .int .i64 k) rfl (by kernel_rfl) (by kernel_rfl) (by kernel_rfl) (fun _ _ _ h => h) (Or.inl ⟨by rfl, by intro w hS; go_simp⟩) hHeld ?_
        try simp only [Act.put, List.setIfInBounds_toArray, List.set_cons_zero, List.set_cons_succ]
        refine wpAnyH_take (i := 2) (oi := { dst := some 38, op := Op.move (Operand.tmp 7), type := 3, pos := "outright.go:114", after := #[], guard := none }) (v := .int .i64 0) rfl (by kernel_rfl) (by kernel_rfl) (by kernel_rfl) (fun _ _ _ h => h) (Or.inl ⟨by rfl, by intro w hS; go_simp⟩) hHeld ?_
        try simp only [Act.put, List.setIfInBounds_toArray, List.set_cons_zero, List.set_cons_succ]
        refine wpAnyH_ready (rs := [3]) (by kernel_rfl) (by simp) ?_
        refine (AllReadyH.cons (o := { dst := some 39, op := Op.call { callee := Callee.value (Operand.func 6), args := #[Operand.tmp 37, Operand.tmp 38], argTypes := #[3, 3] }, type := 24, pos := "outright.go:114", after := #[{ on := 1, ground := Ground.data }, { on := 2, ground := Ground.data }], guard := none }) rfl (fun K hK => ?_) AllReadyH.nil)
        go_simp
        go_at_call 6
        refine (KE2.out _ (hG.below (hB.trans (hHeld.1.mono hB.size)) hG.1)).mono ?_
        rintro e w4 ⟨rfl, hb4⟩
        go_wp2_with fail
        refine hK.out _ _ (DR.call hHeld hb4) (fun hHeld2 => ?_)
        clear hK K hHeld
        have hHeld := hHeld2
        clear hHeld2
        try simp only [Act.put, List.setIfInBounds_toArray, List.set_cons_zero, List.set_cons_succ]
        refine wpAnyH_take (i := 4) (oi := { dst := some 40, op := Op.binOp BinOp.neq 24 (Operand.tmp 36) (Operand.tmp 39) 24, type := 4, pos := "outright.go:114", after := #[{ on := 0, ground := Ground.data }, { on := 3, ground := Ground.data }], guard := none }) (v := .bool false) rfl (by kernel_rfl) (by kernel_rfl) (by kernel_rfl) (fun _ _ _ h => h) (Or.inl ⟨by rfl, by intro w hS; go_simp⟩) hHeld ?_
        try simp only [Act.put, List.setIfInBounds_toArray, List.set_cons_zero, List.set_cons_succ]
        refine wpAnyH_done (by kernel_rfl) ?_ _
        refine NoPanic.normal ?_
        have d2 := hHeld
        clear hHeld d1
        obtain ⟨w5, hw5⟩ : ∃ w5, w5 = w4 := ⟨_, rfl⟩
        rw [← hw5] at d2 ⊢
        clear hw5
        go_wp2
        refine wp_region_noPanic ?_
        refine wp_region_held_drew (S := (fun w' => DR wr w' [(b8, D, 24)])) (by kernel_rfl) d2.drew (fun hHeld => ?_)
        refine wpAnyH_take (i := 0) (oi := { dst := some 53, op := Op.load 24 (Operand.tmp 8), type := 24, pos := "outright.go:122", after := #[], guard := none }) (v := .agg (ints .u8 D).toArray) rfl (by kernel_rfl) (by kernel_rfl) (by kernel_rfl) (fun _ _ _ h => h) (yieldsIf_load_mid (by rfl) 24 _ rfl b8 (0) rfl (ints .u8 D) _ (fun w hS => (DR.rng hS (.head _))) Tryd.underlying24 rfl (by rw [ints_len, hD]; rfl)) hHeld ?_
        try simp only [Act.put, List.setIfInBounds_toArray, List.set_cons_zero, List.set_cons_succ]
        refine wpAnyH_take (i := 3) (oi := { dst := some 56, op := Op.move (Operand.tmp 0), type := 3, pos := "outright.go:122", after := #[], guard := none }) (v := .int .i64 k) rfl (by kernel_rfl) (by kernel_rfl) (by kernel_rfl) (fun _ _ _ h => h) (Or.inl ⟨by rfl, by intro w hS; go_simp⟩) hHeld ?_
        try simp only [Act.put, List.setIfInBounds_toArray, List.set_cons_zero, List.set_cons_succ]
        refine wpAnyH_ready (rs := [1]) (by kernel_rfl) (by simp) ?_
        refine (AllReadyH.cons (o := { dst := some 54, op := Op.buildSlice 31 1 #[(0, Operand.const (Value.int IntKind.u8 2))], type := 31, pos := "outright.go:122", after := #[], guard := none }) rfl (fun K hK => ?_) AllReadyH.nil)
        go_simp
        have twS : Src (w5.drew.alloc (.cells (ints .u8 ([2] ++ [])).toArray 5)) (some ⟨w5.heap.size, 0, none⟩) 1 [2] := src_row (hnew w5.drew (.cells (ints .u8 ([2] ++ [])).toArray 5)) 1 (by simp) (by simp [maxLen])
        refine hK.out _ _ (DR.other hHeld _) (fun hHeld2 => ?_)
        clear hK K hHeld
        have hHeld := hHeld2
        clear hHeld2
        try simp only [Act.put, List.setIfInBounds_toArray, List.set_cons_zero, List.set_cons_succ]
        refine wpAnyH_ready (rs := [2]) (by kernel_rfl) (by simp) ?_
        refine (AllReadyH.cons (o := { dst := some 55, op := Op.call { callee := Callee.value (Operand.func 10), args := #[Operand.tmp 54], argTypes := #[31] }, type := 24, pos := "outright.go:122", after := #[{ on := 1, ground := Ground.data }], guard := none }) rfl (fun K hK => ?_) AllReadyH.nil)
        go_simp
        go_at_call 10
        refine (dsum_any _ [2] _ 1 twS (hG.below (hB.trans (hHeld.1.mono hB.size)) hG.1) (by simp)).mono ?_
        rintro e w4 ⟨rfl, hb4⟩
        go_wp2_with fail
        refine hK.out _ _ (DR.call hHeld hb4) (fun hHeld2 => ?_)
        clear hK K hHeld
        have hHeld := hHeld2
        clear hHeld2
        try simp only [Act.put, List.setIfInBounds_toArray, List.set_cons_zero, List.set_cons_succ]
        refine wpAnyH_ready (rs := [4]) (by kernel_rfl) (by simp) ?_
        refine (AllReadyH.cons (o := { dst := some 57, op := Op.call { callee := Callee.value (Operand.func 9), args := #[Operand.tmp 55, Operand.tmp 56], argTypes := #[24, 3] }, type := 24, pos := "outright.go:122", after := #[{ on := 2, ground := Ground.data }, { on := 3, ground := Ground.data }, { on := 2, ground := Ground.chain }], guard := none }) rfl (fun K hK => ?_) AllReadyH.nil)
        go_simp
        go_at_call 9
        refine (cutD_any (sha [2]) (sha_len _) k _).mono ?_
        rintro e w4 ⟨rfl, hb4⟩
        rw [HZ0.out]
        go_wp2_with fail
        refine hK.out _ _ (DR.call hHeld hb4) (fun hHeld2 => ?_)
        clear hK K hHeld
        have hHeld := hHeld2
        clear hHeld2
        try simp only [Act.put, List.setIfInBounds_toArray, List.set_cons_zero, List.set_cons_succ]
        refine wpAnyH_take (i := 5) (oi := { dst := some 58, op := Op.binOp BinOp.neq 24 (Operand.tmp 53) (Operand.tmp 57) 24, type := 4, pos := "outright.go:122", after := #[{ on := 0, ground := Ground.data }, { on := 4, ground := Ground.data }], guard := none }) (v := .bool false) rfl (by kernel_rfl) (by kernel_rfl) (by kernel_rfl) (fun _ _ _ h => h) (Or.inl ⟨by rfl, by intro w hS; go_simp⟩) hHeld ?_
        try simp only [Act.put, List.setIfInBounds_toArray, List.set_cons_zero, List.set_cons_succ]
        refine wpAnyH_done (by kernel_rfl) ?_ _
        refine NoPanic.normal ?_
        have d5 := hHeld
        clear hHeld
        have r8 := d5.row (.head _)
        have hB9 : Below w.heap.size w w4 := hB.trans (d5.1.mono hB.size)
        have hO9 := ownsRow_heap (w1 := w4) hO fun q hq => d5.1.block q (by obtain ⟨_, cur, hh⟩ := ownsRow_block hO q hq; exact hlt hh)
        have hs9 := hB9.size
        go_wp2_with (first | refine wpList_load_row rfl 24 _ rfl _ rfl 24 _ _ _ r8 Tryd.underlying24 rfl (by rw [ints_size, hD]; rfl) ?_ | refine wpList_sliceD rfl _ rfl (ints .u8 D) (by rw [ints_len, hD]) rfl ?_ | (at_builtin; refine wpList_pushD rfl (.tmp 59) (.tmp 61) rfl w.heap.size _ _ _ (ints .u8 D) rfl hO9 rfl (by rw [ints_len, hD]) (ints_one _ _) (by omega) hs9 _ _ ?_; intro v2 w2 hO2 hB2))
        go_roundw
        case rel => exact ⟨n + 1, by omega, by go_num, by rw [show emG f (n + 1) = emG f n ++ ints .u8 (f n) from rfl, HFn.out]; exact hO2, hB9.trans hB2⟩
        case measure => simp [intOf]; omega
      · have KBr := hid (fun w1 (h : Glob w1) => branch_to w1 h k (emptyD k (hh - 1)) (emptyD k (hh - 1)) (emptyD k hh) (emptyD_len _ _) (emptyD_len _ _) (by obtain ⟨m, rfl⟩ : ∃ m, hh = m + 1 := ⟨hh - 1, by omega⟩; rfl))
        have hBB := emptyD_len k (hh - 1)
        have i5 : (0 : Int) < (hh : Int) := by omega
        have i6 : (hh : Int) ≤ 256 := by omega
        have ee : ((hh - 1 : Nat) : Int) = (hh : Int) - 1 := by omega
        rw [ee] at KPm
        clear ee
        generalize emptyD k (hh - 1) = BB at *
        generalize emptyD k hh = D at *
        go_wp2_with (first | (go_at_call 7; refine (KW.out _).mono ?_; rintro e w5 ⟨rfl, hw5⟩; obtain rfl := hw5.symm; clear KW))
        refine (KE1.out wr (hG.below hB hG.1)).mono ?_
        rintro e w3 ⟨rfl, hb3⟩
        have d1 := ((DR.nil wr).call hb3).alloc D 24
        clear hb3 KE1
        go_wp2_with (first | (refine wpList_store_row rfl 24 _ _ rfl _ _ rfl rfl 24 _ (by exact hnew _ (.cells (ints .u8 z32).toArray 24)) (by rw [Tryd.size24, ints_size, hD]) (by rw [ints_size, ints_size, hD]; rfl) (all_oneCell_toArray (ints_one .u8 _)) ?_; rw [setRow_alloc]))
        generalize w3.heap.size = b8 at *
        generalize w3.alloc (.cells (ints .u8 D).toArray 24) = w6 at *
        refine wp_region_noPanic ?_
        refine wp_region_held_drew (S := (fun w' => DR wr w' [(b8, D, 24)])) (by kernel_rfl) d1.drew (fun hHeld => ?_)
        refine wpAnyH_take (i := 0) (oi := { dst := some 36, op := Op.load 24 (Operand.tmp 8), type := 24, pos := "outright.go:114", after := #[], guard := none }) (v := .agg (ints .u8 D).toArray) rfl (by kernel_rfl) (by kernel_rfl) (by kernel_rfl) (fun _ _ _ h => h) (yieldsIf_load_mid (by rfl) 24 _ rfl b8 (0) rfl (ints .u8 D) _ (fun w hS => (DR.rng hS (.head _))) Tryd.underlying24 rfl (by rw [ints_len, hD]; rfl)) hHeld ?_
        try simp only [Act.put, List.setIfInBounds_toArray, List.set_cons_zero, List.set_cons_succ]
        refine wpAnyH_take (i := 1) (oi := { dst := some 37, op := Op.move (Operand.tmp 0), type := 3, pos := "outright.go:114", after := #[], guard := none }) (v := .int .i64 k) rfl (by kernel_rfl) (by kernel_rfl) (by kernel_rfl) (fun _ _ _ h => h) (Or.inl ⟨by rfl, by intro w hS; go_simp⟩) hHeld ?_
        try simp only [Act.put, List.setIfInBounds_toArray, List.set_cons_zero, List.set_cons_succ]
        refine wpAnyH_take (i := 2) (oi := { dst := some 38, op := Op.move (Operand.tmp 7), type := 3, pos := "outright.go:114", after := #[], guard := none }) (v := .int .i64 hh) rfl (by kernel_rfl) (by kernel_rfl) (by kernel_rfl) (fun _ _ _ h => h) (Or.inl ⟨by rfl, by intro w hS; go_simp⟩) hHeld ?_
        try simp only [Act.put, List.setIfInBounds_toArray, List.set_cons_zero, List.set_cons_succ]
        refine wpAnyH_ready (rs := [3]) (by kernel_rfl) (by simp) ?_
        refine (AllReadyH.cons (o := { dst := some 39, op := Op.call { callee := Callee.value (Operand.func 6), args := #[Operand.tmp 37, Operand.tmp 38], argTypes := #[3, 3] }, type := 24, pos := "outright.go:114", after := #[{ on := 1, ground := Ground.data }, { on := 2, ground := Ground.data }], guard := none }) rfl (fun K hK => ?_) AllReadyH.nil)
        go_simp
        go_at_call 6
        refine (KE2.out _ (hG.below (hB.trans (hHeld.1.mono hB.size)) hG.1)).mono ?_
        rintro e w4 ⟨rfl, hb4⟩
        go_wp2_with fail
        refine hK.out _ _ (DR.call hHeld hb4) (fun hHeld2 => ?_)
        clear hK K hHeld
        have hHeld := hHeld2
        clear hHeld2
        try simp only [Act.put, List.setIfInBounds_toArray, List.set_cons_zero, List.set_cons_succ]
        refine wpAnyH_take (i := 4) (oi := { dst := some 40, op := Op.binOp BinOp.neq 24 (Operand.tmp 36) (Operand.tmp 39) 24, type := 4, pos := "outright.go:114", after := #[{ on := 0, ground := Ground.data }, { on := 3, ground := Ground.data }], guard := none }) (v := .bool false) rfl (by kernel_rfl) (by kernel_rfl) (by kernel_rfl) (fun _ _ _ h => h) (Or.inl ⟨by rfl, by intro w hS; go_simp⟩) hHeld ?_
        try simp only [Act.put, List.setIfInBounds_toArray, List.set_cons_zero, List.set_cons_succ]
        refine wpAnyH_done (by kernel_rfl) ?_ _
        refine NoPanic.normal ?_
        have d2 := hHeld
        clear hHeld d1
        go_wp2_with fail
        refine (KPm.out _ (hG.below (hB.trans (d2.1.mono hB.size)) hG.1)).mono ?_
        rintro e w7 ⟨rfl, hb7⟩
        have d4 := (d2.call hb7).alloc BB 24
        clear hb7 d2 KPm
        go_wp2_with (first | (refine wpList_store_row rfl 24 _ _ rfl _ _ rfl rfl 24 _ (by exact hnew _ (.cells (ints .u8 z32).toArray 24)) (by rw [Tryd.size24, ints_size, hBB]) (by rw [ints_size, ints_size, hBB]; rfl) (all_oneCell_toArray (ints_one .u8 _)) ?_; rw [setRow_alloc]))
        generalize w7.heap.size = b9 at *
        generalize w7.alloc (.cells (ints .u8 BB).toArray 24) = w8 at *
        refine wp_region_noPanic ?_
        refine wp_region_held_drew (S := (fun w' => DR wr w' [(b9, BB, 24), (b8, D, 24)])) (by kernel_rfl) d4.drew (fun hHeld => ?_)
        refine wpAnyH_take (i := 0) (oi := { dst := some 47, op := Op.load 24 (Operand.tmp 8), type := 24, pos := "outright.go:119", after := #[], guard := none }) (v := .agg (ints .u8 D).toArray) rfl (by kernel_rfl) (by kernel_rfl) (by kernel_rfl) (fun _ _ _ h => h) (yieldsIf_load_mid (by rfl) 24 _ rfl b8 (0) rfl (ints .u8 D) _ (fun w hS => (DR.rng hS (.tail _ (.head _)))) Tryd.underlying24 rfl (by rw [ints_len, hD]; rfl)) hHeld ?_
        try simp only [Act.put, List.setIfInBounds_toArray, List.set_cons_zero, List.set_cons_succ]
        refine wpAnyH_take (i := 1) (oi := { dst := some 48, op := Op.move (Operand.tmp 0), type := 3, pos := "outright.go:119", after := #[], guard := none }) (v := .int .i64 k) rfl (by kernel_rfl) (by kernel_rfl) (by kernel_rfl) (fun _ _ _ h => h) (Or.inl ⟨by rfl, by intro w hS; go_simp⟩) hHeld ?_
        try simp only [Act.put, List.setIfInBounds_toArray, List.set_cons_zero, List.set_cons_succ]
        refine wpAnyH_take (i := 2) (oi := { dst := some 49, op := Op.load 24 (Operand.tmp 9), type := 24, pos := "outright.go:119", after := #[], guard := none }) (v := .agg (ints .u8 BB).toArray) rfl (by kernel_rfl) (by kernel_rfl) (by kernel_rfl) (fun _ _ _ h => h) (yieldsIf_load_mid (by rfl) 24 _ rfl b9 (0) rfl (ints .u8 BB) _ (fun w hS => (DR.rng hS (.head _))) Tryd.underlying24 rfl (by rw [ints_len, hBB]; rfl)) hHeld ?_
        try simp only [Act.put, List.setIfInBounds_toArray, List.set_cons_zero, List.set_cons_succ]
        refine wpAnyH_take (i := 3) (oi := { dst := some 50, op := Op.load 24 (Operand.tmp 9), type := 24, pos := "outright.go:119", after := #[], guard := none }) (v := .agg (ints .u8 BB).toArray) rfl (by kernel_rfl) (by kernel_rfl) (by kernel_rfl) (fun _ _ _ h => h) (yieldsIf_load_mid (by rfl) 24 _ rfl b9 (0) rfl (ints .u8 BB) _ (fun w hS => (DR.rng hS (.head _))) Tryd.underlying24 rfl (by rw [ints_len, hBB]; rfl)) hHeld ?_
        try simp only [Act.put, List.setIfInBounds_toArray, List.set_cons_zero, List.set_cons_succ]
        refine wpAnyH_ready (rs := [4]) (by kernel_rfl) (by simp) ?_
        refine (AllReadyH.cons (o := { dst := some 51, op := Op.call { callee := Callee.value (Operand.func 8), args := #[Operand.tmp 48, Operand.tmp 49, Operand.tmp 50], argTypes := #[3, 24, 24] }, type := 24, pos := "outright.go:119", after := #[{ on := 1, ground := Ground.data }, { on := 2, ground := Ground.data }, { on := 3, ground := Ground.data }], guard := none }) rfl (fun K hK => ?_) AllReadyH.nil)
        go_simp
        go_at_call 8
        refine (KBr.out _ (hG.below (hB.trans (hHeld.1.mono hB.size)) hG.1)).mono ?_
        rintro e w4 ⟨rfl, hb4⟩
        go_wp2_with fail
        refine hK.out _ _ (DR.call hHeld hb4) (fun hHeld2 => ?_)
        clear hK K hHeld
        have hHeld := hHeld2
        clear hHeld2
        try simp only [Act.put, List.setIfInBounds_toArray, List.set_cons_zero, List.set_cons_succ]
        refine wpAnyH_take (i := 5) (oi := { dst := some 52, op := Op.binOp BinOp.neq 24 (Operand.tmp 47) (Operand.tmp 51) 24, type := 4, pos := "outright.go:119", after := #[{ on := 0, ground := Ground.data }, { on := 4, ground := Ground.data }], guard := none }) (v := .bool false) rfl (by kernel_rfl) (by kernel_rfl) (by kernel_rfl) (fun _ _ _ h => h) (Or.inl ⟨by rfl, by intro w hS; go_simp⟩) hHeld ?_
        try simp only [Act.put, List.setIfInBounds_toArray, List.set_cons_zero, List.set_cons_succ]
        refine wpAnyH_done (by kernel_rfl) ?_ _
        refine NoPanic.normal ?_
        have d5 := hHeld
        clear hHeld d4
        have r8 := d5.row (.tail _ (.head _))
        have hB9 : Below w.heap.size w w4 := hB.trans (d5.1.mono hB.size)
        have hO9 := ownsRow_heap (w1 := w4) hO fun q hq => d5.1.block q (by obtain ⟨_, cur, hh⟩ := ownsRow_block hO q hq; exact hlt hh)
        have hs9 := hB9.size
        go_wp2_with (first | refine wpList_load_row rfl 24 _ rfl _ rfl 24 _ _ _ r8 Tryd.underlying24 rfl (by rw [ints_size, hD]; rfl) ?_ | refine wpList_sliceD rfl _ rfl (ints .u8 D) (by rw [ints_len, hD]) rfl ?_ | (at_builtin; refine wpList_pushD rfl (.tmp 59) (.tmp 61) rfl w.heap.size _ _ _ (ints .u8 D) rfl hO9 rfl (by rw [ints_len, hD]) (ints_one _ _) (by omega) hs9 _ _ ?_; intro v2 w2 hO2 hB2))
        go_roundw
        case rel => exact ⟨n + 1, by omega, by go_num, by rw [show emG f (n + 1) = emG f n ++ ints .u8 (f n) from rfl, HFn.out]; exact hO2, hB9.trans hB2⟩
        case measure => simp [intOf]; omega
    · obtain rfl : N = n := by omega
      clear hlt'
      obtain ⟨wq, rfl⟩ : ∃ wq, wq = wr := ⟨_, rfl⟩
      have hO0 := hO
      go_wp2
      go_loopw [10] (fun iv wr2 => ∃ j : Nat, j ≤ N ∧ iv = .int .i64 ((j : Int) - 1) ∧ Below wq.heap.size wq wr2) (fun iv _ => (intOf iv + 1).toNat)
      case atStart => exact ⟨N, Nat.le_refl _, rfl, Below.refl _ _⟩
      case round =>
        obtain ⟨j, hj, rfl, hB2⟩ := hrel
        by_cases hp : j = 0
        · subst hp
          rw [show (((0 : Nat) : Int) - 1) = -1 from rfl]
          go_wp2
          go_ret
          exact ⟨rfl, hB.trans (hB2.mono hB.size)⟩
        · obtain ⟨m, rfl⟩ : ∃ m, j = m + 1 := ⟨j - 1, by omega⟩
          rw [show (((m + 1 : Nat) : Int) - 1) = (m : Int) by omega]
          obtain ⟨gg, cc, ev, hg1, hg2, hrn⟩ := rowG_rng hfl hO0 (by omega)
          obtain ⟨rfl, -, rfl⟩ : spv = some ⟨gg, 0, none⟩ ∧ True ∧ capv = cc := by simp only [Value.slice.injEq] at ev; exact ⟨ev.1, trivial, ev.2.2⟩
          obtain rfl := hsp (by omega)
          have cx := (hB.cell (p := ⟨b, o + m, none⟩) (hb (by omega))).trans (HC.out m (by omega))
          have HFm := hid (HF.out m)
          have hD := hfl m
          have hrm := hrn m (by omega)
          generalize xs.getD m 0 = x at *
          have KE1 := hid (fun w1 (h : Glob w1) => KE.out w1 h k x)
          rw [HFm.out] at KE1
          generalize f m = D at *
          have qD := eqD_self D hD
          have hbw : b < wq.heap.size := Nat.lt_of_lt_of_le (hb (by omega)) hB.size
          have i1 : (m : Int) < (N : Int) := by omega
          clear hrn HFm ev
          go_wp2
          refine wp_region_noPanic ?_
          refine wp_region_held_drew (S := (fun w' => Below wq.heap.size wq w' ∧ w'.rangeAt gg (m * 32) (ints .u8 D) ∧ w'.cell? ⟨b, o + m, none⟩ = some (.int .i64 x))) (by kernel_rfl) ⟨hB2.drew, rng_below hrm hB2.drew hg2, (hB2.drew.cell (p := ⟨b, o + m, none⟩) hbw).trans cx⟩ (fun hHeld => ?_)
          refine wpAnyH_take (i := 0) (oi := { dst := some 70, op := Op.move (Operand.tmp 0), type := 3, pos := "outright.go:128", after := #[], guard := none }) (v := .int .i64 k) rfl (by kernel_rfl) (by kernel_rfl) (by kernel_rfl) (fun _ _ _ h => h) (Or.inl ⟨by rfl, by intro w hS; go_simp⟩) hHeld ?_
          try simp only [Act.put, List.setIfInBounds_toArray, List.set_cons_zero, List.set_cons_succ]
          refine wpAnyH_take (i := 1) (oi := { dst := some 71, op := Op.move (Operand.tmp 1), type := 22, pos := "outright.go:128", after := #[], guard := none }) (v := .slice (some ⟨b, o, none⟩) N cap) rfl (by kernel_rfl) (by kernel_rfl) (by kernel_rfl) (fun _ _ _ h => h) (Or.inl ⟨by rfl, by intro w hS; go_simp⟩) hHeld ?_
          try simp only [Act.put, List.setIfInBounds_toArray, List.set_cons_zero, List.set_cons_succ]
          refine wpAnyH_take (i := 2) (oi := { dst := some 72, op := Op.move (Operand.tmp 10), type := 3, pos := "outright.go:128", after := #[], guard := none }) (v := .int .i64 m) rfl (by kernel_rfl) (by kernel_rfl) (by kernel_rfl) (fun _ _ _ h => h) (Or.inl ⟨by rfl, by intro w hS; go_simp⟩) hHeld ?_
          try simp only [Act.put, List.setIfInBounds_toArray, List.set_cons_zero, List.set_cons_succ]
          refine wpAnyH_take (i := 6) (oi := { dst := some 76, op := Op.move (Operand.tmp 5), type := 26, pos := "outright.go:128", after := #[], guard := none }) (v := .slice (some ⟨gg, 0, none⟩) N capv) rfl (by kernel_rfl) (by kernel_rfl) (by kernel_rfl) (fun _ _ _ h => h) (Or.inl ⟨by rfl, by intro w hS; go_simp⟩) hHeld ?_
          try simp only [Act.put, List.setIfInBounds_toArray, List.set_cons_zero, List.set_cons_succ]
          refine wpAnyH_take (i := 7) (oi := { dst := some 77, op := Op.move (Operand.tmp 10), type := 3, pos := "outright.go:128", after := #[], guard := none }) (v := .int .i64 m) rfl (by kernel_rfl) (by kernel_rfl) (by kernel_rfl) (fun _ _ _ h => h) (Or.inl ⟨by rfl, by intro w hS; go_simp⟩) hHeld ?_
          try simp only [Act.put, List.setIfInBounds_toArray, List.set_cons_zero, List.set_cons_succ]
          refine wpAnyH_take (i := 3) (oi := { dst := some 73, op := Op.indexAddr 22 (Operand.tmp 71) (Operand.tmp 72), type := 0, pos := "outright.go:128", after := #[{ on := 1, ground := Ground.data }, { on := 2, ground := Ground.data }], guard := none }) (v := .pointer (some ⟨b, o + m, none⟩)) rfl (by kernel_rfl) (by kernel_rfl) (by kernel_rfl) (fun _ _ _ h => h) (Or.inl ⟨by rfl, by intro w hS; (go_simp <;> (intro h; exfalso; omega))⟩) hHeld ?_
          try simp only [Act.put, List.setIfInBounds_toArray, List.set_cons_zero, List.set_cons_succ]
          refine wpAnyH_take (i := 8) (oi := { dst := some 78, op := Op.indexAddr 26 (Operand.tmp 76) (Operand.tmp 77), type := 0, pos := "outright.go:128", after := #[{ on := 6, ground := Ground.data }, { on := 7, ground := Ground.data }], guard := none }) (v := .pointer (some ⟨gg, m * 32, none⟩)) rfl (by kernel_rfl) (by kernel_rfl) (by kernel_rfl) (fun _ _ _ h => h) (Or.inl ⟨by rfl, by intro w hS; (go_simp <;> (intro h; exfalso; omega))⟩) hHeld ?_
          try simp only [Act.put, List.setIfInBounds_toArray, List.set_cons_zero, List.set_cons_succ]
          refine wpAnyH_take (i := 4) (oi := { dst := some 74, op := Op.load 3 (Operand.tmp 73), type := 3, pos := "outright.go:128", after := #[{ on := 3, ground := Ground.data }], guard := none }) (v := .int .i64 x) rfl (by kernel_rfl) (by kernel_rfl) (by kernel_rfl) (fun _ _ _ h => h) (Or.inl ⟨by rfl, by intro w hS; have hc := hS.2.2; go_simp⟩) hHeld ?_
          try simp only [Act.put, List.setIfInBounds_toArray, List.set_cons_zero, List.set_cons_succ]
          refine wpAnyH_take (i := 9) (oi := { dst := some 79, op := Op.load 24 (Operand.tmp 78), type := 24, pos := "outright.go:128", after := #[{ on := 8, ground := Ground.data }], guard := none }) (v := .agg (ints .u8 D).toArray) rfl (by kernel_rfl) (by kernel_rfl) (by kernel_rfl) (fun _ _ _ h => h) (yieldsIf_load_mid (by rfl) 24 _ rfl gg (m * 32) rfl (ints .u8 D) _ (fun w hS => hS.2.1) Tryd.underlying24 rfl (by rw [ints_len, hD]; rfl)) hHeld ?_
          try simp only [Act.put, List.setIfInBounds_toArray, List.set_cons_zero, List.set_cons_succ]
          refine wpAnyH_ready (rs := [5]) (by kernel_rfl) (by simp) ?_
          refine (AllReadyH.cons (o := { dst := some 75, op := Op.call { callee := Callee.value (Operand.func 6), args := #[Operand.tmp 70, Operand.tmp 74], argTypes := #[3, 3] }, type := 24, pos := "outright.go:128", after := #[{ on := 0, ground := Ground.data }, { on := 4, ground := Ground.data }], guard := none }) rfl (fun K hK => ?_) AllReadyH.nil)
          go_simp
          go_at_call 6
          refine (KE1.out _ (hG.below (hB.trans (hHeld.1.mono hB.size)) hG.1)).mono ?_
          rintro e w4 ⟨rfl, hb4⟩
          go_wp2_with fail
          refine hK.out _ _ (⟨hHeld.1.trans (hb4.mono hHeld.1.size), rng_below hHeld.2.1 hb4 (Nat.lt_of_lt_of_le hg2 hHeld.1.size), (hb4.cell (p := ⟨b, o + m, none⟩) (Nat.lt_of_lt_of_le hbw hHeld.1.size)).trans hHeld.2.2⟩) (fun hHeld2 => ?_)
          clear hK K hHeld
          have hHeld := hHeld2
          clear hHeld2
          try simp only [Act.put, List.setIfInBounds_toArray, List.set_cons_zero, List.set_cons_succ]
          refine wpAnyH_take (i := 10) (oi := { dst := some 80, op := Op.binOp BinOp.neq 24 (Operand.tmp 75) (Operand.tmp 79) 24, type := 4, pos := "outright.go:128", after := #[{ on := 5, ground := Ground.data }, { on := 9, ground := Ground.data }], guard := none }) (v := .bool false) rfl (by kernel_rfl) (by kernel_rfl) (by kernel_rfl) (fun _ _ _ h => h) (Or.inl ⟨by rfl, by intro w hS; go_simp⟩) hHeld ?_
          try simp only [Act.put, List.setIfInBounds_toArray, List.set_cons_zero, List.set_cons_succ]
          refine wpAnyH_done (by kernel_rfl) ?_ _
          refine NoPanic.normal ?_
          go_wp2
          go_roundw
          case rel => exact ⟨m, by omega, by go_num, hHeld.1⟩
          case measure => (simp [intOf] <;> omega)
theorem ea (w : World) (hG : Glob w) (h : Int) (n : Nat) (hn : hgt h = n) : Calls Tryd.prog 6 #[.int .i64 32, .int .i64 h] w fun e w' => e = .returned (.agg (ints .u8 (emptyD 32 n)).toArray) ∧ Below w.heap.size w w' := by
  rw [← hn]; exact empty_any w hG 32 h
theorem empty_z (k : Int) (hk : kept k = 32) : emptyD k 0 ≠ z32 := by
  show cutZ (sha [2]) (kept k) ≠ z32
  rw [hk, cutZ_full _ (sha_len _)]; exact sha2_ne
theorem nodeTower_any (w : World) (hG : Glob w) (k : Int) (xs : List Int) (sp : Option Addr) (cap : Nat) (hS : SrcI w sp xs) (hlen : xs.length ≤ 1048576) :
    Calls Tryd.prog 3 #[.int .i64 k, .slice sp xs.length cap] w fun e w' => e = .returned (.bool true) ∧ Below w.heap.size w w' :=
  nodeTower_aux w hG k xs sp cap hS hlen (emptyD 32 0) (emptyD 32 255) (emptyD 32 256) (emptyD_len _ _) (emptyD_len _ _) (emptyD_len _ _) (empty_z 32 (by decide)) tower_ne (hid fun w1 h => ea w1 h 0 0 (by decide)) (hid fun w1 h => ea w1 h 256 256 (by decide)) (hid fun w1 h => ea w1 h 255 255 (by decide))
end Go.Proofs.YtibpffoencjlcaaDoor
