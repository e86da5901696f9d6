import Derived.Test.YtpjfpepjledlmaaGreatDoorPr1
namespace Go.Proofs.YtpjfpepjledlmaaGreatDoor
set_option linter.unusedVariables false
set_option linter.unusedSimpArgs false
open Go.RowKit
open Go.Proofs.YtpjfpepjledlmaaGreatDoor.Ca (Ct ct0 ctC argV AS)
attribute [local go_sem ↓] Go.wp_at_zero Go.wp_at_succ

/-- A store with one page staged, of the kind 3. -/
structure Q1 (w : World) (base : Nat) (S : Sto) (st p : Nat) (n : Nat) : Prop where
  sk : SK w base S
  st : S.st = st
  p : S.p = p
  lv : liveF S.D S.ep = 0
  ma : S.s.ma = 2
  nx : S.nx = 2
  vs : S.vs = [(3, [1, 2, 3])]
  N : S.N ≤ n
  pw : S.D.power = true
  ep : 0 ≤ S.D.epoch ∧ S.D.epoch ≤ 1000
theorem Q1.below {w w1 : World} {base : Nat} {S : Sto} {st p n : Nat} (h : Q1 w base S st p n) (hb : Below w.heap.size w w1) : Q1 w1 base S st p n := ⟨h.sk.below hb, h.st, h.p, h.lv, h.ma, h.nx, h.vs, h.N, h.pw, h.ep⟩
theorem Q1.cl {w : World} {base : Nat} {S : Sto} {st p n : Nat} (h : Q1 w base S st p n) : S.cts.length = 1 := by rw [h.sk.cl, h.vs]; rfl
theorem Q1.live {w : World} {base : Nat} {S : Sto} {st p n : Nat} (h : Q1 w base S st p n) : Tel 20 #[.pointer (some ⟨st, 0, none⟩)] w 0 := fun w1 hb => by
  have := oLive_any w1 base S (h.sk.below hb)
  rw [h.lv, h.st] at this; exact this
theorem Q1.next {w : World} {base : Nat} {S : Sto} {st p n : Nat} (h : Q1 w base S st p n) : Tel 21 #[.pointer (some ⟨st, 0, none⟩)] w 3 := fun w1 hb => by
  have := oNext_any w1 base S (h.sk.below hb) (by rw [h.cl]; omega) (by rw [h.ma]; omega)
  rw [h.ma, h.cl, h.st] at this; exact this
theorem Q1.ready {w : World} {base : Nat} {S : Sto} {st p n : Nat} (h : Q1 w base S st p n) : Tel 12 #[.pointer (some ⟨st, 0, none⟩), .int .i64 2] w 0 := ready_two w st h.live h.next
/-- What a call that looks leaves. -/
def Lk (w : World) (base : Nat) (S : Sto) (st p n : Nat) (w' : World) : Prop := ∃ S', Q1 w' base S' st p (n + 1) ∧ (∀ k, k < w.heap.size → k ∉ S.FC → w'.heap[k]? = w.heap[k]?) ∧ Below base w w'
theorem Q1.nin {w : World} {base : Nat} {S : Sto} {st p n : Nat} (h : Q1 w base S st p n) {k : Nat} (hk : w.heap.size ≤ k) : k ∉ S.FC := fun z => by have := (h.sk.in_lt (k := k) (by simp [z])).2; omega
theorem Lk.from {w w0 w' : World} {base : Nat} {S : Sto} {st p n : Nat} (hb : Below w.heap.size w w0) (hB : base ≤ w.heap.size) (h : Lk w0 base S st p n w') : Lk w base S st p n w' := by
  obtain ⟨S', h1, h2, h3⟩ := h
  exact ⟨S', h1, fun k hk hn => (h2 k (Nat.lt_of_lt_of_le hk hb.size) hn).trans (hb.block k hk), (hb.mono hB).trans h3⟩
theorem Lk.then {w w1 w' : World} {base : Nat} {S : Sto} {st p n : Nat} (h : Lk w base S st p n w1) (hb : Below w1.heap.size w1 w') : Lk w base S st p n w' := by
  obtain ⟨S', h1, h2, h3⟩ := h
  exact ⟨S', h1.below hb, fun k hk hn => (hb.block k (Nat.lt_of_lt_of_le hk h3.size)).trans (h2 k hk hn), h3.trans (hb.mono h1.sk.base)⟩
/-- A row of the caller's own is written. -/
theorem Lk.row {w w1 : World} {base : Nat} {S : Sto} {st p n : Nat} (h : Lk w base S st p n w1) {g : Nat} {C : Array Value} {t : Nat} {cs : Array Value} (hr : w1.heap[g]? = some (.cells cs t (0, 0))) (hg : w.heap.size ≤ g) (hh : Q1 w base S st p n) (hC : C = cs) : Lk w base S st p n (w1.setRow g C) := by
  obtain ⟨S', h1, h2, h3⟩ := h
  have e : ∀ k, (w1.setRow g C).heap[k]? = w1.heap[k]? := fun k => by
    by_cases hk : k = g
    · subst hk
      have e1 : (w1.setRow k C).heap[k]? = some (.cells C t (0, 0)) := setRow_heap w1 _ _ _ _ _ hr
      rw [e1, hr, hC]
    · exact setRow_other w1 _ _ _ hk
  exact ⟨S', ⟨h1.sk.of_heap (fun k _ => e k) (by rw [size_setRow]; exact Nat.le_refl _), h1.st, h1.p, h1.lv, h1.ma, h1.nx, h1.vs, h1.N, h1.pw, h1.ep⟩, fun k hk hn => (e k).trans (h2 k hk hn), below_setRow h3 (Nat.le_trans hh.sk.base hg) C⟩
theorem Lk.drew {w w1 : World} {base : Nat} {S : Sto} {st p n : Nat} (h : Lk w base S st p n w1) : Lk w base S st p n w1.drew := h.then (Below.refl _ _).drew
set_option maxRecDepth 100000 in
set_option maxHeartbeats 2000000 in
/-- A look at a page that is no node. -/
theorem plook_bad (w : World) (base : Nat) (S : Sto) (st p n : Nat) (h : Q1 w base S st p n) (hn : n ≤ 1000) (X : Array Value) :
    Calls Tryz.prog 29 #[.pointer (some ⟨st, 0, none⟩), .agg #[.int .i64 2, .int .i64 0, .int .i64 4096, .int .i64 0], .agg X] w fun e w' => e = .returned (.tuple #[.agg nd0.toArray, .bool false]) ∧ Lk w base S st p n w' := by
  obtain rfl := h.st
  have hb1 : Below w.heap.size w (w.alloc (.cells #[.int .i64 2, .int .i64 0, .int .i64 4096, .int .i64 0] 86)) := (Below.refl _ w).alloc (Nat.le_refl _) _
  have hb2 := hb1.alloc hb1.size (.cells X 23)
  have hb3 := hb2.alloc hb2.size (.cells nd0.toArray 47)
  have hr6 := hnew ((w.alloc (.cells #[.int .i64 2, .int .i64 0, .int .i64 4096, .int .i64 0] 86)).alloc (.cells X 23)) (.cells nd0.toArray 47)
  rw [show ((w.alloc (.cells #[.int .i64 2, .int .i64 0, .int .i64 4096, .int .i64 0] 86)).alloc (.cells X 23)).heap.size = w.heap.size + 1 + 1 by simp] at hr6
  have h3 := h.below hb3
  have hk := h3.sk.held_key 0 (by rw [h3.cl]; omega)
  rw [h.ma, show (2 : Int) + ((0 : Nat) : Int) = 2 from rfl] at hk
  have hcv := h3.sk.cv 0 (by rw [h3.cl]; omega)
  rw [show S.vs.getD 0 (0, []) = (3, [1, 2, 3]) by rw [h.vs]; rfl] at hcv
  have LD := hid (oLoad_hit _ base S h3.sk h.lv (by rw [h.cl]; omega) (by rw [h.ma]; omega) (by have := h.N; omega) 2 (by rw [h.ma, h.cl]; omega) _ hk 3 [1, 2, 3] hcv)
  have H := hid h
  have H3 := hid h3
  have HB3 := hid hb3
  have AN := hid allocNd
  have DB := hid decode_bad
  have LZ := hid nd0_len
  have OZ := hid nd0_one
  have hN := hid (show (Tryz.prog.info? 47).map (·.size) = some nd0.toArray.size by rw [Tryz.sizeNd, List.size_toArray, nd0_len])
  generalize nd0 = Z at *
  have HR6 := hid hr6
  clear h h3 hk hcv hb1 hb2 hb3 hr6
  go_enter Tryz.func29, Tryz.ntmps29
  go_wp2_with (first | refine wpList_allocAny AN.out rfl rfl ?_)
  refine LD.out.mono ?_
  rintro e w4 ⟨FC, v, rfl, hO4, hK4, hF4, hG4⟩
  have hkeep : ∀ k, k < w.heap.size + 1 + 1 + 1 → k ∉ S.FC → w4.heap[k]? = (((w.alloc (.cells #[.int .i64 2, .int .i64 0, .int .i64 4096, .int .i64 0] 86)).alloc (.cells X 23)).alloc (.cells Z.toArray 47)).heap[k]? := fun k hk hn => hF4.block k (by simpa using hk) hn
  have r6 := (hkeep (w.heap.size + 1 + 1) (by omega) (H.out.nin (by omega))).trans HR6.out
  have hL4 : Lk w base S S.st p n w4 := Lk.from HB3.out H.out.sk.base ⟨_, ⟨hK4, rfl, H.out.p, H.out.lv, H.out.ma, H.out.nx, H.out.vs, by show S.N + 1 ≤ n + 1; have := H.out.N; omega, H.out.pw, H.out.ep⟩, fun k hk hn => hF4.block k hk hn, hF4.below (fun k hk => (H3.out.sk.in_lt (by simp [hk])).1) H3.out.sk.base⟩
  have HL4 := hid hL4
  have R6' := hid r6
  clear hO4 hK4 hF4 hG4 hkeep r6 hL4 LD HR6 HB3 H3
  go_wp2_with fail
  refine (DB.out w4 v).mono ?_
  rintro e w5 ⟨rfl, hb5⟩
  have HL5 := hid (HL4.out.then hb5)
  have R65 := hid ((hb5.block _ (hlt R6'.out)).trans R6'.out)
  clear hb5 HL4 R6' DB
  go_wp2_with (first
    | (refine wpList_new AN.out LZ.out Tryz.sizeNd rfl rfl rfl _ _ rfl rfl Z rfl rfl LZ.out OZ.out ?_; refine Hid.out ?_))
  refine hid ?_
  have hbn : Below w5.heap.size w5 (w5.alloc (.cells Z.toArray 47)) := (Below.refl _ w5).alloc (Nat.le_refl _) _
  have hr11 := hnew w5 (.cells Z.toArray 47)
  have HL := hid (HL5.out.then hbn)
  have R6 := hid ((hbn.block _ (hlt R65.out)).trans R65.out)
  have R11 := hid hr11
  have N6 := hid (show w5.heap.size ≠ w.heap.size + 1 + 1 by have := hlt R65.out; omega)
  have LO6 := hid (show w.heap.size ≤ w.heap.size + 1 + 1 by omega)
  generalize w5.alloc (.cells Z.toArray 47) = w6 at *
  clear hbn hr11 HL5 R65
  go_wp2_with fail
  generalize w5.heap.size = G11 at *
  generalize hG6 : w.heap.size + 1 + 1 = G6 at *
  generalize hGB : w.heap.size + 1 = GB at *
  refine wp_region_noPanic ?_
  refine wp_region_held_drew (S := fun w' => (w'.heap[G6]? = some (.cells Z.toArray 47 (0, 0)) ∧ w'.heap[G11]? = some (.cells Z.toArray 47 (0, 0))) ∧ Lk w base S S.st p n w') (by kernel_rfl) ⟨⟨R6.out, R11.out⟩, HL.out.drew⟩ (fun hHeld => ?_)
  refine wpAnyH_take (i := 0) (oi := { dst := some 35, op := Op.load 47 (Operand.tmp 11), type := 47, pos := "path.go:76", after := #[], guard := none }) (v := .agg Z.toArray) rfl (by kernel_rfl) (by kernel_rfl) (by kernel_rfl) (fun _ _ _ h => h) (yieldsIf_load_mid (by rfl) 47 (.tmp 11) rfl G11 0 rfl Z _ (fun w1 hS => rng hS.1.2) Tryz.underlying47 rfl (by rw [LZ.out]; kernel_rfl)) hHeld ?_
  try simp only [Act.put, List.setIfInBounds_toArray, List.set_cons_zero, List.set_cons_succ]
  refine wpAnyH_take (i := 1) (oi := { dst := some 36, op := Op.move (Operand.tmp 10), type := 29, pos := "path.go:76", after := #[], guard := none }) (v := .int .i64 90) rfl (by kernel_rfl) (by kernel_rfl) (by kernel_rfl) (fun _ _ _ h => h) (Or.inl ⟨by rfl, by intro w hS; go_simp⟩) hHeld ?_
  try simp only [Act.put, List.setIfInBounds_toArray, List.set_cons_zero, List.set_cons_succ]
  refine wpAnyH_take (i := 2) (oi := { dst := some 37, op := Op.binOp BinOp.eql 29 (Operand.tmp 36) (Operand.const (Value.int IntKind.i64 0)) 29, type := 4, pos := "path.go:76", after := #[{ on := 1, ground := Ground.data }], guard := none }) (v := .bool false) rfl (by kernel_rfl) (by kernel_rfl) (by kernel_rfl) (fun _ _ _ h => h) (Or.inl ⟨by rfl, by intro w hS; go_simp⟩) hHeld ?_
  try simp only [Act.put, List.setIfInBounds_toArray, List.set_cons_zero, List.set_cons_succ]
  refine wpAnyH_take (i := 3) (oi := { dst := some 38, op := Op.move (Operand.tmp 37), type := 4, pos := "path.go:76", after := #[{ on := 2, ground := Ground.data }], guard := none }) (v := .bool false) rfl (by kernel_rfl) (by kernel_rfl) (by kernel_rfl) (fun _ _ _ h => h) (Or.inl ⟨by rfl, by intro w hS; go_simp⟩) hHeld ?_
  try simp only [Act.put, List.setIfInBounds_toArray, List.set_cons_zero, List.set_cons_succ]
  refine wpAnyH_take (i := 4) (oi := { dst := some 39, op := Op.load 86 (Operand.tmp 4), type := 86, pos := "path.go:76", after := #[{ on := 3, ground := Ground.guard }], guard := some (3, true) }) (v := undef) rfl (by kernel_rfl) (by kernel_rfl) (by kernel_rfl) (fun _ _ _ h => h) (Or.inr ⟨by rfl, rfl⟩) hHeld ?_
  try simp only [Act.put, List.setIfInBounds_toArray, List.set_cons_zero, List.set_cons_succ]
  refine wpAnyH_take (i := 5) (oi := { dst := some 40, op := Op.load 47 (Operand.tmp 11), type := 47, pos := "path.go:76", after := #[{ on := 3, ground := Ground.guard }], guard := some (3, true) }) (v := undef) rfl (by kernel_rfl) (by kernel_rfl) (by kernel_rfl) (fun _ _ _ h => h) (Or.inr ⟨by rfl, rfl⟩) hHeld ?_
  try simp only [Act.put, List.setIfInBounds_toArray, List.set_cons_zero, List.set_cons_succ]
  refine wpAnyH_take (i := 6) (oi := { dst := some 41, op := Op.load 23 (Operand.tmp 5), type := 23, pos := "path.go:76", after := #[{ on := 3, ground := Ground.guard }], guard := some (3, true) }) (v := undef) rfl (by kernel_rfl) (by kernel_rfl) (by kernel_rfl) (fun _ _ _ h => h) (Or.inr ⟨by rfl, rfl⟩) hHeld ?_
  try simp only [Act.put, List.setIfInBounds_toArray, List.set_cons_zero, List.set_cons_succ]
  refine wpAnyH_take (i := 7) (oi := { dst := some 42, op := Op.call { callee := Callee.value (Operand.func 51), args := #[Operand.tmp 39, Operand.tmp 40, Operand.tmp 41], argTypes := #[86, 47, 23] }, type := 4, pos := "path.go:76", after := #[{ on := 4, ground := Ground.data }, { on := 5, ground := Ground.data }, { on := 6, ground := Ground.data }, { on := 3, ground := Ground.chain }, { on := 3, ground := Ground.guard }], guard := some (3, true) }) (v := undef) rfl (by kernel_rfl) (by kernel_rfl) (by kernel_rfl) (fun _ _ _ h => h) (Or.inr ⟨by rfl, rfl⟩) hHeld ?_
  try simp only [Act.put, List.setIfInBounds_toArray, List.set_cons_zero, List.set_cons_succ]
  refine wpAnyH_take (i := 8) (oi := { dst := some 43, op := Op.pick (Operand.tmp 38) (Operand.tmp 42) (Operand.const (Value.bool false)), type := 4, pos := "path.go:76", after := #[{ on := 3, ground := Ground.data }, { on := 7, ground := Ground.data }, { on := 9, ground := Ground.gcOnly Departure.lateStores }], guard := none }) (v := .bool false) rfl (by kernel_rfl) (by kernel_rfl) (by kernel_rfl) (fun _ _ _ h => h) (Or.inl ⟨by rfl, by intro w hS; go_simp⟩) hHeld ?_
  try simp only [Act.put, List.setIfInBounds_toArray, List.set_cons_zero, List.set_cons_succ]
  refine wpAnyH_ready (rs := [9]) (by kernel_rfl) (by simp) ?_
  refine (AllReadyH.cons (o := { dst := none, op := Op.store 47 (Operand.tmp 6) (Operand.tmp 35), type := 0, pos := "path.go:76", after := #[{ on := 0, ground := Ground.data }, { on := 7, ground := Ground.chain }, { on := 0, ground := Ground.phase }, { on := 1, ground := Ground.textOnly Departure.lateStores }, { on := 2, ground := Ground.textOnly Departure.lateStores }, { on := 3, ground := Ground.textOnly Departure.lateStores }, { on := 4, ground := Ground.textOnly Departure.lateStores }, { on := 5, ground := Ground.textOnly Departure.lateStores }, { on := 6, ground := Ground.textOnly Departure.lateStores }, { on := 7, ground := Ground.textOnly Departure.lateStoresUnsure }, { on := 8, ground := Ground.textOnly Departure.lateStores }], guard := none }) rfl (fun K hK => ?_) AllReadyH.nil)
  refine step_storeRowC rfl 47 (.tmp 6) (.tmp 35) rfl G6 Z.toArray rfl rfl 47 Z.toArray hHeld.1.1 hN.out rfl (all_oneCell_toArray OZ.out) ?_
  refine hK.out _ _ (⟨⟨setRow_heap _ _ _ _ _ _ hHeld.1.1, (setRow_other _ _ _ _ N6.out).trans hHeld.1.2⟩, hHeld.2.row hHeld.1.1 LO6.out H.out rfl⟩) (fun hHeld2 => ?_)
  clear hK K hHeld
  have hHeld := hHeld2
  clear hHeld2
  try simp only [Act.put, List.setIfInBounds_toArray, List.set_cons_zero, List.set_cons_succ]
  refine wpAnyH_take (i := 10) (oi := { dst := some 7, op := Op.assign (Operand.tmp 43), type := 4, pos := "path.go:76", after := #[{ on := 8, ground := Ground.data }, { on := 9, ground := Ground.chain }, { on := 0, ground := Ground.phase }, { on := 1, ground := Ground.phase }, { on := 2, ground := Ground.phase }, { on := 3, ground := Ground.phase }, { on := 4, ground := Ground.phase }, { on := 5, ground := Ground.phase }, { on := 6, ground := Ground.phase }, { on := 7, ground := Ground.phase }, { on := 8, ground := Ground.phase }, { on := 9, ground := Ground.phase }], guard := none }) (v := .bool false) rfl (by kernel_rfl) (by kernel_rfl) (by kernel_rfl) (fun _ _ _ h => h) (Or.inl ⟨by rfl, by intro w hS; go_simp⟩) hHeld ?_
  try simp only [Act.put, List.setIfInBounds_toArray, List.set_cons_zero, List.set_cons_succ]
  refine wpAnyH_done (by kernel_rfl) ?_ _
  refine NoPanic.normal ?_
  go_wp2_with fail
  exact bodyPost_ret (v := .tuple #[.agg Z.toArray, .bool false]) (results_c2 Tryz.results29 _ _ G6 47 _ _ _ rfl hHeld.1.1 Tryz.underlying47 rfl hN.out) rfl ⟨rfl, hHeld.2⟩
set_option maxRecDepth 100000 in
set_option maxHeartbeats 2000000 in
theorem pfollow_bad (w : World) (base : Nat) (S : Sto) (st p n : Nat) (h : Q1 w base S st p n) (hn : n ≤ 1000) (X : List Value) (lX : X.length = 32) (oX : ∀ v ∈ X, v.oneCell' = true) :
    Calls Tryz.prog 13 #[.pointer (some ⟨st, 0, none⟩), .int .i64 2, .agg X.toArray] w fun e w' => e = .returned (.tuple #[.agg (ptK (ints .u8 z32)).toArray, .int .i64 4]) ∧ Lk w base S st p n w' := by
  have hb1 : Below w.heap.size w (w.alloc (.cells X.toArray 23)) := (Below.refl _ w).alloc (Nat.le_refl _) _
  have hb2 := hb1.alloc hb1.size (.cells (ptK (ints .u8 z32)).toArray 49)
  have hr5 : ((w.alloc (.cells X.toArray 23)).alloc (.cells (ptK (ints .u8 z32)).toArray 49)).heap[w.heap.size]? = some (.cells X.toArray 23 (0, 0)) := hold (hnew w _)
  have hr6 := hnew (w.alloc (.cells X.toArray 23)) (.cells (ptK (ints .u8 z32)).toArray 49)
  rw [show (w.alloc (.cells X.toArray 23)).heap.size = w.heap.size + 1 by simp] at hr6
  have LK := hid (fun w1 (hb : Below w.heap.size w w1) => plook_bad w1 base S st p n (h.below hb) hn X.toArray)
  have H := hid h
  have AP := hid allocPt
  have AN := hid allocNd
  have LN := hid nd0_len
  have ON := hid nd0_one
  have BP := hid (built_ptK X lX)
  have B0 := hid built_pt0
  have LX := hid (ptK_len lX)
  have OX := hid (ptK_one oX)
  have LZ := hid (ptK_len (K := ints .u8 z32) rfl)
  have OZ := hid (ptK_one (ints_one .u8 z32))
  have hS5 := hid (show (Tryz.prog.info? 23).map (·.size) = some X.toArray.size by rw [List.size_toArray, lX]; kernel_rfl)
  have hN := hid (show (Tryz.prog.info? 49).map (·.size) = some (ptK (ints .u8 z32)).toArray.size by rw [Tryz.sizePt, List.size_toArray, LZ.out])
  generalize ptK (ints .u8 z32) = Z at *
  generalize ptK X = Y at *
  generalize nd0 = M at *
  clear h
  go_enter Tryz.func13, Tryz.ntmps13
  go_wp2_with (first
    | (refine wpList_new AP.out LZ.out Tryz.sizePt rfl rfl rfl _ _ rfl rfl Y rfl rfl LX.out OX.out ?_; refine Hid.out ?_)
    | refine wpList_allocAny AP.out rfl rfl ?_
    | refine wpList_load_row_w (by rfl) 23 _ (by rfl) _ (by rfl) 23 _ _ _ hr5 Tryz.underlying23 rfl hS5.out ?_
    | refine wpList_built (by rfl) 49 _ rfl _ rfl _ BP.out ?_)
  refine hid ?_
  have hb3 := hb2.alloc hb2.size (.cells Y.toArray 49)
  have q5 := hold (o := .cells Y.toArray 49) hr5
  have q6 := hold (o := .cells Y.toArray 49) hr6
  have hg3 : w.heap.size + 1 < (((w.alloc (.cells X.toArray 23)).alloc (.cells Z.toArray 49)).alloc (.cells Y.toArray 49)).heap.size := hlt q6
  generalize ((w.alloc (.cells X.toArray 23)).alloc (.cells Z.toArray 49)).alloc (.cells Y.toArray 49) = w3 at *
  clear hb1 hb2 hr5 hr6
  have hb4 := hb3.alloc hb3.size (.cells #[.int .i64 2, .int .i64 0, .int .i64 4096, .int .i64 0] 86)
  have R5 := hid (hold (o := .cells #[.int .i64 2, .int .i64 0, .int .i64 4096, .int .i64 0] 86) q5)
  have R6 := hid (hold (o := .cells #[.int .i64 2, .int .i64 0, .int .i64 4096, .int .i64 0] 86) q6)
  have R9 := hid (hnew w3 (.cells #[.int .i64 2, .int .i64 0, .int .i64 4096, .int .i64 0] 86))
  have HB4 := hid hb4
  clear q5 q6 hb3 hb4
  go_wp2_with fail
  generalize hW : w3.alloc (.cells #[.int .i64 2, .int .i64 0, .int .i64 4096, .int .i64 0] 86) = w4 at *
  have c0 : w4.cell? ⟨w3.heap.size, 0, none⟩ = some (.int .i64 2) := by rw [cell_of_row _ _ _ _ _ _ R9.out]; rfl
  have c1 : w4.cell? ⟨w3.heap.size, 1, none⟩ = some (.int .i64 0) := by rw [cell_of_row _ _ _ _ _ _ R9.out]; rfl
  have c2 : w4.cell? ⟨w3.heap.size, 2, none⟩ = some (.int .i64 4096) := by rw [cell_of_row _ _ _ _ _ _ R9.out]; rfl
  have c3 : w4.cell? ⟨w3.heap.size, 3, none⟩ = some (.int .i64 0) := by rw [cell_of_row _ _ _ _ _ _ R9.out]; rfl
  have r5 := R5.out
  clear hW
  go_loopw [10] (fun _ w' => w' = w4) (fun _ _ => 0)
  case atStart => rfl
  case round =>
    obtain rfl := hrel
    go_wp2_with (first | refine wpList_load_row_w (by rfl) 23 _ (by rfl) _ (by rfl) 23 _ _ _ r5 Tryz.underlying23 rfl hS5.out ?_)
    refine (LK.out _ HB4.out).mono ?_
    rintro e w5 ⟨rfl, S5, hQ5, hk5, hb5⟩
    have HL5 := hid (Lk.from HB4.out H.out.sk.base ⟨S5, hQ5, hk5, hb5⟩)
    have R65 := hid ((hk5 _ (hlt R6.out) (H.out.nin (by omega))).trans R6.out)
    clear hQ5 hk5 hb5 c0 c1 c2 c3 r5 LK R5 R6 R9
    go_wp2_with (first
      | (refine wpList_new AN.out LN.out Tryz.sizeNd rfl rfl rfl _ _ rfl rfl M rfl rfl LN.out ON.out ?_; refine Hid.out ?_))
    refine hid ?_
    have hbn : Below w5.heap.size w5 (w5.alloc (.cells M.toArray 47)) := (Below.refl _ w5).alloc (Nat.le_refl _) _
    have hL6 := HL5.out.then hbn
    have r66 := (hbn.block _ (hlt R65.out)).trans R65.out
    generalize w5.alloc (.cells M.toArray 47) = w6 at *
    have HL7 := hid (hL6.row (C := Z.toArray) r66 (show w.heap.size ≤ w.heap.size + 1 by omega) H.out rfl)
    have r7 : (w6.setRow (w.heap.size + 1) Z.toArray).heap[w.heap.size + 1]? = _ := setRow_heap w6 _ _ _ _ _ r66
    have R7 := hid r7
    clear hbn hL6 HL5 R65 r7
    go_wp2_with (first
      | refine wpList_built (by rfl) 49 _ rfl _ rfl _ B0.out ?_
      | refine wpList_store_row (by rfl) 49 (.tmp 6) (.tmp 30) (by rfl) (w.heap.size + 1) Z.toArray (by rfl) (by rfl) 49 Z.toArray (by exact r66) hN.out rfl (all_oneCell_toArray OZ.out) ?_)
    exact bodyPost_ret (v := .tuple #[.agg Z.toArray, .int .i64 4]) (results_c2 Tryz.results13 _ _ (w.heap.size + 1) 49 _ _ _ rfl R7.out Tryz.underlying49 rfl hN.out) rfl ⟨rfl, HL7.out⟩
set_option maxRecDepth 100000 in
set_option maxHeartbeats 2000000 in
theorem prove_cor (w : World) (base : Nat) (S : Sto) (st p n : Nat) (h : Q1 w base S st p n) (hn : n ≤ 1000) (X : List Value) (lX : X.length = 32) (oX : ∀ v ∈ X, v.oneCell' = true) :
    Calls Tryz.prog 5 #[.pointer (some ⟨st, 0, none⟩), .int .i64 2, .agg X.toArray] w fun e w' => e = .returned (.tuple #[.agg pf0.toArray, .int .i64 4]) ∧ Lk w base S st p n w' := by
  have hb1 : Below w.heap.size w (w.alloc (.cells X.toArray 23)) := (Below.refl _ w).alloc (Nat.le_refl _) _
  have hb2 := hb1.alloc hb1.size (.cells pf0.toArray 28)
  have hr5 : ((w.alloc (.cells X.toArray 23)).alloc (.cells pf0.toArray 28)).heap[w.heap.size]? = some (.cells X.toArray 23 (0, 0)) := hold (hnew w _)
  have hr6 := hnew (w.alloc (.cells X.toArray 23)) (.cells pf0.toArray 28)
  rw [show (w.alloc (.cells X.toArray 23)).heap.size = w.heap.size + 1 by simp] at hr6
  have HRD := hid (h.ready _ hb2)
  have FO := hid (fun w1 (hb : Below w.heap.size w w1) => pfollow_bad w1 base S st p n (h.below hb) hn X lX oX)
  have H := hid h
  have HB2 := hid hb2
  have AP := hid allocPf
  have AT := hid allocPt
  have B0 := hid built_pf0
  have LP := hid pf0_len
  have OP := hid pf0_one
  have LZ := hid (ptK_len (K := ints .u8 z32) rfl)
  have OZ := hid (ptK_one (ints_one .u8 z32))
  have hS5 := hid (show (Tryz.prog.info? 23).map (·.size) = some X.toArray.size by rw [List.size_toArray, lX]; kernel_rfl)
  have hN := hid (show (Tryz.prog.info? 28).map (·.size) = some pf0.toArray.size by rw [Tryz.sizePf, List.size_toArray, LP.out])
  generalize ptK (ints .u8 z32) = Z at *
  generalize pf0 = C at *
  have HR5 := hid hr5
  have HR6 := hid hr6
  clear h hb1 hb2 hr5 hr6
  go_enter Tryz.func5, Tryz.ntmps5
  go_wp2_with (first | refine wpList_allocAny AP.out rfl rfl ?_)
  refine HRD.out.mono ?_
  rintro e w3 ⟨rfl, hb3⟩
  have r5 := (hb3.block _ (hlt HR5.out)).trans HR5.out
  have R6 := hid ((hb3.block _ (hlt HR6.out)).trans HR6.out)
  have HB3 := hid (HB2.out.trans (hb3.mono HB2.out.size))
  clear hb3 HR5 HR6 HB2 HRD
  go_wp2_with (first | refine wpList_load_row_w (by rfl) 23 _ (by rfl) _ (by rfl) 23 _ _ _ r5 Tryz.underlying23 rfl hS5.out ?_)
  refine (FO.out w3 HB3.out).mono ?_
  rintro e w4 ⟨rfl, S4, hQ4, hk4, hb4⟩
  have HL4 := hid (Lk.from HB3.out H.out.sk.base ⟨S4, hQ4, hk4, hb4⟩)
  have R64 := hid ((hk4 _ (hlt R6.out) (H.out.nin (by omega))).trans R6.out)
  clear hQ4 hk4 hb4 r5 R6 HB3 FO
  go_wp2_with (first
    | (refine wpList_new AT.out LZ.out Tryz.sizePt rfl rfl rfl _ _ rfl rfl Z rfl rfl LZ.out OZ.out ?_; refine Hid.out ?_))
  refine hid ?_
  have hbn : Below w4.heap.size w4 (w4.alloc (.cells Z.toArray 49)) := (Below.refl _ w4).alloc (Nat.le_refl _) _
  have hL5 := HL4.out.then hbn
  have r66 := (hbn.block _ (hlt R64.out)).trans R64.out
  generalize w4.alloc (.cells Z.toArray 49) = w5 at *
  have HL7 := hid (hL5.row (C := C.toArray) r66 (show w.heap.size ≤ w.heap.size + 1 by omega) H.out rfl)
  have r7 : (w5.setRow (w.heap.size + 1) C.toArray).heap[w.heap.size + 1]? = _ := setRow_heap w5 _ _ _ _ _ r66
  have R7 := hid r7
  clear hbn hL5 HL4 R64 r7
  go_wp2_with (first
    | refine wpList_built (by rfl) 28 _ rfl _ rfl _ B0.out ?_
    | refine wpList_store_row (by rfl) 28 (.tmp 6) (.tmp 27) (by rfl) (w.heap.size + 1) C.toArray (by rfl) (by rfl) 28 C.toArray (by exact r66) hN.out rfl (all_oneCell_toArray OP.out) ?_)
  exact bodyPost_ret (v := .tuple #[.agg C.toArray, .int .i64 4]) (results_c2 Tryz.results5 _ _ (w.heap.size + 1) 28 _ _ _ rfl R7.out Tryz.underlying28 rfl hN.out) rfl ⟨rfl, HL7.out⟩
end Go.Proofs.YtpjfpepjledlmaaGreatDoor
