import Derived.Test.YthmbeflplcfaaaaRb1
namespace Go.Proofs.Ythmbeflplcfaaaa
set_option linter.unusedVariables false
set_option linter.unusedSimpArgs false
open Go.RowKit
attribute [local go_sem ↓] Go.wp_at_zero Go.wp_at_succ

theorem results_tc {P : Program} {fn : Func} {p q : Tmp} {ty : TypeId} (h : fn.results = #[.tmp q, .cell p ty]) (tmps : Array Value) (w : World) (g : Nat) (t : TypeId) (cs : Array Value) (fr : Nat × Nat) (d : TypeDesc)
    (hp : tmps.getD p undef = .pointer (some ⟨g, 0, none⟩)) (hg : w.heap[g]? = some (.cells cs t fr))
    (hu : P.underlying ty = some d) (hd : (match d with | .struct _ | .array _ _ => true | _ => false) = true) (hi : (P.info? ty).map (·.size) = some cs.size) :
    (results fn tmps).run P w = .ok (.tuple #[tmps.getD q undef, .agg cs]) w := by
  have hp' : tmps[p]?.getD undef = .pointer (some ⟨g, 0, none⟩) := by simpa using hp
  simp [results, h, hp', asAddr, run_loadVar_row w g t ty cs fr d hg hu hd hi]
theorem Try.guardD : Try.prog.eqGuardType Try.prog.depth 23 = false := by kernel_rfl
theorem eqD_self (xs : List Int) (ha : xs.length = 32) (w : World) : (Op.equalIn 10000 23 (.agg (ints .u8 xs).toArray) (.agg (ints .u8 xs).toArray)).run Try.prog w = .ok true w := by
  have := eqIn_ints Try.underlying23 Try.underlying5 Try.size5 .u8 9998 xs xs ha ha w
  rw [decide_eq_true rfl] at this; exact this
/-- A session in memory. -/
def Ses (w : World) (p : Nat) (ver wd : Int) (r : List Int) : Prop := w.heap[p]? = some (.cells (seC ver wd r).toArray 38 (0, 0)) ∧ r.length = 32
theorem Ses.ver {w : World} {p : Nat} {ver wd : Int} {r : List Int} (h : Ses w p ver wd r) : w.cell? ⟨p, 0, none⟩ = some (.int .i64 ver) := by rw [cell_of_row _ _ _ _ _ _ h.1]; rfl
theorem Ses.root {w : World} {p : Nat} {ver wd : Int} {r : List Int} (h : Ses w p ver wd r) : w.rangeAt p 1 (ints .u8 r) := fun j v hv => by
  show w.cell? ⟨p, 1 + j, none⟩ = some v
  rw [cell_of_row _ _ _ _ _ _ h.1, List.getElem?_toArray]
  unfold seC
  rw [Nat.add_comm, List.getElem?_cons_succ, List.getElem?_append_left (List.getElem?_eq_some_iff.1 hv).1]; exact hv
theorem Ses.below {w w1 : World} {B p : Nat} {ver wd : Int} {r : List Int} (h : Ses w p ver wd r) (hb : Below B w w1) (hp : p < B) : Ses w1 p ver wd r := ⟨hbel hb h.1 hp, h.2⟩
def Sxs (w : World) (p : Nat) (wd ver : Int) (r : List Int) : Prop := w.heap[p]? = some (.cells (sxC wd ver r).toArray 42 (0, 0)) ∧ r.length = 32
theorem Sxs.ver {w : World} {p : Nat} {ver wd : Int} {r : List Int} (h : Sxs w p wd ver r) : w.cell? ⟨p, 1, none⟩ = some (.int .i64 ver) := by rw [cell_of_row _ _ _ _ _ _ h.1]; rfl
theorem Sxs.root {w : World} {p : Nat} {ver wd : Int} {r : List Int} (h : Sxs w p wd ver r) : w.rangeAt p 2 (ints .u8 r) := fun j v hv => by
  show w.cell? ⟨p, 2 + j, none⟩ = some v
  rw [cell_of_row _ _ _ _ _ _ h.1, List.getElem?_toArray]
  unfold sxC
  rw [Nat.add_comm]; exact hv
theorem Sxs.below {w w1 : World} {B p : Nat} {ver wd : Int} {r : List Int} (h : Sxs w p wd ver r) (hb : Below B w w1) (hp : p < B) : Sxs w1 p wd ver r := ⟨hbel hb h.1 hp, h.2⟩
theorem allocDg : ∀ (a : Act) (o : Oper) (w : World), o.op = .alloc 23 → (execOp a.eval o).run Try.prog w = .ok (.value (.pointer (some ⟨w.heap.size, 0, none⟩))) (w.alloc (.cells (ints .u8 z32).toArray 23)) := fun a o w h => by
  unfold execOp; rw [h]; kernel_rfl
set_option maxRecDepth 100000 in
set_option maxHeartbeats 2000000 in
theorem head_any (w : World) (p : Nat) (ver wd : Int) (r : List Int) (hs : Ses w p ver wd r) :
    Calls Try.prog 6 #[.pointer (some ⟨p, 0, none⟩)] w fun e w' => e = .returned (.tuple #[.int .i64 ver, .agg (ints .u8 r).toArray]) ∧ Below w.heap.size w w' := by
  have hlt' := hlt hs.1
  have HP := hid (show p ≠ w.heap.size by omega)
  have HR := hid hs.2
  have SD := hid (show (Try.prog.info? 23).map (·.size) = some r.length by rw [hs.2]; exact Try.sizeDg)
  have hb := (Below.refl w.heap.size w).alloc (Nat.le_refl _) (.cells (ints .u8 z32).toArray 23)
  have HB := hid hb
  have HS := hid (hs.below hb hlt')
  clear hb hs hlt'
  go_enter Try.func6, Try.ntmps6
  go_wp2_with (first | (refine wpList_allocV allocDg rfl rfl ?_))
  refine wp_region_noPanic ?_
  refine wp_region_held_drew (S := (fun w' => Ses w' p ver wd r ∧ (∃ ds : List Value, ds.length = 32 ∧ w'.heap[w.heap.size]? = some (.cells ds.toArray 23 (0, 0))) ∧ Below w.heap.size w w')) (by kernel_rfl) ⟨HS.out, ⟨_, by rw [ints_len]; rfl, hnew w _⟩, HB.out.drew⟩ (fun hHeld => ?_)
  refine wpAnyH_take (i := 0) (oi := { dst := some 4, op := Op.move (Operand.tmp 0), type := 43, pos := "remote.go:24", after := #[], guard := none }) (v := .pointer (some ⟨p, 0, none⟩)) rfl (by kernel_rfl) (by kernel_rfl) (by kernel_rfl) (fun _ _ _ h => h) (Or.inl ⟨by rfl, by intro w hS; go_simp⟩) hHeld ?_
  try simp only [Act.put, List.setIfInBounds_toArray, List.set_cons_zero, List.set_cons_succ]
  refine wpAnyH_take (i := 4) (oi := { dst := some 8, op := Op.move (Operand.tmp 0), type := 43, pos := "remote.go:24", after := #[{ on := 8, ground := Ground.gcOnly Departure.lateStores }], guard := none }) (v := .pointer (some ⟨p, 0, none⟩)) rfl (by kernel_rfl) (by kernel_rfl) (by kernel_rfl) (fun _ _ _ h => h) (Or.inl ⟨by rfl, by intro w hS; go_simp⟩) hHeld ?_
  try simp only [Act.put, List.setIfInBounds_toArray, List.set_cons_zero, List.set_cons_succ]
  refine wpAnyH_take (i := 1) (oi := { dst := some 5, op := Op.nilCheck (Operand.tmp 4), type := 0, pos := "remote.go:24", after := #[{ on := 0, ground := Ground.data }], guard := none }) (v := .pointer (some ⟨p, 0, none⟩)) rfl (by kernel_rfl) (by kernel_rfl) (by kernel_rfl) (fun _ _ _ h => h) (Or.inl ⟨by rfl, by intro w hS; go_simp⟩) hHeld ?_
  try simp only [Act.put, List.setIfInBounds_toArray, List.set_cons_zero, List.set_cons_succ]
  refine wpAnyH_take (i := 5) (oi := { dst := some 9, op := Op.nilCheck (Operand.tmp 8), type := 0, pos := "remote.go:24", after := #[{ on := 4, ground := Ground.data }, { on := 8, ground := Ground.gcOnly Departure.lateStores }], guard := none }) (v := .pointer (some ⟨p, 0, none⟩)) rfl (by kernel_rfl) (by kernel_rfl) (by kernel_rfl) (fun _ _ _ h => h) (Or.inl ⟨by rfl, by intro w hS; go_simp⟩) hHeld ?_
  try simp only [Act.put, List.setIfInBounds_toArray, List.set_cons_zero, List.set_cons_succ]
  refine wpAnyH_take (i := 2) (oi := { dst := some 6, op := Op.fieldAddr 36 (Operand.tmp 5) 0, type := 0, pos := "remote.go:24", after := #[{ on := 1, ground := Ground.data }], guard := none }) (v := .pointer (some ⟨p, 0, none⟩)) rfl (by kernel_rfl) (by kernel_rfl) (by kernel_rfl) (fun _ _ _ h => h) (Or.inl ⟨by rfl, by intro w hS; go_simp⟩) hHeld ?_
  try simp only [Act.put, List.setIfInBounds_toArray, List.set_cons_zero, List.set_cons_succ]
  refine wpAnyH_take (i := 6) (oi := { dst := some 10, op := Op.fieldAddr 36 (Operand.tmp 9) 1, type := 0, pos := "remote.go:24", after := #[{ on := 5, ground := Ground.data }, { on := 8, ground := Ground.gcOnly Departure.lateStores }], guard := none }) (v := .pointer (some ⟨p, 1, none⟩)) rfl (by kernel_rfl) (by kernel_rfl) (by kernel_rfl) (fun _ _ _ h => h) (Or.inl ⟨by rfl, by intro w hS; go_simp⟩) hHeld ?_
  try simp only [Act.put, List.setIfInBounds_toArray, List.set_cons_zero, List.set_cons_succ]
  refine wpAnyH_take (i := 3) (oi := { dst := some 7, op := Op.load 3 (Operand.tmp 6), type := 3, pos := "remote.go:24", after := #[{ on := 2, ground := Ground.data }], guard := none }) (v := .int .i64 ver) rfl (by kernel_rfl) (by kernel_rfl) (by kernel_rfl) (fun _ _ _ h => h) (Or.inl ⟨by rfl, by intro w hS; have hc := hS.1.ver; go_simp⟩) hHeld ?_
  try simp only [Act.put, List.setIfInBounds_toArray, List.set_cons_zero, List.set_cons_succ]
  refine wpAnyH_take (i := 7) (oi := { dst := some 11, op := Op.load 23 (Operand.tmp 10), type := 23, pos := "remote.go:24", after := #[{ on := 6, ground := Ground.data }, { on := 8, ground := Ground.gcOnly Departure.lateStores }], guard := none }) (v := .agg (ints .u8 r).toArray) rfl (by kernel_rfl) (by kernel_rfl) (by kernel_rfl) (fun _ _ _ h => h) (yieldsIf_load_mid (by rfl) 23 _ rfl p (1) rfl (ints .u8 r) _ (fun w hS => hS.1.root) Try.underlying23 rfl (by rw [ints_len]; exact SD.out)) hHeld ?_
  try simp only [Act.put, List.setIfInBounds_toArray, List.set_cons_zero, List.set_cons_succ]
  refine wpAnyH_take (i := 8) (oi := { dst := some 2, op := Op.assign (Operand.tmp 7), type := 3, pos := "remote.go:24", after := #[{ on := 3, ground := Ground.data }, { on := 0, ground := Ground.phase }, { on := 1, ground := Ground.phase }, { on := 2, ground := Ground.phase }, { on := 3, ground := Ground.phase }, { on := 4, ground := Ground.textOnly Departure.lateStores }, { on := 5, ground := Ground.textOnly Departure.lateStores }, { on := 6, ground := Ground.textOnly Departure.lateStores }, { on := 7, ground := Ground.textOnly Departure.lateStores }], guard := none }) (v := .int .i64 ver) rfl (by kernel_rfl) (by kernel_rfl) (by kernel_rfl) (fun _ _ _ h => h) (Or.inl ⟨by rfl, by intro w hS; go_simp⟩) hHeld ?_
  try simp only [Act.put, List.setIfInBounds_toArray, List.set_cons_zero, List.set_cons_succ]
  refine wpAnyH_ready (rs := [9]) (by kernel_rfl) (by simp) ?_
  refine (AllReadyH.cons (o := { dst := none, op := Op.store 23 (Operand.tmp 3) (Operand.tmp 11), type := 0, pos := "remote.go:24", after := #[{ on := 7, ground := Ground.data }, { on := 8, ground := Ground.chain }, { on := 0, ground := Ground.phase }, { on := 1, ground := Ground.phase }, { on := 2, ground := Ground.phase }, { on := 3, ground := Ground.phase }, { on := 4, ground := Ground.phase }, { on := 5, ground := Ground.phase }, { on := 6, ground := Ground.phase }, { on := 7, ground := Ground.phase }, { on := 8, ground := Ground.phase }], guard := none }) rfl (fun K hK => ?_) AllReadyH.nil)
  have hHx := hHeld
  obtain ⟨hh1, ⟨ds, hds, hh2⟩, hh3⟩ := hHx
  first | rw [if_pos (by rfl)] | skip
  refine wp_store_row 23 _ _ rfl w.heap.size (ints .u8 r).toArray rfl rfl 23 _ hh2 (by rw [ints_size]; exact SD.out) (by rw [ints_size, List.size_toArray, hds, HR.out]) (all_oneCell_toArray (ints_one .u8 _)) ?_
  have hst := setRow_keeps (ds := ints .u8 r) hh2
  refine hK.out _ _ (⟨⟨hst.2.heap hh1.1 HP.out, hh1.2⟩, ⟨_, by rw [ints_len, HR.out], hst.1⟩, hh3.trans (hst.2.below_g (Nat.le_refl _) hh3.size)⟩) (fun hHeld2 => ?_)
  clear hK K hHeld
  have hHeld := hHeld2
  clear hHeld2
  try simp only [Act.put, List.setIfInBounds_toArray, List.set_cons_zero, List.set_cons_succ]
  refine wpAnyH_done (by kernel_rfl) ?_ _
  refine NoPanic.normal ?_
  have hF := hHeld.2.2
  clear hHeld
  go_wp2
  refine bodyPost_ret (results_tc Try.results6 _ _ w.heap.size 23 _ _ _ rfl hst.1 Try.underlying23 rfl (by rw [List.size_toArray, ints_len]; exact SD.out)) rfl ?_
  exact ⟨rfl, hF⟩
set_option maxRecDepth 100000 in
set_option maxHeartbeats 2000000 in
theorem alike_any (w : World) (p q : Nat) (ver wd : Int) (r : List Int) (hs : Ses w p ver wd r) (hx : Sxs w q wd ver r) :
    Calls Try.prog 7 #[.pointer (some ⟨p, 0, none⟩), .pointer (some ⟨q, 0, none⟩)] w fun e w' => e = .returned (.bool true) ∧ Below w.heap.size w w' := by
  have SD := hid (show (Try.prog.info? 23).map (·.size) = some r.length by rw [hs.2]; exact Try.sizeDg)
  have KH := hid (head_any w p ver wd r hs)
  have HR := hid hs.2
  have hq := hlt hx.1
  have qD := eqD_self r hs.2
  have gD := Try.guardD
  clear hs
  go_enter Try.func7, Try.ntmps7
  go_wp2_with (first | (go_at_call 6; refine KH.out.mono ?_; rintro e w1 ⟨rfl, hb1⟩; refine Hid.out ?_))
  refine hid ?_
  go_wp2_with (first | (refine wpList_allocV allocDg rfl rfl ?_) | (refine wpList_storeRowW rfl 23 _ _ rfl w1.heap.size (ints .u8 r) rfl rfl 23 _ (hnew w1 (.cells (ints .u8 z32).toArray 23)) (by rw [ints_len]; exact SD.out) (by rw [ints_len, ints_len, HR.out]; rfl) (ints_one .u8 r) ?_; intro w2 hr2 hk2; refine Hid.out ?_))
  refine hid ?_
  have hb2 : Below w1.heap.size w1 w2 := ((Below.refl w1.heap.size w1).alloc (Nat.le_refl _) _).trans (hk2.below_g (Nat.le_refl _) (by simp))
  have HB := hid (hb1.trans (hb2.mono hb1.size))
  have HX := hid (hx.below HB.out hq)
  have HR2 := hid hr2
  clear hb1 hb2 hk2 hr2 hx KH hq
  go_wp2
  refine wp_region_noPanic ?_
  refine wp_region_held_drew (S := (fun w' => Sxs w' q wd ver r ∧ w'.heap[w1.heap.size]? = some (.cells (ints .u8 r).toArray 23 (0, 0)) ∧ Below w.heap.size w w')) (by kernel_rfl) ⟨HX.out, HR2.out, HB.out.drew⟩ (fun hHeld => ?_)
  refine wpAnyH_take (i := 0) (oi := { dst := some 14, op := Op.move (Operand.tmp 5), type := 3, pos := "law.go:146", after := #[], guard := none }) (v := .int .i64 ver) rfl (by kernel_rfl) (by kernel_rfl) (by kernel_rfl) (fun _ _ _ h => h) (Or.inl ⟨by rfl, by intro w hS; go_simp⟩) hHeld ?_
  try simp only [Act.put, List.setIfInBounds_toArray, List.set_cons_zero, List.set_cons_succ]
  refine wpAnyH_take (i := 1) (oi := { dst := some 15, op := Op.move (Operand.tmp 1), type := 30, pos := "law.go:146", after := #[], guard := none }) (v := .pointer (some ⟨q, 0, none⟩)) rfl (by kernel_rfl) (by kernel_rfl) (by kernel_rfl) (fun _ _ _ h => h) (Or.inl ⟨by rfl, by intro w hS; go_simp⟩) hHeld ?_
  try simp only [Act.put, List.setIfInBounds_toArray, List.set_cons_zero, List.set_cons_succ]
  refine wpAnyH_take (i := 2) (oi := { dst := some 16, op := Op.nilCheck (Operand.tmp 15), type := 0, pos := "law.go:146", after := #[{ on := 1, ground := Ground.data }], guard := none }) (v := .pointer (some ⟨q, 0, none⟩)) rfl (by kernel_rfl) (by kernel_rfl) (by kernel_rfl) (fun _ _ _ h => h) (Or.inl ⟨by rfl, by intro w hS; go_simp⟩) hHeld ?_
  try simp only [Act.put, List.setIfInBounds_toArray, List.set_cons_zero, List.set_cons_succ]
  refine wpAnyH_take (i := 3) (oi := { dst := some 17, op := Op.fieldAddr 42 (Operand.tmp 16) 1, type := 0, pos := "law.go:146", after := #[{ on := 2, ground := Ground.data }], guard := none }) (v := .pointer (some ⟨q, 1, none⟩)) rfl (by kernel_rfl) (by kernel_rfl) (by kernel_rfl) (fun _ _ _ h => h) (Or.inl ⟨by rfl, by intro w hS; go_simp⟩) hHeld ?_
  try simp only [Act.put, List.setIfInBounds_toArray, List.set_cons_zero, List.set_cons_succ]
  refine wpAnyH_take (i := 4) (oi := { dst := some 18, op := Op.load 3 (Operand.tmp 17), type := 3, pos := "law.go:146", after := #[{ on := 3, ground := Ground.data }], guard := none }) (v := .int .i64 ver) rfl (by kernel_rfl) (by kernel_rfl) (by kernel_rfl) (fun _ _ _ h => h) (Or.inl ⟨by rfl, by intro w hS; have hc := hS.1.ver; go_simp⟩) hHeld ?_
  try simp only [Act.put, List.setIfInBounds_toArray, List.set_cons_zero, List.set_cons_succ]
  refine wpAnyH_take (i := 5) (oi := { dst := some 19, op := Op.binOp BinOp.eql 3 (Operand.tmp 14) (Operand.tmp 18) 3, type := 4, pos := "law.go:146", after := #[{ on := 0, ground := Ground.data }, { on := 4, ground := Ground.data }], guard := none }) (v := .bool true) rfl (by kernel_rfl) (by kernel_rfl) (by kernel_rfl) (fun _ _ _ h => h) (Or.inl ⟨by rfl, by intro w hS; go_simp⟩) hHeld ?_
  try simp only [Act.put, List.setIfInBounds_toArray, List.set_cons_zero, List.set_cons_succ]
  refine wpAnyH_take (i := 6) (oi := { dst := some 20, op := Op.move (Operand.tmp 19), type := 4, pos := "law.go:146", after := #[{ on := 5, ground := Ground.data }], guard := none }) (v := .bool true) rfl (by kernel_rfl) (by kernel_rfl) (by kernel_rfl) (fun _ _ _ h => h) (Or.inl ⟨by rfl, by intro w hS; go_simp⟩) hHeld ?_
  try simp only [Act.put, List.setIfInBounds_toArray, List.set_cons_zero, List.set_cons_succ]
  refine wpAnyH_take (i := 7) (oi := { dst := some 21, op := Op.load 23 (Operand.tmp 6), type := 23, pos := "law.go:146", after := #[{ on := 6, ground := Ground.guard }], guard := some (6, true) }) (v := .agg (ints .u8 r).toArray) rfl (by kernel_rfl) (by kernel_rfl) (by kernel_rfl) (fun _ _ _ h => h) (yieldsIf_load_mid (by rfl) 23 _ rfl w1.heap.size (0) rfl (ints .u8 r) _ (fun w hS => (rng hS.2.1)) Try.underlying23 rfl (by rw [ints_len]; exact SD.out)) hHeld ?_
  try simp only [Act.put, List.setIfInBounds_toArray, List.set_cons_zero, List.set_cons_succ]
  refine wpAnyH_take (i := 8) (oi := { dst := some 22, op := Op.move (Operand.tmp 1), type := 30, pos := "law.go:146", after := #[{ on := 6, ground := Ground.guard }], guard := some (6, true) }) (v := .pointer (some ⟨q, 0, none⟩)) rfl (by kernel_rfl) (by kernel_rfl) (by kernel_rfl) (fun _ _ _ h => h) (Or.inl ⟨by rfl, by intro w hS; go_simp⟩) hHeld ?_
  try simp only [Act.put, List.setIfInBounds_toArray, List.set_cons_zero, List.set_cons_succ]
  refine wpAnyH_take (i := 9) (oi := { dst := some 23, op := Op.nilCheck (Operand.tmp 22), type := 0, pos := "law.go:146", after := #[{ on := 8, ground := Ground.data }, { on := 6, ground := Ground.guard }], guard := some (6, true) }) (v := .pointer (some ⟨q, 0, none⟩)) rfl (by kernel_rfl) (by kernel_rfl) (by kernel_rfl) (fun _ _ _ h => h) (Or.inl ⟨by rfl, by intro w hS; go_simp⟩) hHeld ?_
  try simp only [Act.put, List.setIfInBounds_toArray, List.set_cons_zero, List.set_cons_succ]
  refine wpAnyH_take (i := 10) (oi := { dst := some 24, op := Op.fieldAddr 42 (Operand.tmp 23) 2, type := 0, pos := "law.go:146", after := #[{ on := 9, ground := Ground.data }, { on := 6, ground := Ground.guard }], guard := some (6, true) }) (v := .pointer (some ⟨q, 2, none⟩)) rfl (by kernel_rfl) (by kernel_rfl) (by kernel_rfl) (fun _ _ _ h => h) (Or.inl ⟨by rfl, by intro w hS; go_simp⟩) hHeld ?_
  try simp only [Act.put, List.setIfInBounds_toArray, List.set_cons_zero, List.set_cons_succ]
  refine wpAnyH_take (i := 11) (oi := { dst := some 25, op := Op.load 23 (Operand.tmp 24), type := 23, pos := "law.go:146", after := #[{ on := 10, ground := Ground.data }, { on := 6, ground := Ground.guard }], guard := some (6, true) }) (v := .agg (ints .u8 r).toArray) rfl (by kernel_rfl) (by kernel_rfl) (by kernel_rfl) (fun _ _ _ h => h) (yieldsIf_load_mid (by rfl) 23 _ rfl q (2) rfl (ints .u8 r) _ (fun w hS => hS.1.root) Try.underlying23 rfl (by rw [ints_len]; exact SD.out)) hHeld ?_
  try simp only [Act.put, List.setIfInBounds_toArray, List.set_cons_zero, List.set_cons_succ]
  refine wpAnyH_take (i := 12) (oi := { dst := some 26, op := Op.binOp BinOp.eql 23 (Operand.tmp 21) (Operand.tmp 25) 23, type := 4, pos := "law.go:146", after := #[{ on := 7, ground := Ground.data }, { on := 11, ground := Ground.data }, { on := 6, ground := Ground.guard }], guard := some (6, true) }) (v := .bool true) rfl (by kernel_rfl) (by kernel_rfl) (by kernel_rfl) (fun _ _ _ h => h) (Or.inl ⟨by rfl, by intro w hS; go_simp⟩) hHeld ?_
  try simp only [Act.put, List.setIfInBounds_toArray, List.set_cons_zero, List.set_cons_succ]
  refine wpAnyH_take (i := 13) (oi := { dst := some 27, op := Op.pick (Operand.tmp 20) (Operand.tmp 26) (Operand.const (Value.bool false)), type := 4, pos := "law.go:146", after := #[{ on := 6, ground := Ground.data }, { on := 12, ground := Ground.data }], guard := none }) (v := .bool true) rfl (by kernel_rfl) (by kernel_rfl) (by kernel_rfl) (fun _ _ _ h => h) (Or.inl ⟨by rfl, by intro w hS; go_simp⟩) hHeld ?_
  try simp only [Act.put, List.setIfInBounds_toArray, List.set_cons_zero, List.set_cons_succ]
  refine wpAnyH_take (i := 14) (oi := { dst := some 4, op := Op.assign (Operand.tmp 27), type := 4, pos := "law.go:146", after := #[{ on := 13, ground := Ground.data }, { on := 6, ground := Ground.chain }, { on := 0, ground := Ground.phase }, { on := 1, ground := Ground.phase }, { on := 2, ground := Ground.phase }, { on := 3, ground := Ground.phase }, { on := 4, ground := Ground.phase }, { on := 5, ground := Ground.phase }, { on := 6, ground := Ground.phase }, { on := 7, ground := Ground.phase }, { on := 8, ground := Ground.phase }, { on := 9, ground := Ground.phase }, { on := 10, ground := Ground.phase }, { on := 11, ground := Ground.phase }, { on := 12, ground := Ground.phase }, { on := 13, ground := Ground.phase }], guard := none }) (v := .bool true) rfl (by kernel_rfl) (by kernel_rfl) (by kernel_rfl) (fun _ _ _ h => h) (Or.inl ⟨by rfl, by intro w hS; go_simp⟩) hHeld ?_
  try simp only [Act.put, List.setIfInBounds_toArray, List.set_cons_zero, List.set_cons_succ]
  refine wpAnyH_done (by kernel_rfl) ?_ _
  refine NoPanic.normal ?_
  go_wp2
  go_ret
  exact ⟨rfl, hHeld.2.2⟩
theorem seven : Try.prog.built 23 [(0, .int .u8 7)] = some (ints .u8 (7 :: List.replicate 31 0)).toArray := by kernel_rfl
theorem nw7 : nwB 1 0 (7 :: List.replicate 31 0) = true := by decide +kernel
/-- The start in memory. -/
theorem st_root {w : World} {p : Nat} {wd ver : Int} {r : List Int} (h : w.heap[p]? = some (.cells (sxC wd ver r).toArray 25 (0, 0))) : w.rangeAt p 2 (ints .u8 r) := fun j v hv => by
  show w.cell? ⟨p, 2 + j, none⟩ = some v
  rw [cell_of_row _ _ _ _ _ _ h, List.getElem?_toArray]
  unfold sxC
  rw [Nat.add_comm]; exact hv
theorem new_no (w : World) (wd ver : Int) (r : List Int) (hr : r.length = 32) (hw0 : -9223372036854775808 ≤ wd) (hw1 : wd ≤ 9223372036854775807) (hv0 : -9223372036854775808 ≤ ver) (hv1 : ver ≤ 9223372036854775807) (h : nwB wd ver r = false) :
    Calls Try.prog 4 #[.int .i64 wd, .int .i64 ver, .agg (ints .u8 r).toArray] w fun e w' => e = .returned (.tuple #[.pointer none, .int .i64 1]) ∧ Below w.heap.size w w' :=
  (new_any w wd ver r hr hw0 hw1 hv0 hv1).mono fun e w' ⟨a, b⟩ => by rw [h] at a; exact ⟨a, b⟩
theorem new_yes (w : World) (wd ver : Int) (r : List Int) (hr : r.length = 32) (hw0 : -9223372036854775808 ≤ wd) (hw1 : wd ≤ 9223372036854775807) (hv0 : -9223372036854775808 ≤ ver) (hv1 : ver ≤ 9223372036854775807) (h : nwB wd ver r = true) :
    Calls Try.prog 4 #[.int .i64 wd, .int .i64 ver, .agg (ints .u8 r).toArray] w fun e w' => ∃ p, e = .returned (.tuple #[.pointer (some ⟨p, 0, none⟩), .int .i64 0]) ∧ w.heap.size ≤ p ∧ Ses w' p ver wd r ∧ Below w.heap.size w w' :=
  (new_any w wd ver r hr hw0 hw1 hv0 hv1).mono fun e w' ⟨a, b⟩ => by rw [h] at a; obtain ⟨p, a1, a2, a3⟩ := a; exact ⟨p, a1, a2, ⟨a3, hr⟩, b⟩
theorem xnew_no (w : World) (wd ver : Int) (r : List Int) (hr : r.length = 32) (hw0 : -9223372036854775808 ≤ wd) (hw1 : wd ≤ 9223372036854775807) (hv0 : -9223372036854775808 ≤ ver) (hv1 : ver ≤ 9223372036854775807) (h : nwB wd ver r = false) :
    Calls Try.prog 5 #[.int .i64 wd, .int .i64 ver, .agg (ints .u8 r).toArray] w fun e w' => e = .returned (.tuple #[.pointer none, .int .i64 1]) ∧ Below w.heap.size w w' :=
  (xnew_any w wd ver r hr hw0 hw1 hv0 hv1).mono fun e w' ⟨a, b⟩ => by rw [h] at a; exact ⟨a, b⟩
theorem xnew_yes (w : World) (wd ver : Int) (r : List Int) (hr : r.length = 32) (hw0 : -9223372036854775808 ≤ wd) (hw1 : wd ≤ 9223372036854775807) (hv0 : -9223372036854775808 ≤ ver) (hv1 : ver ≤ 9223372036854775807) (h : nwB wd ver r = true) :
    Calls Try.prog 5 #[.int .i64 wd, .int .i64 ver, .agg (ints .u8 r).toArray] w fun e w' => ∃ p, e = .returned (.tuple #[.pointer (some ⟨p, 0, none⟩), .int .i64 0]) ∧ w.heap.size ≤ p ∧ Sxs w' p wd ver r ∧ Below w.heap.size w w' :=
  (xnew_any w wd ver r hr hw0 hw1 hv0 hv1).mono fun e w' ⟨a, b⟩ => by rw [h] at a; obtain ⟨p, a1, a2, a3⟩ := a; exact ⟨p, a1, a2, ⟨a3, hr⟩, b⟩
set_option maxRecDepth 100000 in
set_option maxHeartbeats 4000000 in
theorem remoteBegins_any (w : World) (wd ver : Int) (r : List Int) (hr : r.length = 32) (hw0 : -9223372036854775808 ≤ wd) (hw1 : wd ≤ 9223372036854775807) (hv0 : -9223372036854775808 ≤ ver) (hv1 : ver ≤ 9223372036854775807) :
    Calls Try.prog 3 #[.agg (sxC wd ver r).toArray] w fun e w' => e = .returned (.bool true) ∧ Below w.heap.size w w' := by
  have SD := hid (show (Try.prog.info? 23).map (·.size) = some (ints .u8 r).length by rw [ints_len, hr]; exact Try.sizeDg)
  have hb0 := (Below.refl w.heap.size w).alloc (Nat.le_refl _) (.cells (sxC wd ver r).toArray 25)
  have hr0 := hnew w (.cells (sxC wd ver r).toArray 25)
  have c0 : (w.alloc (.cells (sxC wd ver r).toArray 25)).cell? ⟨w.heap.size, 0, none⟩ = some (.int .i64 wd) := by rw [cell_of_row _ _ _ _ _ _ hr0]; rfl
  have c1 : (w.alloc (.cells (sxC wd ver r).toArray 25)).cell? ⟨w.heap.size, 1, none⟩ = some (.int .i64 ver) := by rw [cell_of_row _ _ _ _ _ _ hr0]; rfl
  have G0 := hid (st_root hr0)
  have HR0 := hid hr0
  have HB0 := hid hb0
  have HR := hid hr
  cases hb : nwB wd ver r with
  | false =>
    have KN := hid (fun w1 => new_no w1 wd ver r hr hw0 hw1 hv0 hv1 hb)
    have KX := hid (fun w1 => xnew_no w1 wd ver r hr hw0 hw1 hv0 hv1 hb)
    clear hr0 hb0 hw0 hw1 hv0 hv1 hb
    go_enter Try.func3, Try.ntmps3
    go_wp2_with (first | (refine wpList_load_mid rfl 23 _ rfl w.heap.size 2 rfl (ints .u8 r) _ G0.out Try.underlying23 rfl SD.out ?_) | (go_at_call 4; refine (KN.out _).mono ?_; rintro e w1 ⟨rfl, hb1⟩; refine Hid.out ?_))
    refine hid ?_
    have hB1 := HB0.out.trans (hb1.mono HB0.out.size)
    have hr1 := hbel hb1 HR0.out (hlt HR0.out)
    generalize hw : w.alloc (.cells (sxC wd ver r).toArray 25) = wa at *
    replace hw := hid hw
    have d0 : w1.cell? ⟨w.heap.size, 0, none⟩ = some (.int .i64 wd) := by rw [cell_of_row _ _ _ _ _ _ hr1]; rfl
    have d1 : w1.cell? ⟨w.heap.size, 1, none⟩ = some (.int .i64 ver) := by rw [cell_of_row _ _ _ _ _ _ hr1]; rfl
    have G1 := hid (st_root hr1)
    clear c0 c1 G0 KN hr1
    go_wp2_with (first | (refine wpList_load_mid rfl 23 _ rfl w.heap.size 2 rfl (ints .u8 r) _ G1.out Try.underlying23 rfl SD.out ?_) | (go_at_call 5; refine (KX.out _).mono ?_; rintro e w2 ⟨rfl, hb2⟩; refine Hid.out ?_))
    refine hid ?_
    have hB2 := hB1.trans (hb2.mono hB1.size)
    have K7 := hid (new_yes w2 1 0 (7 :: List.replicate 31 0) rfl (by omega) (by omega) (by omega) (by omega) nw7)
    have B7 := hid seven
    have qD := eqD_self (7 :: List.replicate 31 0) rfl
    have gD := Try.guardD
    generalize hq : (7 :: List.replicate 31 0 : List Int) = q7 at *
    have HQ := hid hq
    clear hq KX hB1 hb1 hb2 d0 d1 G1
    have S7 := hid (show (Try.prog.info? 23).map (·.size) = some (ints .u8 q7).length by rw [ints_len, ← HQ.out]; exact Try.sizeDg)
    have HL7 := hid (show (ints .u8 z32).length = (ints .u8 q7).length by rw [ints_len, ints_len, ← HQ.out]; rfl)
    go_wp2_with (first | (refine wpList_built (by rfl) 23 _ rfl _ rfl _ B7.out ?_) | (go_at_call 4; refine K7.out.mono ?_; rintro e w3 ⟨p3, rfl, hp3, hs3, hb3⟩; refine Hid.out ?_))
    refine hid ?_
    have hB3 := hB2.trans (hb3.mono hB2.size)
    have KH := hid (head_any w3 p3 0 1 q7 hs3)
    clear K7
    go_wp2_with (first | (go_at_call 6; refine KH.out.mono ?_; rintro e w4 ⟨rfl, hb4⟩; refine Hid.out ?_))
    refine hid ?_
    have hB4 := hB3.trans (hb4.mono hB3.size)
    go_wp2_with (first | (refine wpList_allocV allocDg rfl rfl ?_) | (refine wpList_storeRowW rfl 23 _ _ rfl w4.heap.size (ints .u8 q7) rfl rfl 23 _ (hnew w4 (.cells (ints .u8 z32).toArray 23)) S7.out HL7.out (ints_one .u8 q7) ?_; intro w5 hr5 hk5; refine Hid.out ?_))
    refine hid ?_
    have hb5 : Below w4.heap.size w4 w5 := ((Below.refl w4.heap.size w4).alloc (Nat.le_refl _) _).trans (hk5.below_g (Nat.le_refl _) (by simp))
    have HB5 := hid (hB4.trans (hb5.mono hB4.size))
    have R5 := hid hr5
    have S5 := hid (show (Try.prog.info? 23).map (·.size) = some (ints .u8 q7).toArray.size by rw [List.size_toArray]; exact S7.out)
    clear hb5 hk5 hr5 hB4 hB3 hB2 hb4 hb3 KH
    go_wp2_with (first | (refine wpList_load_row_w (by rfl) 23 _ (by rfl) w4.heap.size (by rfl) 23 _ (0, 0) _ R5.out Try.underlying23 rfl S5.out ?_) | (refine wpList_built (by rfl) 23 _ (by rfl) _ (by rfl) _ B7.out ?_))
    go_ret
    exact ⟨rfl, HB5.out⟩
  | true =>
    have KN := hid (fun w1 => new_yes w1 wd ver r hr hw0 hw1 hv0 hv1 hb)
    have KX := hid (fun w1 => xnew_yes w1 wd ver r hr hw0 hw1 hv0 hv1 hb)
    clear hr0 hb0 hw0 hw1 hv0 hv1 hb
    go_enter Try.func3, Try.ntmps3
    go_wp2_with (first | (refine wpList_load_mid rfl 23 _ rfl w.heap.size 2 rfl (ints .u8 r) _ G0.out Try.underlying23 rfl SD.out ?_) | (go_at_call 4; refine (KN.out _).mono ?_; rintro e w1 ⟨p1, rfl, hp1, hs1, hb1⟩; refine Hid.out ?_))
    refine hid ?_
    have hB1 := HB0.out.trans (hb1.mono HB0.out.size)
    have hr1 := hbel hb1 HR0.out (hlt HR0.out)
    generalize hw : w.alloc (.cells (sxC wd ver r).toArray 25) = wa at *
    replace hw := hid hw
    have d0 : w1.cell? ⟨w.heap.size, 0, none⟩ = some (.int .i64 wd) := by rw [cell_of_row _ _ _ _ _ _ hr1]; rfl
    have d1 : w1.cell? ⟨w.heap.size, 1, none⟩ = some (.int .i64 ver) := by rw [cell_of_row _ _ _ _ _ _ hr1]; rfl
    have G1 := hid (st_root hr1)
    clear c0 c1 G0 KN hr1
    go_wp2_with (first | (refine wpList_load_mid rfl 23 _ rfl w.heap.size 2 rfl (ints .u8 r) _ G1.out Try.underlying23 rfl SD.out ?_) | (go_at_call 5; refine (KX.out _).mono ?_; rintro e w2 ⟨p2, rfl, hp2, hs2, hb2⟩; refine Hid.out ?_))
    refine hid ?_
    have hB2 := hB1.trans (hb2.mono hB1.size)
    have KA := hid (alike_any w2 p1 p2 ver wd r (hs1.below hb2 (hlt hs1.1)) hs2)
    clear KX hB1 hb1 hb2 d0 d1 G1
    go_wp2_with (first | (go_at_call 7; refine KA.out.mono ?_; rintro e w4 ⟨rfl, hb4⟩))
    go_ret
    exact ⟨rfl, hB2.trans (hb4.mono hB2.size)⟩
end Go.Proofs.Ythmbeflplcfaaaa
