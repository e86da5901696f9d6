import Derived.Test.YtbjahdbmkcamoaaGreatDoorTrJ
namespace Go.Proofs.YtbjahdbmkcamoaaGreatDoor
set_option linter.unusedVariables false
set_option linter.unusedSimpArgs false
open Go.RowKit
attribute [local go_sem ↓] Go.wp_at_zero Go.wp_at_succ

theorem pfC_setb {p : Pf} (hl : p.bs.length = 32) (v s : Value) (k : Nat) (x : Int) (hk : k < 32) : (pfC p v s).set (2 + k) (.int .u8 x) = pfC ⟨p.f, p.vs, p.bs.set k x, p.ss⟩ v s := by
  unfold pfC
  rw [List.set_append_right _ _ (by simp), show 2 + k - [Value.bool p.f, v].length = k by simp, List.set_append_left _ _ (by rw [ints_len]; omega)]
  simp [ints, List.map_set]
theorem pfC_set {p : Pf} (ok : PfOk p) (v s s' : Value) : (pfC p v s).set 34 s' = pfC p v s' := by
  unfold pfC
  rw [List.set_append_right _ _ (by simp), List.set_append_right _ _ (by simp [ints_len, ok.bs])]
  simp [ints_len, ok.bs]
/-- append(own list of digests, one more), with what it leaves alone. -/
theorem wpList_pushD2 {w : World} {ops : Array Oper} {rest : List Oper} {o : Oper} {a : Act} {Q : Exit → Act → World → Prop} (hgd : o.guard = none) (s x : Operand)
    (ho : o.op = .call { callee := .builtin .append, args := #[s, x], argTypes := #[48, 48] })
    (base : Nat) (v : Value) (ss : List (List Int)) (d : List Int) (hs : a.eval s = v) (hown : OwnD w base v ss) (hx : a.eval x = .slice (some ⟨w.heap.size, 0, none⟩) 1 1) (hl : d.length = 32)
    (hlen : ss.length + 1 ≤ 4398046511104) (hbase : base ≤ w.heap.size) (t : TypeId) (fr : Nat × Nat)
    (h : ∀ v' w', OwnD w' base v' (ss ++ [d]) → Below base w w' → (∀ k, k < w.heap.size → v.ownBlock ≠ some k → w'.heap[k]? = w.heap[k]?) → (v'.ownBlock = v.ownBlock ∨ ∃ k, v'.ownBlock = some k ∧ w.heap.size ≤ k) → wpList Tryz.prog ops Q rest (a.put o.dst v') w') :
    wpList Tryz.prog ops Q (o :: rest) a (w.alloc (.cells (ints .u8 d).toArray t fr)) := by
  obtain ⟨i5, z, hi5, hz5, hc5, hs5, hy5⟩ := infoD
  have hown' : (w.alloc (.cells (ints .u8 d).toArray t fr)).ownsRow base 28 32 v ss.length (ints .u8 ss.flatten) := ownsRow_heap hown.2 fun k hk => by
    obtain ⟨_, cur, hh⟩ := ownsRow_block hown.2 k hk
    rw [hh]; exact hold hh
  refine wpList_append_own_at _ hgd s x 48 ho base 28 i5 z 32 32 Tryz.underlying48 hi5 hz5 hs5 hy5 hc5 (by decide) v ss.length _ hs hown' ⟨w.heap.size, 0, none⟩ 1 1 (ints .u8 d) hx (by rw [ints_len]; omega) ?_ (ints_one _ _) (by unfold maxLen; omega) (by omega) (by simp; omega) ?_
  · intro j u hu
    rw [Addr.add_mid, Nat.zero_add, cell_of_row _ _ _ _ _ _ (hnew w _)]
    simpa using hu
  · intro v' w' q1 q2 _ q4
    refine h v' w' ⟨fun x hx => ?_, ?_⟩ (((Below.refl base w).alloc hbase _).trans (grown_keeps q2 (fun k hk => (hown.block k hk).1) (by simp; omega))) (fun k hk hne => ?_) ?_
    · rcases List.mem_append.1 hx with hx | hx
      · exact hown.1 x hx
      · rw [List.mem_singleton.1 hx]; exact hl
    · rw [List.length_append, List.length_singleton, List.flatten_append, List.flatten_singleton, show ints .u8 (ss.flatten ++ d) = ints .u8 ss.flatten ++ ints .u8 d by simp [ints]]
      exact q1
    · rw [q2.block k (by simp; omega) (fun e => hne e.symm)]
      show (w.heap.push _)[k]? = _
      rw [Array.getElem?_push, if_neg (by omega)]
    · rcases q4 with e | e
      · exact Or.inl e
      · exact Or.inr ⟨_, e, by simp⟩
/-- set: the proof with the digest at the height h. -/
def setP (p : Pf) (h : Nat) (d : List Int) : Pf := ⟨p.f, p.vs, p.bs.set (h / 8) (p.bs.getD (h / 8) 0 + (2 ^ (h % 8) : Nat)), p.ss ++ [d]⟩
set_option maxRecDepth 100000 in
set_option maxHeartbeats 4000000 in
theorem zset_same (w : World) (k : Int) (ge ce : Nat) (hgw : ge < w.heap.size) (hR : ∀ i, i < 257 → w.rangeAt ge (i * 32) (ints .u8 (emptyD k i))) (p : Pf) (ok : PfOk p) (vv sv : Value) (hv1 : vv.oneCell' = true) (hs1 : sv.oneCell' = true) (h : Nat) (hh : h < 256) (d : List Int) (hd : d.length = 32) (he : d = emptyD k h) :
    Calls Tryz.prog 66 #[.agg (pfC p vv sv).toArray, .slice (some ⟨ge, 0, none⟩) 257 ce, .int .i64 h, .agg (ints .u8 d).toArray] w fun e w' => e = .returned (.agg (pfC p vv sv).toArray) ∧ Below w.heap.size w w' := by
  have AP := hid allocPf
  have d0 := (((BK.nil w).alloc (pfC p vv sv) 52).alloc (ints .u8 d) 28).alloc (pfC pf0 (.slice none 0 0) (.slice none 0 0)) 52
  rw [show ((w.alloc (.cells (pfC p vv sv).toArray 52)).alloc (.cells (ints .u8 d).toArray 28)).heap.size = w.heap.size + 1 + 1 by simp, show (w.alloc (.cells (pfC p vv sv).toArray 52)).heap.size = w.heap.size + 1 by simp] at d0
  have LC := hid (pfC_len ok vv sv)
  have LZ := hid (show (pfC pf0 (.slice none 0 0) (.slice none 0 0)).length = 35 from rfl)
  have LE := hid (show (Tryz.prog.info? 28).map (·.size) = some (ints .u8 (emptyD k h)).length by rw [Tryz.sizeD, ints_len, emptyD_len])
  have LDd := hid (show (Tryz.prog.info? 28).map (·.size) = some (ints .u8 d).length by rw [Tryz.sizeD, ints_len, hd])
  have hrE := hR h (by omega)
  have i1 : (h : Int) < 257 := by omega
  have i1b : (h : Int) < 256 := by omega
  have i2 : h < 257 := by omega
  have gD := Tryz.guardD
  have qE : ∀ w1 : World, (Op.equalIn 10000 28 (.agg (ints .u8 d).toArray) (.agg (ints .u8 (emptyD k h)).toArray)).run Tryz.prog w1 = .ok true w1 := fun w1 => by rw [← he]; exact eqD_self d hd w1
  have SC := hid (show (Tryz.prog.info? 52).map (·.size) = some (pfC p vv sv).toArray.size by rw [Tryz.sizeP, List.size_toArray, LC.out])
  have OC := hid (pfC_one p vv sv hv1 hs1)
  clear hR he
  generalize emptyD k h = E at *
  generalize pfC p vv sv = C at *
  generalize pfC pf0 (.slice none 0 0) (.slice none 0 0) = Z at *
  go_enter Tryz.func66, Tryz.ntmps66
  go_wp2_with (first | refine wpList_allocV AP.out rfl rfl ?_)
  refine wp_region_noPanic ?_
  refine wp_region_held_drew (S := (fun w' => BK w w' [(w.heap.size + 1 + 1, Z, 52), (w.heap.size + 1, ints .u8 d, 28), (w.heap.size, C, 52)])) (by kernel_rfl) d0.drew (fun hHeld => ?_)
  refine wpAnyH_take (i := 0) (oi := { dst := some 11, op := Op.load 28 (Operand.tmp 7), type := 28, pos := "ref.go:68", after := #[], guard := none }) (v := .agg (ints .u8 d).toArray) rfl (by kernel_rfl) (by kernel_rfl) (by kernel_rfl) (fun _ _ _ h => h) (yieldsIf_load_mid (by rfl) 28 _ rfl (w.heap.size + 1) (0) rfl (ints .u8 d) _ (fun w hS => rng (hS.row (.tail _ (.head _)))) Tryz.underlying28 rfl LDd.out) hHeld ?_
  try simp only [Act.put, List.setIfInBounds_toArray, List.set_cons_zero, List.set_cons_succ]
  refine wpAnyH_take (i := 1) (oi := { dst := some 12, op := Op.move (Operand.tmp 1), type := 48, pos := "ref.go:68", after := #[], guard := none }) (v := .slice (some ⟨ge, 0, none⟩) 257 ce) rfl (by kernel_rfl) (by kernel_rfl) (by kernel_rfl) (fun _ _ _ h => h) (Or.inl ⟨by rfl, by intro w hS; go_simp⟩) hHeld ?_
  try simp only [Act.put, List.setIfInBounds_toArray, List.set_cons_zero, List.set_cons_succ]
  refine wpAnyH_take (i := 2) (oi := { dst := some 13, op := Op.move (Operand.tmp 2), type := 3, pos := "ref.go:68", after := #[], guard := none }) (v := .int .i64 h) rfl (by kernel_rfl) (by kernel_rfl) (by kernel_rfl) (fun _ _ _ h => h) (Or.inl ⟨by rfl, by intro w hS; go_simp⟩) hHeld ?_
  try simp only [Act.put, List.setIfInBounds_toArray, List.set_cons_zero, List.set_cons_succ]
  refine wpAnyH_take (i := 3) (oi := { dst := some 14, op := Op.indexAddr 48 (Operand.tmp 12) (Operand.tmp 13), type := 0, pos := "ref.go:68", after := #[{ on := 1, ground := Ground.data }, { on := 2, ground := Ground.data }], guard := none }) (v := .pointer (some ⟨ge, h * 32, none⟩)) rfl (by kernel_rfl) (by kernel_rfl) (by kernel_rfl) (fun _ _ _ h => h) (Or.inl ⟨by rfl, by intro w hS; go_simp⟩) hHeld ?_
  try simp only [Act.put, List.setIfInBounds_toArray, List.set_cons_zero, List.set_cons_succ]
  refine wpAnyH_take (i := 4) (oi := { dst := some 15, op := Op.load 28 (Operand.tmp 14), type := 28, pos := "ref.go:68", after := #[{ on := 3, ground := Ground.data }], guard := none }) (v := .agg (ints .u8 E).toArray) rfl (by kernel_rfl) (by kernel_rfl) (by kernel_rfl) (fun _ _ _ h => h) (yieldsIf_load_mid (by rfl) 28 _ rfl ge (h * 32) rfl (ints .u8 E) _ (fun w hS => rng_below hrE hS.1 hgw) Tryz.underlying28 rfl LE.out) hHeld ?_
  try simp only [Act.put, List.setIfInBounds_toArray, List.set_cons_zero, List.set_cons_succ]
  refine wpAnyH_take (i := 5) (oi := { dst := some 16, op := Op.binOp BinOp.eql 28 (Operand.tmp 11) (Operand.tmp 15) 28, type := 4, pos := "ref.go:68", after := #[{ on := 0, ground := Ground.data }, { on := 4, ground := Ground.data }], guard := none }) (v := .bool true) rfl (by kernel_rfl) (by kernel_rfl) (by kernel_rfl) (fun _ _ _ h => h) (Or.inl ⟨by rfl, by intro w hS; go_simp⟩) hHeld ?_
  try simp only [Act.put, List.setIfInBounds_toArray, List.set_cons_zero, List.set_cons_succ]
  refine wpAnyH_done (by kernel_rfl) ?_ _
  refine NoPanic.normal ?_
  generalize World.drew _ = w3 at *
  have rC := hHeld.row (.tail _ (.tail _ (.head _)))
  have rZ := hHeld.row (.head _)
  go_wp2_with (first | (refine wpList_load_row rfl 52 _ rfl w.heap.size rfl 52 _ _ _ rC Tryz.underlying52 rfl SC.out ?_; refine Hid.out ?_))
  refine hid ?_
  refine wpList_store_row rfl 52 _ _ rfl (w.heap.size + 1 + 1) C.toArray rfl rfl 52 _ rZ (by rw [Tryz.sizeP, List.size_toArray, LC.out]) (by rw [List.size_toArray, List.size_toArray, LC.out, LZ.out]) (all_oneCell_toArray OC.out) ?_
  go_wp2_with fail
  exact bodyPost_ret (v := .agg C.toArray) (results_cell_row Tryz.results66 _ _ (w.heap.size + 1 + 1) 52 _ _ _ rfl (setRow_heap _ _ _ _ _ _ rZ) Tryz.underlying52 rfl (by rw [Tryz.sizeP, List.size_toArray, LC.out])) rfl ⟨rfl, below_setRow hHeld.1 (by omega) _⟩
set_option maxRecDepth 100000 in
set_option maxHeartbeats 4000000 in
theorem zset_more (w : World) (k : Int) (ge ce : Nat) (hgw : ge < w.heap.size) (hR : ∀ i, i < 257 → w.rangeAt ge (i * 32) (ints .u8 (emptyD k i))) (p : Pf) (ok : PfOk p) (hy : Bys p.bs) (base : Nat) (hbase : base ≤ w.heap.size) (s1 s2 : Option Addr) (n1 c1 c2 : Nat) (hO : OwnD w base (.slice s2 p.ss.length c2) p.ss) (hss : p.ss.length ≤ 1000) (h : Nat) (hh : h < 256) (hbit : p.bs.getD (h / 8) 0 + ((2 ^ (h % 8) : Nat) : Int) < 256) (d : List Int) (hd : d.length = 32) (he : d ≠ emptyD k h) :
    Calls Tryz.prog 66 #[.agg (pfC p (.slice s1 n1 c1) (.slice s2 p.ss.length c2)).toArray, .slice (some ⟨ge, 0, none⟩) 257 ce, .int .i64 h, .agg (ints .u8 d).toArray] w fun e w' => ∃ s3 c3, e = .returned (.agg (pfC (setP p h d) (.slice s1 n1 c1) (.slice s3 (p.ss.length + 1) c3)).toArray) ∧ OwnD w' base (.slice s3 (p.ss.length + 1) c3) (p.ss ++ [d]) ∧ Below base w w' ∧ ∀ q, q < w.heap.size → (Value.slice s2 p.ss.length c2).ownBlock ≠ some q → w'.heap[q]? = w.heap[q]? := by
  have ok2 : PfOk ⟨p.f, p.vs, p.bs.set (h / 8) (p.bs.getD (h / 8) 0 + (2 ^ (h % 8) : Nat)), p.ss⟩ := ⟨by simp [ok.bs], ok.ss⟩
  have HC1 := hid (pfC_setb ok.bs (.slice s1 n1 c1) (.slice s2 p.ss.length c2) (h / 8) (p.bs.getD (h / 8) 0 + (2 ^ (h % 8) : Nat)) (by omega))
  have HC2 := hid (fun s' => show (pfC ⟨p.f, p.vs, p.bs.set (h / 8) (p.bs.getD (h / 8) 0 + (2 ^ (h % 8) : Nat)), p.ss⟩ (.slice s1 n1 c1) (.slice s2 p.ss.length c2)).set 34 s' = pfC (setP p h d) (.slice s1 n1 c1) s' from (pfC_set ok2 _ _ s').trans rfl)
  have L1 := hid (pfC_len ok2 (.slice s1 n1 c1) (.slice s2 p.ss.length c2))
  have K34 := hid (pfC_s ok2 (.slice s1 n1 c1) (.slice s2 p.ss.length c2))
  have LP := hid (fun s' => show (pfC (setP p h d) (.slice s1 n1 c1) s').length = 35 by rw [← HC2.out, List.length_set, L1.out])
  have OP := hid (fun s' (h1 : Value.oneCell' s' = true) => pfC_one (setP p h d) (.slice s1 n1 c1) s' rfl h1)
  have KB := hid (pfC_b p (.slice s1 n1 c1) (.slice s2 p.ss.length c2) (h / 8) (.int .u8 (p.bs.getD (h / 8) 0)) (by rw [ints, List.getElem?_map, List.getElem?_eq_getElem (by have := ok.bs; omega), List.getD_eq_getElem?_getD, List.getElem?_eq_getElem (by have := ok.bs; omega)]; rfl))
  have hx := hy.at (h / 8) (by have := ok.bs; omega)
  have AP := hid allocPf
  have d0 := (((BK.nil w).alloc (pfC p (.slice s1 n1 c1) (.slice s2 p.ss.length c2)) 52).alloc (ints .u8 d) 28).alloc (pfC pf0 (.slice none 0 0) (.slice none 0 0)) 52
  rw [show ((w.alloc (.cells (pfC p (.slice s1 n1 c1) (.slice s2 p.ss.length c2)).toArray 52)).alloc (.cells (ints .u8 d).toArray 28)).heap.size = w.heap.size + 1 + 1 by simp, show (w.alloc (.cells (pfC p (.slice s1 n1 c1) (.slice s2 p.ss.length c2)).toArray 52)).heap.size = w.heap.size + 1 by simp] at d0
  have LC := hid (pfC_len ok (.slice s1 n1 c1) (.slice s2 p.ss.length c2))
  have LZ := hid (show (pfC pf0 (.slice none 0 0) (.slice none 0 0)).length = 35 from rfl)
  have LE := hid (show (Tryz.prog.info? 28).map (·.size) = some (ints .u8 (emptyD k h)).length by rw [Tryz.sizeD, ints_len, emptyD_len])
  have LDd := hid (show (Tryz.prog.info? 28).map (·.size) = some (ints .u8 d).length by rw [Tryz.sizeD, ints_len, hd])
  have hrE := hR h (by omega)
  have i1 : (h : Int) < 257 := by omega
  have i1b : (h : Int) < 256 := by omega
  have i2 : h < 257 := by omega
  have gD := Tryz.guardD
  have qE := eqD_ne d (emptyD k h) hd (emptyD_len k h) he
  have hdl := hd
  clear hR he hy ok2
  have hp1 : ((2 ^ (h % 8) : Nat) : Int) ≤ 128 := by
    have : h % 8 < 8 := by omega
    generalize h % 8 = q at *
    have : ∀ q, q < 8 → ((2 ^ q : Nat) : Int) ≤ 128 := by decide
    exact this q (by assumption)
  generalize emptyD k h = E at *
  generalize pfC (setP p h d) (.slice s1 n1 c1) = CP at *
  generalize pfC ⟨p.f, p.vs, p.bs.set (h / 8) (p.bs.getD (h / 8) 0 + (2 ^ (h % 8) : Nat)), p.ss⟩ (.slice s1 n1 c1) (.slice s2 p.ss.length c2) = C1 at *
  generalize pfC p (.slice s1 n1 c1) (.slice s2 p.ss.length c2) = C at *
  generalize pfC pf0 (.slice none 0 0) (.slice none 0 0) = Z at *
  generalize hX : p.bs.getD (h / 8) 0 = x at *
  clear hX
  go_enter Tryz.func66, Tryz.ntmps66
  go_wp2_with (first | refine wpList_allocV AP.out rfl rfl ?_)
  refine wp_region_noPanic ?_
  refine wp_region_held_drew (S := (fun w' => BK w w' [(w.heap.size + 1 + 1, Z, 52), (w.heap.size + 1, ints .u8 d, 28), (w.heap.size, C, 52)])) (by kernel_rfl) d0.drew (fun hHeld => ?_)
  refine wpAnyH_take (i := 0) (oi := { dst := some 11, op := Op.load 28 (Operand.tmp 7), type := 28, pos := "ref.go:68", after := #[], guard := none }) (v := .agg (ints .u8 d).toArray) rfl (by kernel_rfl) (by kernel_rfl) (by kernel_rfl) (fun _ _ _ h => h) (yieldsIf_load_mid (by rfl) 28 _ rfl (w.heap.size + 1) (0) rfl (ints .u8 d) _ (fun w hS => rng (hS.row (.tail _ (.head _)))) Tryz.underlying28 rfl LDd.out) hHeld ?_
  try simp only [Act.put, List.setIfInBounds_toArray, List.set_cons_zero, List.set_cons_succ]
  refine wpAnyH_take (i := 1) (oi := { dst := some 12, op := Op.move (Operand.tmp 1), type := 48, pos := "ref.go:68", after := #[], guard := none }) (v := .slice (some ⟨ge, 0, none⟩) 257 ce) rfl (by kernel_rfl) (by kernel_rfl) (by kernel_rfl) (fun _ _ _ h => h) (Or.inl ⟨by rfl, by intro w hS; go_simp⟩) hHeld ?_
  try simp only [Act.put, List.setIfInBounds_toArray, List.set_cons_zero, List.set_cons_succ]
  refine wpAnyH_take (i := 2) (oi := { dst := some 13, op := Op.move (Operand.tmp 2), type := 3, pos := "ref.go:68", after := #[], guard := none }) (v := .int .i64 h) rfl (by kernel_rfl) (by kernel_rfl) (by kernel_rfl) (fun _ _ _ h => h) (Or.inl ⟨by rfl, by intro w hS; go_simp⟩) hHeld ?_
  try simp only [Act.put, List.setIfInBounds_toArray, List.set_cons_zero, List.set_cons_succ]
  refine wpAnyH_take (i := 3) (oi := { dst := some 14, op := Op.indexAddr 48 (Operand.tmp 12) (Operand.tmp 13), type := 0, pos := "ref.go:68", after := #[{ on := 1, ground := Ground.data }, { on := 2, ground := Ground.data }], guard := none }) (v := .pointer (some ⟨ge, h * 32, none⟩)) rfl (by kernel_rfl) (by kernel_rfl) (by kernel_rfl) (fun _ _ _ h => h) (Or.inl ⟨by rfl, by intro w hS; go_simp⟩) hHeld ?_
  try simp only [Act.put, List.setIfInBounds_toArray, List.set_cons_zero, List.set_cons_succ]
  refine wpAnyH_take (i := 4) (oi := { dst := some 15, op := Op.load 28 (Operand.tmp 14), type := 28, pos := "ref.go:68", after := #[{ on := 3, ground := Ground.data }], guard := none }) (v := .agg (ints .u8 E).toArray) rfl (by kernel_rfl) (by kernel_rfl) (by kernel_rfl) (fun _ _ _ h => h) (yieldsIf_load_mid (by rfl) 28 _ rfl ge (h * 32) rfl (ints .u8 E) _ (fun w hS => rng_below hrE hS.1 hgw) Tryz.underlying28 rfl LE.out) hHeld ?_
  try simp only [Act.put, List.setIfInBounds_toArray, List.set_cons_zero, List.set_cons_succ]
  refine wpAnyH_take (i := 5) (oi := { dst := some 16, op := Op.binOp BinOp.eql 28 (Operand.tmp 11) (Operand.tmp 15) 28, type := 4, pos := "ref.go:68", after := #[{ on := 0, ground := Ground.data }, { on := 4, ground := Ground.data }], guard := none }) (v := .bool false) rfl (by kernel_rfl) (by kernel_rfl) (by kernel_rfl) (fun _ _ _ h => h) (Or.inl ⟨by rfl, by intro w hS; go_simp⟩) hHeld ?_
  try simp only [Act.put, List.setIfInBounds_toArray, List.set_cons_zero, List.set_cons_succ]
  refine wpAnyH_done (by kernel_rfl) ?_ _
  refine NoPanic.normal ?_
  generalize World.drew _ = w3 at *
  have rC := hHeld.row (.tail _ (.tail _ (.head _)))
  have rd := hHeld.row (.tail _ (.head _))
  have rZ := hHeld.row (.head _)
  have hB3 := hHeld.1
  have hO3 := hO.below hB3 (Nat.le_refl _)
  have hne3 : ∀ q, (Value.slice s2 p.ss.length c2).ownBlock = some q → q < w.heap.size := fun q e => (hO.block q e).2
  have c0 : w3.cell? ⟨w.heap.size, 2 + h / 8, none⟩ = some (.int .u8 x) := by
    rw [cell_of_row _ _ _ _ _ _ rC]; simpa using KB.out
  clear hHeld hO d0 KB hrE qE

  go_wp2_with fail
  go_loopw [9, 10] (fun v j wr => ∃ t : Nat, t ≤ h % 8 ∧ v = .int .u8 ((2 ^ t : Nat) : Int) ∧ j = .int .i64 t ∧ wr = w3) (fun _ j _ => h % 8 - (intOf j).toNat)
  case atStart => exact ⟨0, by omega, rfl, rfl, rfl⟩
  case round =>
    obtain ⟨t, ht, rfl, rfl, rfl⟩ := hrel
    by_cases hltq : t < h % 8
    · have j1 : (t : Int) < (h : Int) % 8 := by omega
      have j2 : ((2 ^ t : Nat) : Int) ≤ 64 := by
        have : ∀ q, q < 7 → ((2 ^ q : Nat) : Int) ≤ 64 := by decide
        exact this t (by omega)
      have j3 : (0 : Int) ≤ ((2 ^ t : Nat) : Int) := Int.natCast_nonneg _
      have HP := hid (show 2 * ((2 ^ t : Nat) : Int) = ((2 ^ (t + 1) : Nat) : Int) by rw [Nat.pow_succ]; omega)
      generalize ((2 ^ t : Nat) : Int) = y at *
      go_wp2_with fail
      go_roundw
      case rel => exact ⟨t + 1, by omega, by rw [← HP.out], by simp, trivial⟩
      case measure => simp [intOf]; omega
    · obtain rfl : t = h % 8 := by omega
      have j1 : ¬ ((h % 8 : Nat) : Int) < (h : Int) % 8 := by omega
      have j2 : (0 : Int) ≤ ((2 ^ (h % 8) : Nat) : Int) := Int.natCast_nonneg _
      generalize ((2 ^ (h % 8) : Nat) : Int) = P at *
      have j3 : 0 ≤ x + P := by omega
      have j4 : h / 8 < 32 := by omega
      have j5 : (h : Int) / 8 < 32 := by omega
      go_wp2_with (first | (refine wpList_storeC rfl 5 _ _ rfl w.heap.size (2 + h / 8) (.int .u8 (x + P)) rfl rfl C _ rC (by rw [LC.out]; omega) (by kernel_rfl) rfl rfl ?_; refine Hid.out ?_))
      refine hid ?_
      rw [HC1.out]
      have hB4 := below_setRow hB3 (Nat.le_refl _) C1.toArray
      have rC4 := setRow_heap _ _ _ C1.toArray _ _ rC
      have rd4 : (wr.setRow w.heap.size C1.toArray).heap[w.heap.size + 1]? = _ := (setRow_other _ _ _ _ (by omega)).trans rd
      have rZ4 : (wr.setRow w.heap.size C1.toArray).heap[w.heap.size + 1 + 1]? = _ := (setRow_other _ _ _ _ (by omega)).trans rZ
      have hO4 : OwnD (wr.setRow w.heap.size C1.toArray) base _ p.ss := hO3.of_heap fun q e => setRow_other _ _ _ _ (by have := hne3 q e; omega)
      clear hB3 rC rd rZ hO3 c0
      generalize wr.setRow w.heap.size C1.toArray = w4 at *
      have c34 : w4.cell? ⟨w.heap.size, 34, none⟩ = some (.slice s2 p.ss.length c2) := by
        rw [cell_of_row _ _ _ _ _ _ rC4]; simpa using K34.out
      have H4 : ∀ q, q < w.heap.size → w4.heap[q]? = w.heap[q]? := fun q hq => by rw [Array.getElem?_eq_getElem hq]; exact hbel hB4 (Array.getElem?_eq_getElem hq) hq
      have hs4 : w.heap.size + 3 ≤ w4.heap.size := by have := hlt rZ4; omega
      have LDd2 := hid (show (Tryz.prog.info? 28).map (·.size) = some (ints .u8 d).toArray.size by rw [Tryz.sizeD, List.size_toArray, ints_len, hdl])
      have LDd3 := hid (show (ints .u8 d).length = 32 by rw [ints_len, hdl])
      have hsl : p.ss.length + 1 ≤ 4398046511104 := by omega
      have hb4 : base ≤ w4.heap.size := by omega
      go_wp2_with (first
        | refine wpList_load_row rfl 28 _ rfl (w.heap.size + 1) rfl 28 _ _ _ rd4 Tryz.underlying28 rfl LDd2.out ?_
        | refine wpList_sliceD rfl _ rfl (ints .u8 d) LDd3.out rfl ?_
        | (at_builtin; refine wpList_pushD2 rfl _ _ rfl base _ p.ss d rfl hO4 rfl hdl hsl hb4 _ _ ?_; intro v5 w5 hO5 hB5 hfr hnv; refine Hid.out ?_))
      refine hid ?_
      obtain ⟨s5, c5, rfl, _, _⟩ := hO5.form
      rw [List.length_append, List.length_singleton]
      rw [List.length_append, List.length_singleton] at hO5
      have rC5 := (hfr w.heap.size (by omega) (fun e => by have := hne3 _ e; omega)).trans rC4
      have rZ5 := (hfr (w.heap.size + 1 + 1) (by omega) (fun e => by have := hne3 _ e; omega)).trans rZ4
      have hB5w := (hB4.mono hbase).trans hB5
      have hne5 : ∀ q, (Value.slice s5 (p.ss.length + 1) c5).ownBlock = some q → q < w.heap.size ∨ w.heap.size + 3 ≤ q := fun q e => by
        rcases hnv with e1 | ⟨q', e1, e2⟩
        · rw [List.length_append, List.length_singleton, e] at e1
          exact Or.inl (hne3 q e1.symm)
        · rw [List.length_append, List.length_singleton, e] at e1
          cases e1; omega
      have H5 := hid (fun q (hq : q < w.heap.size) (hn : (Value.slice s2 p.ss.length c2).ownBlock ≠ some q) => (hfr q (by omega) hn).trans (H4 q hq))
      clear H4
      have hl34 : 34 < C1.length := by rw [L1.out]; omega
      clear hnv hfr rd4 rC4 rZ4 c34 hO4 hB4
      go_wp2_with (first | (refine wpList_storeC rfl 48 _ _ rfl w.heap.size 34 (.slice s5 (p.ss.length + 1) c5) rfl rfl C1 _ rC5 hl34 (by kernel_rfl) rfl rfl ?_; refine Hid.out ?_))
      refine hid ?_
      rw [HC2.out]
      have hLP := LP.out (.slice s5 (p.ss.length + 1) c5)
      have hOP := OP.out (.slice s5 (p.ss.length + 1) c5) rfl
      generalize hC2 : CP (.slice s5 (p.ss.length + 1) c5) = C2 at *
      have HE := hid hC2
      clear hC2
      have hB6 := below_setRow hB5w hbase C2.toArray
      have rC6 := setRow_heap _ _ _ C2.toArray _ _ rC5
      have rZ6 : (w5.setRow w.heap.size C2.toArray).heap[w.heap.size + 1 + 1]? = _ := (setRow_other _ _ _ _ (by omega)).trans rZ5
      have hO6 : OwnD (w5.setRow w.heap.size C2.toArray) base _ (p.ss ++ [d]) := hO5.of_heap fun q e => setRow_other _ _ _ _ (by have := hne5 q e; omega)
      clear rC5 rZ5 hO5 hB5 hB5w HC1 HC2 LP OP
      have H6 := hid (fun q (hq : q < w.heap.size) (hn : (Value.slice s2 p.ss.length c2).ownBlock ≠ some q) => (setRow_other w5 w.heap.size q C2.toArray (by omega)).trans (H5.out q hq hn))
      clear H5
      generalize w5.setRow w.heap.size C2.toArray = w6 at *
      have SC := hid (show (Tryz.prog.info? 52).map (·.size) = some C2.toArray.size by rw [Tryz.sizeP, List.size_toArray, hLP])
      go_wp2_with (first | (refine wpList_load_row rfl 52 _ rfl w.heap.size rfl 52 _ _ _ rC6 Tryz.underlying52 rfl SC.out ?_; refine Hid.out ?_))
      refine hid ?_
      refine wpList_store_row rfl 52 _ _ rfl (w.heap.size + 1 + 1) C2.toArray rfl rfl 52 _ rZ6 (by rw [Tryz.sizeP, List.size_toArray, hLP]) (by rw [List.size_toArray, List.size_toArray, hLP, LZ.out]) (all_oneCell_toArray hOP) ?_
      go_wp2_with fail
      exact bodyPost_ret (v := .agg C2.toArray) (results_cell_row Tryz.results66 _ _ (w.heap.size + 1 + 1) 52 _ _ _ rfl (setRow_heap _ _ _ _ _ _ rZ6) Tryz.underlying52 rfl (by rw [Tryz.sizeP, List.size_toArray, hLP])) rfl ⟨s5, c5, by rw [HE.out], hO6.of_heap fun q e => setRow_other _ _ _ _ (by have := hne5 q e; omega), below_setRow hB6 (by omega) _, fun q hq hn => (setRow_other _ _ _ _ (by omega)).trans (H6.out q hq hn)⟩
end Go.Proofs.YtbjahdbmkcamoaaGreatDoor
namespace Go.Proofs.YtbjahdbmkcamoaaGreatDoor
set_option linter.unusedVariables false
set_option linter.unusedSimpArgs false
open Go.RowKit
attribute [local go_sem ↓] Go.wp_at_zero Go.wp_at_succ

/-- The neighbours up to a height, empty from there on. -/
def nbT (w : Int) (nb : Nat → List Int) (n : Nat) (j : Nat) : List Int := if j < n then nb j else emptyD w j
theorem sH_nbT (w : Int) (nb : Nat → List Int) (n j : Nat) : sH w (nbT w nb n) j = if j < n then sH w nb j else 0 := by
  unfold sH setH nbT
  by_cases h : j < n
  · rw [if_pos h, if_pos h]
  · rw [if_neg h, if_neg h, decide_eq_true rfl]; rfl
theorem byteH_off (w : Int) (nb : Nat → List Int) (h i : Nat) (hi : i ≠ h / 8) : byteH w (nbT w nb (h + 1)) i = byteH w (nbT w nb h) i := by
  rw [byteH_s, byteH_s]
  have e : ∀ j, j < 8 → sH w (nbT w nb (h + 1)) (8 * i + j) = sH w (nbT w nb h) (8 * i + j) := fun j hj => by
    rw [sH_nbT, sH_nbT]
    by_cases q : 8 * i + j < h
    · rw [if_pos q, if_pos (by omega)]
    · rw [if_neg q, if_neg (by omega)]
  rw [show 8 * i = 8 * i + 0 from rfl, e 0 (by omega), e 1 (by omega), e 2 (by omega), e 3 (by omega), e 4 (by omega), e 5 (by omega), e 6 (by omega), e 7 (by omega)]
theorem byteH_at (w : Int) (nb : Nat → List Int) (h : Nat) : byteH w (nbT w nb (h + 1)) (h / 8) = byteH w (nbT w nb h) (h / 8) + (2 ^ (h % 8) : Nat) * sH w nb h := by
  obtain ⟨i, j, hj, rfl⟩ : ∃ i j, j < 8 ∧ h = 8 * i + j := ⟨h / 8, h % 8, by omega, by omega⟩
  rw [show (8 * i + j) / 8 = i by omega, show (8 * i + j) % 8 = j by omega, byteH_s, byteH_s]
  simp only [sH_nbT]
  have c : j = 0 ∨ j = 1 ∨ j = 2 ∨ j = 3 ∨ j = 4 ∨ j = 5 ∨ j = 6 ∨ j = 7 := by omega
  rcases c with rfl | rfl | rfl | rfl | rfl | rfl | rfl | rfl <;> simp [Nat.add_assoc] <;> omega
theorem bitsT_zero (w : Int) (nb : Nat → List Int) : bitsH w (nbT w nb 0) = List.replicate 32 0 := by
  have : ∀ i, byteH w (nbT w nb 0) i = 0 := fun i => by
    rw [byteH_s]; simp [sH_nbT]
  unfold bitsH
  rw [show (byteH w (nbT w nb 0)) = fun _ => (0 : Int) from funext this]
  rfl
theorem bitsT_no (w : Int) (nb : Nat → List Int) (h : Nat) (hs : setH w nb h = false) : bitsH w (nbT w nb (h + 1)) = bitsH w (nbT w nb h) := by
  unfold bitsH
  refine List.map_congr_left fun i _ => ?_
  by_cases e : i = h / 8
  · subst e
    rw [byteH_at]
    unfold sH
    rw [hs]; simp
  · exact byteH_off w nb h i e
theorem bitsT_yes (w : Int) (nb : Nat → List Int) (h : Nat) (hh : h < 256) (hs : setH w nb h = true) : bitsH w (nbT w nb (h + 1)) = (bitsH w (nbT w nb h)).set (h / 8) ((bitsH w (nbT w nb h)).getD (h / 8) 0 + (2 ^ (h % 8) : Nat)) := by
  rw [bitsH_get w _ (h / 8) (by omega)]
  apply List.ext_getElem (by simp [bitsH])
  intro i h1 h2
  have h1' : i < 32 := by simpa [bitsH] using h1
  rw [List.getElem_set]
  by_cases e : h / 8 = i
  · subst e
    rw [if_pos rfl]
    simp only [bitsH, List.getElem_map, List.getElem_range]
    rw [byteH_at]
    unfold sH
    rw [hs]; simp
  · rw [if_neg e]
    simp only [bitsH, List.getElem_map, List.getElem_range]
    exact byteH_off w nb h i (fun q => e q.symm)
theorem bitsT_lt (w : Int) (nb : Nat → List Int) (h : Nat) (hh : h < 256) (hs : setH w nb h = true) : (bitsH w (nbT w nb h)).getD (h / 8) 0 + ((2 ^ (h % 8) : Nat) : Int) < 256 := by
  have a := byteH_at w nb h
  rw [bitsH_get w _ (h / 8) (by omega)]
  have b := (bitsH_bys w (nbT w nb (h + 1))).at (h / 8) (by simp [bitsH]; omega)
  rw [bitsH_get w _ (h / 8) (by omega), a] at b
  unfold sH at b
  rw [hs] at b
  simp only [if_true, Int.mul_one] at b
  exact b.2
theorem bitsT_all (w : Int) (nb : Nat → List Int) : bitsH w (nbT w nb 256) = bitsH w nb := by
  unfold bitsH
  refine List.map_congr_left fun i hi => ?_
  have hi' := List.mem_range.1 hi
  rw [byteH_s, byteH_s]
  simp only [sH_nbT]
  rw [if_pos (by omega), if_pos (by omega), if_pos (by omega), if_pos (by omega), if_pos (by omega), if_pos (by omega), if_pos (by omega), if_pos (by omega)]
/-- The proof when the heights below n are done. -/
def pfT (w : Int) (f : Bool) (vs : List Int) (nb : Nat → List Int) (n : Nat) : Pf := ⟨f, vs, bitsH w (nbT w nb n), sumsH w nb n⟩
theorem pfT_all (w : Int) (f : Bool) (vs : List Int) (nb : Nat → List Int) : pfT w f vs nb 256 = pfH w f vs nb := by unfold pfT pfH; rw [bitsT_all]
theorem pfT_zero (w : Int) (f : Bool) (vs : List Int) (nb : Nat → List Int) : pfT w f vs nb 0 = ⟨f, vs, List.replicate 32 0, []⟩ := by unfold pfT; rw [bitsT_zero]; rfl
theorem pfT_no (w : Int) (f : Bool) (vs : List Int) (nb : Nat → List Int) (h : Nat) (hs : nb h = emptyD w h) : pfT w f vs nb (h + 1) = pfT w f vs nb h := by
  have : setH w nb h = false := by unfold setH; rw [decide_eq_true hs]; rfl
  unfold pfT
  rw [bitsT_no w nb h this, sumsH_succ, this]; simp
theorem pfT_yes (w : Int) (f : Bool) (vs : List Int) (nb : Nat → List Int) (h : Nat) (hh : h < 256) (hs : nb h ≠ emptyD w h) : pfT w f vs nb (h + 1) = setP (pfT w f vs nb h) h (nb h) ∧ (pfT w f vs nb h).bs.getD (h / 8) 0 + ((2 ^ (h % 8) : Nat) : Int) < 256 := by
  have e : setH w nb h = true := by unfold setH; rw [decide_eq_false hs]; rfl
  refine ⟨?_, bitsT_lt w nb h hh e⟩
  unfold pfT setP
  rw [bitsT_yes w nb h hh e, sumsH_succ, if_pos e]
theorem sumsH_le (w : Int) (nb : Nat → List Int) (n : Nat) : (sumsH w nb n).length ≤ n := by
  unfold sumsH
  rw [List.length_map]
  exact Nat.le_trans (List.length_filter_le _ _) (by simp)
theorem pfT_ok (w : Int) (f : Bool) (vs : List Int) (nb : Nat → List Int) (hl : ∀ h, (nb h).length = 32) (n : Nat) : PfOk (pfT w f vs nb n) := ⟨by simp [pfT, bitsH], fun d hd => by
  obtain ⟨h, _, rfl⟩ := List.mem_map.1 (show d ∈ ((List.range n).filter (setH w nb)).map nb from hd)
  exact hl h⟩
/-! Unlike keys: the one entry of a key. -/
theorem look_snoc {m : List EnM} (nd : (m.map EnM.k).Nodup) (ks : List Int) (i : Nat) (hi : i < m.length) : lookM (m.take (i + 1)) ks = if (m.getD i dE).k = ks then some (m.getD i dE).v else lookM (m.take i) ks := by
  have g : m.getD i dE = m[i] := by rw [List.getD_eq_getElem?_getD, List.getElem?_eq_getElem hi]; rfl
  rw [g]
  unfold lookM
  rw [List.take_succ_eq_append_getElem hi, List.find?_append]
  by_cases e : m[i].k = ks
  · rw [if_pos e]
    have : (m.take i).find? (fun e => decide (e.k = ks)) = none := List.find?_eq_none.2 fun x hx => by
      obtain ⟨j, hj, rfl⟩ := List.mem_iff_getElem.1 hx
      have hj' : j < i := by rw [List.length_take] at hj; omega
      rw [List.getElem_take]
      simp only [decide_eq_true_eq]
      intro q
      have := (List.getElem_inj (h₀ := by rw [List.length_map]; omega) (h₁ := by rw [List.length_map]; omega) nd).1 (show (m.map EnM.k)[j]'(by rw [List.length_map]; omega) = (m.map EnM.k)[i]'(by rw [List.length_map]; omega) by simp [q, e])
      omega
    rw [this]
    simp [e]
  · rw [if_neg e]
    have : ([m[i]] : List EnM).find? (fun e => decide (e.k = ks)) = none := by simp [e]
    rw [this, Option.or_none]
theorem nbs_shr {m : List EnM} (nd : (m.map EnM.k).Nodup) (ks : List Int) (h : Nat) (hh : h < 256) : Shr (nbs m ks h) h := by
  refine ⟨List.Nodup.sublist (List.Sublist.map _ List.filter_sublist) nd, fun a ha b hb => ?_⟩
  obtain ⟨_, ha⟩ := List.mem_filter.1 ha
  obtain ⟨_, hb⟩ := List.mem_filter.1 hb
  simp only [Bool.and_eq_true, Bool.not_eq_true', decide_eq_false_iff_not] at ha hb
  refine List.all_eq_true.2 fun i hi => ?_
  have hi' := List.mem_range.1 hi
  simp only [decide_eq_true_eq]
  by_cases q : i < 255 - h
  · rw [agr_at ha.1 q, agr_at hb.1 q]
  · obtain rfl : i = 255 - h := by omega
    have := bitK_01 a.k (255 - h)
    have := bitK_01 b.k (255 - h)
    have := bitK_01 ks (255 - h)
    have := ha.2
    have := hb.2
    omega
end Go.Proofs.YtbjahdbmkcamoaaGreatDoor
