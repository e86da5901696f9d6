import Derived.Test.YtpjfpepjledlmaaGreatDoorSb
import Derived.Test.YtpjfpepjledlmaaGreatDoorG9
import Derived.Test.YtpjfpepjledlmaaGreatDoorPr0
namespace Go.Proofs.YtpjfpepjledlmaaGreatDoor
set_option linter.unusedVariables false
set_option linter.unusedSimpArgs false
open Go.RowKit
open Go.Proofs.YtpjfpepjledlmaaGreatDoor.Ca (Ct ct0 ctC argV AS)
attribute [local go_sem ↓] Go.wp_at_zero Go.wp_at_succ

/-- A value built, guarded or not. -/
theorem wpList_built {P : Program} {ops : Array Oper} {rest : List Oper} {o : Oper} {a : Act} {w : World} {Q : Exit → Act → World → Prop} (hw : Region.wanted o (yielded ops a.tmps) = true) (t : TypeId) (parts : Array (Nat × Operand)) (ho : o.op = .build t parts) (ps : List (Nat × Value)) (hp : (parts.toList.map fun (i, x) => (i, a.eval x)) = ps) (cs : Array Value) (hb : P.built t ps = some cs)
    (h : wpList P ops Q rest (a.put o.dst (.agg cs)) w) : wpList P ops Q (o :: rest) a w := by
  have e : P.built t (parts.map fun (i, x) => (i, a.eval x)).toList = some cs := by rw [Array.toList_map, hp]; exact hb
  exact BigFrame.wpList_want hw fun _ hK => wp_build t parts ho (by rw [e]; rfl) (by rw [e]; exact hK _ _ h)
theorem list32 {l : List Value} (h : l.length = 32) : ∃ x0 x1 x2 x3 x4 x5 x6 x7 x8 x9 x10 x11 x12 x13 x14 x15 x16 x17 x18 x19 x20 x21 x22 x23 x24 x25 x26 x27 x28 x29 x30 x31, l = [x0, x1, x2, x3, x4, x5, x6, x7, x8, x9, x10, x11, x12, x13, x14, x15, x16, x17, x18, x19, x20, x21, x22, x23, x24, x25, x26, x27, x28, x29, x30, x31] := by
  match l, h with
  | [x0, x1, x2, x3, x4, x5, x6, x7, x8, x9, x10, x11, x12, x13, x14, x15, x16, x17, x18, x19, x20, x21, x22, x23, x24, x25, x26, x27, x28, x29, x30, x31], _ => exact ⟨x0, x1, x2, x3, x4, x5, x6, x7, x8, x9, x10, x11, x12, x13, x14, x15, x16, x17, x18, x19, x20, x21, x22, x23, x24, x25, x26, x27, x28, x29, x30, x31, rfl⟩
/-- A block made and filled at once. -/
theorem wpList_new {P : Program} {t : TypeId} {Z : List Value} {m : Nat} (hz : ∀ (a : Act) (o : Oper) (w : World), o.op = .alloc t → (execOp a.eval o).run P w = .ok (.value (.pointer (some ⟨w.heap.size, 0, none⟩))) (w.alloc (.cells Z.toArray t))) (hZ : Z.length = m) (hi : (P.info? t).map (·.size) = some m)
    {ops : Array Oper} {rest : List Oper} {o1 o2 : Oper} {a : Act} {w : World} {Q : Exit → Act → World → Prop} (hg1 : o1.guard = none) (ho1 : o1.op = .alloc t) (hg2 : o2.guard = none) (x y : Operand) (ho2 : o2.op = .store t x y) (hd : o2.dst = none)
    (C : List Value) (hx : (a.put o1.dst (.pointer (some ⟨w.heap.size, 0, none⟩))).eval x = .pointer (some ⟨w.heap.size, 0, none⟩)) (hy : (a.put o1.dst (.pointer (some ⟨w.heap.size, 0, none⟩))).eval y = .agg C.toArray) (hC : C.length = m) (h1 : ∀ v ∈ C, v.oneCell' = true)
    (h : wpList P ops Q rest (a.put o1.dst (.pointer (some ⟨w.heap.size, 0, none⟩))) (w.alloc (.cells C.toArray t))) : wpList P ops Q (o1 :: o2 :: rest) a w := by
  refine wpList_plain hg1 fun K hK => ?_
  unfold Oper.wp
  rw [hz a o1 w ho1]
  refine hK _ _ ?_
  refine wpList_store_row hg2 t x y ho2 w.heap.size C.toArray hx hy t Z.toArray (hnew w _) (by rw [hi, List.size_toArray, hC]) (by rw [List.size_toArray, List.size_toArray, hZ, hC]) (all_oneCell_toArray h1) ?_
  rw [hd, setRow_alloc]
  exact h
theorem SK.off {W wr : World} {base : Nat} {S : Sto} (h : SK W base S) (hf : Fr (S.g :: S.F) W wr) :
    wr.heap[S.st]? = W.heap[S.st]? ∧ (∀ k, S.sv.ownBlock = some k → wr.heap[k]? = W.heap[k]?) ∧ (∀ k ∈ S.lb, wr.heap[k]? = W.heap[k]?) ∧ (∀ k ∈ S.FC, wr.heap[k]? = W.heap[k]?) := by
  refine ⟨hf.block S.st h.lt_st ?_, fun k e => hf.block k (h.in_lt (by simp [e])).2 ?_, fun k e => hf.block k (h.in_lt (by simp [e])).2 ?_, fun k e => hf.block k (h.in_lt (by simp [e])).2 ?_⟩
  · intro q
    rcases List.mem_cons.1 q with z | z
    · exact h.st_apart.1 z
    · exact h.st_apart.2.1 z
  · intro q
    rcases List.mem_cons.1 q with z | z
    · exact (h.sv_apart e).1 z
    · exact (h.sv_apart e).2.2.1 z
  · intro q
    rcases List.mem_cons.1 q with z | z
    · exact h.g_apart.2.2 (z ▸ e)
    · exact h.a2 k z e
  · intro q
    rcases List.mem_cons.1 q with z | z
    · exact h.g_apart.2.1 (z ▸ e)
    · exact h.a1 k z e
/-- The disk has changed beneath, nothing was published. -/
theorem SK.disked {w w' : World} {base : Nat} {S : Sto} (h : SK w base S) {F' : List Nat} {D' : DS} (hD : DA w' base F' S.p D') (m : Nat) (hm : S.s.ma = m) (hf : FK w' S.g S.p S.s S.s.ma S.ep) (fr : Fr (S.g :: S.F) w w') (gr : Gr w S.F F') (hck : ∀ x ∈ S.a.clean, D'.readOf x.1.toNat = S.D.readOf x.1.toNat) :
    SK w' base { S with F := F', D := D', nx := m } := by
  obtain ⟨o1, o2, o3, o4⟩ := h.off fr
  have hold2 : ∀ k, (k = S.g ∨ k = S.st ∨ k ∈ S.F ∨ k ∈ S.FC ∨ S.sv.ownBlock = some k ∨ k ∈ S.lb) → base ≤ k ∧ k < w.heap.size := fun k q => h.in_lt q
  refine ⟨hD, ?_, ?_, o1.trans h.sk, ownsRow_heap h.so o2, fun k q => ⟨(h.lb k q).1, ?_⟩, h.cl, fun j hj => (h.cv j hj).to (fun k q => q) o3, fun x hx => ?_, h.hd, fun k hk q => ?_, fun k hk q => ?_, h.a3, h.bg, h.bs, h.bp⟩
  · show FK w' S.g S.p S.s (m : Int) S.ep
    rw [← hm]; exact hf
  · obtain ⟨mm, n, s, L, e, c, r⟩ := h.ca
    exact ⟨mm, n, s, L, e, c.of_heap fun k hk => o4 k (by rw [e]; exact hk), r⟩
  · obtain ⟨cs, hc⟩ := (h.lb k q).2
    exact ⟨cs, (o3 k q).trans hc⟩
  · obtain ⟨v, h1, h2, h3, h4⟩ := h.ck x hx
    exact ⟨v, h1.to (fun k q => q) o3, h2, h3, by show unpackF x.1 (D'.readOf x.1.toNat) = _; rw [hck x hx]; exact h4⟩
  · rcases gr k hk with z | z
    · exact h.a1 k z q
    · have := (hold2 k (by simp [q])).2; omega
  · rcases gr k hk with z | z
    · exact h.a2 k z q
    · have := (hold2 k (by simp [q])).2; omega
set_option maxRecDepth 100000 in
set_option maxHeartbeats 1000000 in
/-- Live, by the store's cells alone. -/
theorem oLive_min (w : World) (base : Nat) (F : List Nat) (st g p : Nat) (s : Sup) (nx ep : Int) (D : DS) (c0 : w.cell? ⟨st, 0, none⟩ = some (.pointer (some ⟨g, 0, none⟩))) (hf : FK w g p s nx ep) (hD : DA w base F p D) :
    Calls Tryz.prog 20 #[.pointer (some ⟨st, 0, none⟩)] w fun e w' => e = .returned (.int .i64 (liveF D ep)) ∧ Below w.heap.size w w' := by
  have HL := hid (Live_any w base F p D hD g s nx ep hf)
  clear hf hD
  generalize liveF D ep = c at *
  go_enter Tryz.func20, Tryz.ntmps20
  go_wp2_with fail
  refine HL.out.mono ?_
  rintro e w1 ⟨rfl, hb⟩
  go_wp2
  go_ret
  exact ⟨rfl, hb⟩
/-- How a call that answers a number and touches nothing older is known. -/
def Tel (f : FuncId) (av : Array Value) (w : World) (c : Int) : Prop := ∀ w1, Below w.heap.size w w1 → Calls Tryz.prog f av w1 fun e w2 => e = .returned (.int .i64 c) ∧ Below w1.heap.size w1 w2
theorem Tel.later {f : FuncId} {av : Array Value} {w w1 : World} {c : Int} (h : Tel f av w c) (hb : Below w.heap.size w w1) : Tel f av w1 c := fun w2 h2 => h w2 (hb.trans (h2.mono hb.size))
def zB : List Value := ints .u8 z32
def pf0 : List Value := [.bool false, .slice none 0 0] ++ (ints .u8 z32 ++ [.slice none 0 0])
def nd0 : List Value := [.int .i64 0, .int .i64 0, .int .i64 0, .int .i64 0, .int .i64 0] ++ (ints .u8 z32 ++ (ints .u8 z32 ++ (ints .u8 z32 ++ [.slice none 0 0])))
def ptK (K : List Value) : List Value := K ++ ([.slice none 0 0] ++ nd0)
theorem one_all {l : List Value} (h : l.all (·.oneCell') = true) : ∀ v ∈ l, v.oneCell' = true := fun v hv => List.all_eq_true.1 h v hv
theorem pf0_one : ∀ v ∈ pf0, v.oneCell' = true := one_all (by kernel_rfl)
theorem nd0_one : ∀ v ∈ nd0, v.oneCell' = true := one_all (by kernel_rfl)
theorem ptK_one {K : List Value} (h : ∀ v ∈ K, v.oneCell' = true) : ∀ v ∈ ptK K, v.oneCell' = true := fun v hv => by
  rcases List.mem_append.1 hv with q | q
  · exact h v q
  · rcases List.mem_append.1 q with r | r
    · rw [List.mem_singleton.1 r]; rfl
    · exact nd0_one v r
theorem pf0_len : pf0.length = 35 := rfl
theorem nd0_len : nd0.length = 102 := rfl
theorem ptK_len {K : List Value} (h : K.length = 32) : (ptK K).length = 135 := by unfold ptK; rw [List.length_append, List.length_append, h, nd0_len]; rfl
theorem Tryz.sizePf : (Tryz.prog.info? 28).map (·.size) = some 35 := by kernel_rfl
theorem Tryz.sizeNd : (Tryz.prog.info? 47).map (·.size) = some 102 := by kernel_rfl
theorem Tryz.sizePt : (Tryz.prog.info? 49).map (·.size) = some 135 := by kernel_rfl
theorem built_pf0 : Tryz.prog.built 28 [] = some pf0.toArray := by kernel_rfl
theorem built_pfZ : Tryz.prog.built 28 [(2, .agg (ints .u8 z32).toArray), (3, .slice none 0 0)] = some pf0.toArray := by kernel_rfl
theorem built_nd0 : Tryz.prog.built 47 [] = some nd0.toArray := by kernel_rfl
theorem built_pt0 : Tryz.prog.built 49 [] = some (ptK (ints .u8 z32)).toArray := by kernel_rfl
theorem built_ptK (l : List Value) (hl : l.length = 32) : Tryz.prog.built 49 [(0, .agg l.toArray)] = some (ptK l).toArray := by
  obtain ⟨x0, x1, x2, x3, x4, x5, x6, x7, x8, x9, x10, x11, x12, x13, x14, x15, x16, x17, x18, x19, x20, x21, x22, x23, x24, x25, x26, x27, x28, x29, x30, x31, rfl⟩ := list32 hl
  kernel_rfl
theorem allocPf (a : Act) (o : Oper) (w : World) (ho : o.op = .alloc 28) : (execOp a.eval o).run Tryz.prog w = .ok (.value (.pointer (some ⟨w.heap.size, 0, none⟩))) (w.alloc (.cells pf0.toArray 28)) := by
  unfold execOp
  rw [ho]
  kernel_rfl
theorem allocNd (a : Act) (o : Oper) (w : World) (ho : o.op = .alloc 47) : (execOp a.eval o).run Tryz.prog w = .ok (.value (.pointer (some ⟨w.heap.size, 0, none⟩))) (w.alloc (.cells nd0.toArray 47)) := by
  unfold execOp
  rw [ho]
  kernel_rfl
theorem allocPt (a : Act) (o : Oper) (w : World) (ho : o.op = .alloc 49) : (execOp a.eval o).run Tryz.prog w = .ok (.value (.pointer (some ⟨w.heap.size, 0, none⟩))) (w.alloc (.cells (ptK (ints .u8 z32)).toArray 49)) := by
  unfold execOp
  rw [ho]
  kernel_rfl
set_option maxRecDepth 100000 in
set_option maxHeartbeats 2000000 in
theorem ready_nil (w : World) (q : Int) : Tel 12 #[.pointer none, .int .i64 q] w 1 := fun w1 _ => by
  go_enter Tryz.func12, Tryz.ntmps12
  go_wp2
  go_ret
  exact ⟨rfl, Below.refl _ _⟩
set_option maxRecDepth 100000 in
set_option maxHeartbeats 2000000 in
theorem ready_dead (w : World) (st : Nat) (c q : Int) (hc : c ≠ 0) (LV : Tel 20 #[.pointer (some ⟨st, 0, none⟩)] w c) : Tel 12 #[.pointer (some ⟨st, 0, none⟩), .int .i64 q] w c := fun w1 hb1 => by
  have HL := hid (LV w1 hb1)
  have hc1 : (c != 0) = true := by simpa using hc
  clear LV hc hb1
  go_enter Tryz.func12, Tryz.ntmps12
  go_wp2_with fail
  refine HL.out.mono ?_
  rintro e w2 ⟨rfl, hb2⟩
  go_wp2
  go_ret
  exact ⟨rfl, hb2⟩
set_option maxRecDepth 100000 in
set_option maxHeartbeats 2000000 in
theorem ready_zero (w : World) (st : Nat) (LV : Tel 20 #[.pointer (some ⟨st, 0, none⟩)] w 0) : Tel 12 #[.pointer (some ⟨st, 0, none⟩), .int .i64 0] w 0 := fun w1 hb1 => by
  have HL := hid (LV w1 hb1)
  clear LV hb1
  go_enter Tryz.func12, Tryz.ntmps12
  go_wp2_with fail
  refine HL.out.mono ?_
  rintro e w2 ⟨rfl, hb2⟩
  go_wp2
  go_ret
  exact ⟨rfl, hb2⟩
set_option maxRecDepth 100000 in
set_option maxHeartbeats 2000000 in
theorem ready_two (w : World) (st : Nat) (LV : Tel 20 #[.pointer (some ⟨st, 0, none⟩)] w 0) (NX : Tel 21 #[.pointer (some ⟨st, 0, none⟩)] w 3) : Tel 12 #[.pointer (some ⟨st, 0, none⟩), .int .i64 2] w 0 := fun w1 hb1 => by
  have HL := hid (LV w1 hb1)
  have HN := hid (fun w2 (hb : Below w1.heap.size w1 w2) => NX w2 (hb1.trans (hb.mono hb1.size)))
  clear LV NX hb1
  go_enter Tryz.func12, Tryz.ntmps12
  go_wp2_with fail
  refine HL.out.mono ?_
  rintro e w2 ⟨rfl, hb2⟩
  have HB2 := hid hb2
  clear hb2
  go_wp2_with fail
  refine (HN.out w2 HB2.out).mono ?_
  rintro e w3 ⟨rfl, hb3⟩
  go_wp2
  go_ret
  exact ⟨rfl, HB2.out.trans (hb3.mono HB2.out.size)⟩
set_option maxRecDepth 100000 in
set_option maxHeartbeats 2000000 in
theorem prove_bad (w : World) (v : Value) (q c : Int) (X : Array Value) (hc : c ≠ 0) (RD : Tel 12 #[v, .int .i64 q] w c) : Calls Tryz.prog 5 #[v, .int .i64 q, .agg X] w fun e w' => e = .returned (.tuple #[.agg pf0.toArray, .int .i64 c]) ∧ Below w.heap.size w w' := by
  have hc1 : (c != 0) = true := by simpa using hc
  have hbx : Below w.heap.size w (w.alloc (.cells X 23)) := (Below.refl _ w).alloc (Nat.le_refl _) _
  have hb0 := hbx.trans (((Below.refl _ (w.alloc (.cells X 23))).alloc (Nat.le_refl _) (.cells pf0.toArray 28)).mono hbx.size)
  have hr0 := hnew (w.alloc (.cells X 23)) (.cells pf0.toArray 28)
  rw [show (w.alloc (.cells X 23)).heap.size = w.heap.size + 1 by simp] at hr0
  have HR := hid (RD _ hb0)
  have HB0 := hid hb0
  have BR := hid built_pf0
  have hN := hid (show (Tryz.prog.info? 28).map (·.size) = some pf0.toArray.size by rw [Tryz.sizePf, List.size_toArray, pf0_len])
  have hO := hid (all_oneCell_toArray pf0_one)
  have AL := hid allocPf
  generalize pf0.toArray = C at *
  have HR0 := hid hr0
  clear RD hc hb0 hr0 hbx
  go_enter Tryz.func5, Tryz.ntmps5
  go_wp2_with (first | refine wpList_allocAny AL.out rfl rfl ?_)
  refine HR.out.mono ?_
  rintro e w2 ⟨rfl, hb2⟩
  have r2 := (hb2.block _ (hlt HR0.out)).trans HR0.out
  have hb3 := HB0.out.trans (hb2.mono HB0.out.size)
  have hb4 := below_setRow hb3 (show w.heap.size ≤ w.heap.size + 1 by omega) C
  have r4 : (w2.setRow (w.heap.size + 1) C).heap[w.heap.size + 1]? = _ := setRow_heap w2 _ _ _ _ _ r2
  clear hb2 HR0 HB0 HR hb3
  go_wp2_with (first
    | refine wpList_built (by rfl) 28 _ rfl _ rfl _ BR.out ?_
    | refine wpList_store_row (by rfl) 28 (.tmp 6) (.tmp 16) (by rfl) (w.heap.size + 1) C (by rfl) (by rfl) 28 C (by exact r2) hN.out rfl hO.out ?_)
  exact bodyPost_ret (v := .tuple #[.agg C, .int .i64 c]) (results_c2 Tryz.results5 _ _ (w.heap.size + 1) 28 _ _ _ rfl r4 Tryz.underlying28 rfl hN.out) rfl ⟨rfl, hb4⟩
set_option maxRecDepth 100000 in
set_option maxHeartbeats 2000000 in
theorem form_none (w : World) (v : Value) : Calls Tryz.prog 73 #[.int .i64 3, v] w fun e w' => e = .returned .nilIface ∧ w = w' := by
  go_enter Tryz.func73, Tryz.ntmps73
  go_wp2
  go_ret
  exact ⟨rfl, rfl⟩
set_option maxRecDepth 100000 in
set_option maxHeartbeats 2000000 in
theorem decode_bad (w : World) (v : Value) : Calls Tryz.prog 50 #[.int .i64 3, v] w fun e w' => e = .returned (.tuple #[.agg nd0.toArray, .int .i64 90]) ∧ Below w.heap.size w w' := by
  have hb0 : Below w.heap.size w (w.alloc (.cells nd0.toArray 47)) := (Below.refl _ w).alloc (Nat.le_refl _) _
  have r2 := hnew w (.cells nd0.toArray 47)
  have BR := hid built_nd0
  have hN := hid (show (Tryz.prog.info? 47).map (·.size) = some nd0.toArray.size by rw [Tryz.sizeNd, List.size_toArray, nd0_len])
  have hO := hid (all_oneCell_toArray nd0_one)
  have AL := hid allocNd
  generalize nd0.toArray = C at *
  have hb4 := below_setRow hb0 (Nat.le_refl _) C
  have r4 : ((w.alloc (.cells C 47)).setRow w.heap.size C).heap[w.heap.size]? = _ := setRow_heap _ _ _ _ _ _ r2
  go_enter Tryz.func50, Tryz.ntmps50
  go_wp2_with (first | refine wpList_allocAny AL.out rfl rfl ?_)
  refine (form_none _ v).mono ?_
  rintro e w2 ⟨rfl, hw⟩
  obtain rfl := hw
  go_wp2_with (first
    | refine wpList_built (by rfl) 47 _ rfl _ rfl _ BR.out ?_
    | refine wpList_store_row (by rfl) 47 (.tmp 4) (.tmp 17) (by rfl) w.heap.size C (by rfl) (by rfl) 47 C (by exact r2) hN.out rfl hO.out ?_)
  exact bodyPost_ret (v := .tuple #[.agg C, .int .i64 90]) (results_c2 Tryz.results50 _ _ w.heap.size 47 _ _ _ rfl r4 Tryz.underlying47 rfl hN.out) rfl ⟨rfl, hb4⟩
end Go.Proofs.YtpjfpepjledlmaaGreatDoor
