import Derived.Test.YtbcadiecpcngdaaNf9
namespace Go.Proofs.Ytbcadiecpcngdaa
set_option linter.unusedVariables false
set_option linter.unusedSimpArgs false
open Go.RowKit
attribute [local go_sem ↓] Go.wp_at_zero Go.wp_at_succ

/-! Blocks that a call has made. -/
def BK (w0 w : World) (L : List (Nat × List Value × Nat)) : Prop := Below w0.heap.size w0 w ∧ ∀ x, x ∈ L → w.heap[x.1]? = some (.cells x.2.1.toArray x.2.2 (0, 0))
theorem BK.nil (w : World) : BK w w [] := ⟨Below.refl _ _, fun x h => by cases h⟩
theorem BK.row {w0 w : World} {L : List (Nat × List Value × Nat)} (h : BK w0 w L) {b t : Nat} {zs : List Value} (hm : (b, zs, t) ∈ L) : w.heap[b]? = some (.cells zs.toArray t (0, 0)) := h.2 _ hm
theorem BK.lt {w0 w : World} {L : List (Nat × List Value × Nat)} (h : BK w0 w L) {b t : Nat} {zs : List Value} (hm : (b, zs, t) ∈ L) : b < w.heap.size := hlt (h.row hm)
theorem BK.call {w0 w w' : World} {L : List (Nat × List Value × Nat)} (h : BK w0 w L) (hb : Below w.heap.size w w') : BK w0 w' L :=
  ⟨h.1.trans (hb.mono h.1.size), fun x hx => hbel hb (h.2 x hx) (hlt (h.2 x hx))⟩
theorem BK.alloc {w0 w : World} {L : List (Nat × List Value × Nat)} (h : BK w0 w L) (zs : List Value) (t : Nat) : BK w0 (w.alloc (.cells zs.toArray t)) ((w.heap.size, zs, t) :: L) := by
  refine ⟨h.1.alloc h.1.size _, fun x hx => ?_⟩
  rcases List.mem_cons.1 hx with rfl | hx
  · exact hnew w _
  · exact hold (h.2 x hx)
theorem BK.other {w0 w : World} {L : List (Nat × List Value × Nat)} (h : BK w0 w L) (o : Obj) : BK w0 (w.alloc o) L := ⟨h.1.alloc h.1.size _, fun x hx => hold (h.2 x hx)⟩
theorem BK.drew {w0 w : World} {L : List (Nat × List Value × Nat)} (h : BK w0 w L) : BK w0 w.drew L := ⟨h.1.drew, h.2⟩
theorem BK.set {w0 w : World} {L : List (Nat × List Value × Nat)} {b t : Nat} {zs : List Value} (h : BK w0 w ((b, zs, t) :: L)) (hb : w0.heap.size ≤ b) (hL : ∀ x, x ∈ L → x.1 ≠ b) (ys : List Value) : BK w0 (w.setRow b ys.toArray) ((b, ys, t) :: L) := by
  refine ⟨below_setRow h.1 hb _, fun x hx => ?_⟩
  rcases List.mem_cons.1 hx with rfl | hx
  · exact setRow_heap _ _ _ _ _ _ (h.2 _ (.head _))
  · exact (setRow_other _ _ _ _ (hL x hx)).trans (h.2 x (.tail _ hx))
theorem BK.cell {w0 w : World} {L : List (Nat × List Value × Nat)} (h : BK w0 w L) {b t : Nat} {zs : List Value} (hm : (b, zs, t) ∈ L) {j : Nat} {v : Value} (hv : zs[j]? = some v) : w.cell? ⟨b, j, none⟩ = some v := by
  rw [cell_of_row _ _ _ _ _ _ (h.row hm)]; simpa using hv
theorem BK.rng {w0 w : World} {L : List (Nat × List Value × Nat)} (h : BK w0 w L) {b t o : Nat} {zs ps : List Value} (hm : (b, zs, t) ∈ L) (hp : ∀ j v, ps[j]? = some v → zs[o + j]? = some v) : w.rangeAt b o ps := fun j v hv => h.cell hm (hp j v hv)
theorem mid_at (A B C : List Value) (m j : Nat) (hm : A.length = m) (v : Value) (hv : B[j]? = some v) : (A ++ (B ++ C))[m + j]? = some v := by
  have hj := (List.getElem?_eq_some_iff.1 hv).1
  rw [List.getElem?_append_right (by omega), show m + j - A.length = j by omega, List.getElem?_append_left hj]; exact hv
theorem ndC_ls {n : Nd} (h : NdOk n) (v : Value) (j : Nat) (x : Value) (hx : (ints .u8 n.ls)[j]? = some x) : (ndC n v)[5 + j]? = some x := mid_at _ _ _ 5 j rfl x hx
theorem ndC_rs {n : Nd} (h : NdOk n) (v : Value) (j : Nat) (x : Value) (hx : (ints .u8 n.rs)[j]? = some x) : (ndC n v)[37 + j]? = some x := by
  have := mid_at ([.int .i64 n.kd, .int .i64 n.l, .int .i64 n.r, .int .i64 n.lc, .int .i64 n.rc] ++ ints .u8 n.ls) (ints .u8 n.rs) (ints .u8 n.k ++ [v]) 37 j (by simp [ints_len, h.ls]) x hx
  rwa [List.append_assoc] at this
theorem ndC_k {n : Nd} (h : NdOk n) (v : Value) (j : Nat) (x : Value) (hx : (ints .u8 n.k)[j]? = some x) : (ndC n v)[69 + j]? = some x := by
  have := mid_at ([.int .i64 n.kd, .int .i64 n.l, .int .i64 n.r, .int .i64 n.lc, .int .i64 n.rc] ++ (ints .u8 n.ls ++ ints .u8 n.rs)) (ints .u8 n.k) [v] 69 j (by simp [ints_len, h.ls, h.rs]) x hx
  rwa [List.append_assoc, List.append_assoc] at this
theorem ndC_v {n : Nd} (h : NdOk n) (v : Value) : (ndC n v)[101]? = some v := by
  have := mid_at ([.int .i64 n.kd, .int .i64 n.l, .int .i64 n.r, .int .i64 n.lc, .int .i64 n.rc] ++ (ints .u8 n.ls ++ (ints .u8 n.rs ++ ints .u8 n.k))) [v] [] 101 0 (by simp [ints_len, h.ls, h.rs, h.k]) v rfl
  rw [List.append_nil, List.append_assoc, List.append_assoc, List.append_assoc] at this; exact this
/-- A block made and filled at once. -/
theorem wpList_new {P : Program} {t : TypeId} {Z : List Value} {m : Nat} (hz : ∀ (a : Act) (o : Oper) (w : World), o.op = .alloc t → (execOp a.eval o).run P w = .ok (.value (.pointer (some ⟨w.heap.size, 0, none⟩))) (w.alloc (.cells Z.toArray t))) (hZ : Z.length = m) (hi : (P.info? t).map (·.size) = some m)
    {ops : Array Oper} {rest : List Oper} {o1 o2 : Oper} {a : Act} {w : World} {Q : Exit → Act → World → Prop} (hg1 : o1.guard = none) (ho1 : o1.op = .alloc t) (hg2 : o2.guard = none) (x y : Operand) (ho2 : o2.op = .store t x y) (hd : o2.dst = none)
    (C : List Value) (hx : (a.put o1.dst (.pointer (some ⟨w.heap.size, 0, none⟩))).eval x = .pointer (some ⟨w.heap.size, 0, none⟩)) (hy : (a.put o1.dst (.pointer (some ⟨w.heap.size, 0, none⟩))).eval y = .agg C.toArray) (hC : C.length = m) (h1 : ∀ v ∈ C, v.oneCell' = true)
    (h : wpList P ops Q rest (a.put o1.dst (.pointer (some ⟨w.heap.size, 0, none⟩))) (w.alloc (.cells C.toArray t))) : wpList P ops Q (o1 :: o2 :: rest) a w := by
  refine wpList_plain hg1 fun K hK => ?_
  unfold Oper.wp
  rw [hz a o1 w ho1]
  refine hK _ _ ?_
  refine wpList_store_row hg2 t x y ho2 w.heap.size C.toArray hx hy t Z.toArray (hnew w _) (by rw [hi, List.size_toArray, hC]) (by rw [List.size_toArray, List.size_toArray, hZ, hC]) (all_oneCell_toArray h1) ?_
  rw [hd, setRow_alloc]
  exact h
theorem stopHere {p : Prop} (h : p) : True ∧ p := ⟨trivial, h⟩
theorem allocCh (a : Act) (o : Oper) (w : World) (ho : o.op = .alloc 94) : (execOp a.eval o).run Try.prog w = .ok (.value (.pointer (some ⟨w.heap.size, 0, none⟩))) (w.alloc (.cells (chC 0 0 zD).toArray 94)) := by
  unfold execOp
  rw [ho]
  kernel_rfl
theorem allocLf (a : Act) (o : Oper) (w : World) (ho : o.op = .alloc 96) : (execOp a.eval o).run Try.prog w = .ok (.value (.pointer (some ⟨w.heap.size, 0, none⟩))) (w.alloc (.cells (leafC zD (.slice none 0 0)).toArray 96)) := by
  unfold execOp
  rw [ho]
  kernel_rfl
theorem allocBr (a : Act) (o : Oper) (w : World) (ho : o.op = .alloc 98) : (execOp a.eval o).run Try.prog w = .ok (.value (.pointer (some ⟨w.heap.size, 0, none⟩))) (w.alloc (.cells (brC nd0).toArray 98)) := by
  unfold execOp
  rw [ho]
  kernel_rfl
theorem allocNd (a : Act) (o : Oper) (w : World) (ho : o.op = .alloc 39) : (execOp a.eval o).run Try.prog w = .ok (.value (.pointer (some ⟨w.heap.size, 0, none⟩))) (w.alloc (.cells (ndC nd0 (.slice none 0 0)).toArray 39)) := by
  unfold execOp
  rw [ho]
  kernel_rfl
theorem Try.guardK : Try.prog.eqGuardType Try.prog.depth 37 = false := by kernel_rfl
theorem eqKy (xs ys : List Int) (ha : xs.length = 32) (hb : ys.length = 32) (w : World) :
    (Op.equalIn 10000 37 (.agg (ints .u8 xs).toArray) (.agg (ints .u8 ys).toArray)).run Try.prog w = .ok (decide (xs = ys)) w :=
  equalIn_ints Try.underlying37 Try.underlying5 Try.size5 .u8 xs ys ha hb w
theorem Try.sizeKy : (Try.prog.info? 37).map (·.size) = some 32 := by kernel_rfl
set_option maxRecDepth 100000 in
set_option maxHeartbeats 2000000 in
theorem formOf_leaf (w : World) (n : Nd) (ok : NdOk n) (sp : Option Addr) (cap : Nat) (hn : n.vs.length ≤ 9223372036854775807) (h1 : n.kd = 1) (h2 : n.l = 0 ∧ n.lc = 0 ∧ n.ls = zD) (h3 : n.r = 0 ∧ n.rc = 0 ∧ n.rs = zD) :
    Calls Try.prog 24 #[.agg (ndC n (.slice sp n.vs.length cap)).toArray] w fun e w' => e = .returned (.iface 96 (.agg (leafC n.k (.slice sp n.vs.length cap)).toArray)) ∧ Below w.heap.size w w' := by
  have d0 := (BK.nil w).alloc (ndC n (.slice sp n.vs.length cap)) 39
  have SL := hid (show (Try.prog.info? 36).map (·.size) = some (ints .u8 n.ls).length by rw [Try.sizeD, ints_len, ok.ls])
  have SR := hid (show (Try.prog.info? 36).map (·.size) = some (ints .u8 n.rs).length by rw [Try.sizeD, ints_len, ok.rs])
  have SK := hid (show (Try.prog.info? 37).map (·.size) = some (ints .u8 n.k).length by rw [Try.sizeKy, ints_len, ok.k])
  have BL := hid (built_child n.l n.lc n.ls ok.ls)
  have BR := hid (built_child n.r n.rc n.rs ok.rs)
  have BZ := hid built_ch0
  have BKz := hid built_K0
  have BLf := hid (fun s m c => built_leaf n.k ok.k s m c)
  have BBr := hid (built_branch ok)
  have qL := eqC n.l n.lc 0 0 n.ls zD ok.ls rfl
  have qR := eqC n.r n.rc 0 0 n.rs zD ok.rs rfl
  have qK := eqKy n.k zD ok.k rfl
  have gC := Try.guardC
  have gK := Try.guardK
  have i0 : (n.vs.length : Int) ≤ 9223372036854775807 := by omega
  have c0 := d0.cell (.head _) (v := .int .i64 n.kd) (j := 0) rfl
  have c1 := d0.cell (.head _) (v := .int .i64 n.l) (j := 1) rfl
  have c2 := d0.cell (.head _) (v := .int .i64 n.r) (j := 2) rfl
  have c3 := d0.cell (.head _) (v := .int .i64 n.lc) (j := 3) rfl
  have c4 := d0.cell (.head _) (v := .int .i64 n.rc) (j := 4) rfl
  have c101 := d0.cell (.head _) (ndC_v ok (.slice sp n.vs.length cap))
  have rls := d0.rng (.head _) (ndC_ls ok (.slice sp n.vs.length cap))
  have rrs := d0.rng (.head _) (ndC_rs ok (.slice sp n.vs.length cap))
  have rk := d0.rng (.head _) (ndC_k ok (.slice sp n.vs.length cap))
  rw [decide_eq_true h2] at qL
  rw [decide_eq_true h3] at qR
  rw [h1] at c0
  clear h1 h2 h3
  have LL := hid (chC_len n.l n.lc n.ls ok.ls)
  have LR := hid (chC_len n.r n.rc n.rs ok.rs)
  have LZ := hid (show (chC 0 0 zD).length = 34 from rfl)
  have OL := hid (chC_one n.l n.lc n.ls)
  have OR := hid (chC_one n.r n.rc n.rs)
  have OZ := hid (chC_one 0 0 zD)
  have AC := hid allocCh
  generalize chC n.l n.lc n.ls = CL at *
  generalize chC n.r n.rc n.rs = CR at *
  generalize chC 0 0 zD = CZ at *
  generalize ints .u8 zD = KZ at *
  generalize ndC n (.slice sp n.vs.length cap) = NC at *
  generalize n.vs.length = m at *
  generalize n.l = vl at *
  generalize n.r = vr at *
  generalize n.lc = vlc at *
  generalize n.rc = vrc at *
  have hs0 : (w.alloc (.cells NC.toArray 39)).heap.size = w.heap.size + 1 := by simp
  have ZL := hid (show (Try.prog.info? 94).map (·.size) = some CL.toArray.size by rw [Try.sizeCh, List.size_toArray, LL.out])
  have ZR := hid (show (Try.prog.info? 94).map (·.size) = some CR.toArray.size by rw [Try.sizeCh, List.size_toArray, LR.out])
  have ZZ := hid (show (Try.prog.info? 94).map (·.size) = some CZ.toArray.size by rw [Try.sizeCh, List.size_toArray, LZ.out])
  go_enter Try.func24, Try.ntmps24
  go_wp2_with (first
    | refine wpList_load_mid_w (by rfl) 36 _ (by rfl) w.heap.size 5 (by rfl) _ _ rls Try.underlying36 rfl SL.out ?_
    | refine wpList_built (by rfl) 94 _ rfl _ rfl _ BL.out ?_
    | (refine wpList_new AC.out LZ.out Try.sizeCh rfl rfl rfl _ _ rfl rfl CL rfl rfl LL.out OL.out ?_; refine Hid.out ?_))
  refine hid ?_
  have d1 := d0.alloc CL 94
  rw [hs0] at d1
  have hs1 : ((w.alloc (.cells NC.toArray 39)).alloc (.cells CL.toArray 94)).heap.size = w.heap.size + 2 := (by rw [World.size_alloc, hs0])
  have bl1 : Below (w.alloc (.cells NC.toArray 39)).heap.size (w.alloc (.cells NC.toArray 39)) ((w.alloc (.cells NC.toArray 39)).alloc (.cells CL.toArray 94)) := (Below.refl _ _).alloc (Nat.le_refl _) _
  replace c0 := (bl1.cell (p := ⟨w.heap.size, 0, none⟩) (show w.heap.size < _ by omega)).trans c0
  replace c1 := (bl1.cell (p := ⟨w.heap.size, 1, none⟩) (show w.heap.size < _ by omega)).trans c1
  replace c2 := (bl1.cell (p := ⟨w.heap.size, 2, none⟩) (show w.heap.size < _ by omega)).trans c2
  replace c3 := (bl1.cell (p := ⟨w.heap.size, 3, none⟩) (show w.heap.size < _ by omega)).trans c3
  replace c4 := (bl1.cell (p := ⟨w.heap.size, 4, none⟩) (show w.heap.size < _ by omega)).trans c4
  replace c101 := (bl1.cell (p := ⟨w.heap.size, 101, none⟩) (show w.heap.size < _ by omega)).trans c101
  replace rls := rng_below rls bl1 (by omega)
  replace rrs := rng_below rrs bl1 (by omega)
  replace rk := rng_below rk bl1 (by omega)
  generalize (w.alloc (.cells NC.toArray 39)).alloc (.cells CL.toArray 94) = W1 at *
  clear bl1 d0
  try simp only [hs0]
  go_wp2_with (first
    | refine wpList_load_mid_w (by rfl) 36 _ (by rfl) w.heap.size 37 (by rfl) _ _ rrs Try.underlying36 rfl SR.out ?_
    | refine wpList_built (by rfl) 94 _ rfl _ rfl _ BR.out ?_
    | (refine wpList_new AC.out LZ.out Try.sizeCh rfl rfl rfl _ _ rfl rfl CR rfl rfl LR.out OR.out ?_; refine Hid.out ?_))
  refine hid ?_
  have d2 := d1.alloc CR 94
  rw [hs1] at d2
  have hs2 : (W1.alloc (.cells CR.toArray 94)).heap.size = w.heap.size + 3 := (by rw [World.size_alloc, hs1])
  have bl2 : Below W1.heap.size W1 (W1.alloc (.cells CR.toArray 94)) := (Below.refl _ _).alloc (Nat.le_refl _) _
  replace c0 := (bl2.cell (p := ⟨w.heap.size, 0, none⟩) (show w.heap.size < _ by omega)).trans c0
  replace c1 := (bl2.cell (p := ⟨w.heap.size, 1, none⟩) (show w.heap.size < _ by omega)).trans c1
  replace c2 := (bl2.cell (p := ⟨w.heap.size, 2, none⟩) (show w.heap.size < _ by omega)).trans c2
  replace c3 := (bl2.cell (p := ⟨w.heap.size, 3, none⟩) (show w.heap.size < _ by omega)).trans c3
  replace c4 := (bl2.cell (p := ⟨w.heap.size, 4, none⟩) (show w.heap.size < _ by omega)).trans c4
  replace c101 := (bl2.cell (p := ⟨w.heap.size, 101, none⟩) (show w.heap.size < _ by omega)).trans c101
  replace rls := rng_below rls bl2 (by omega)
  replace rrs := rng_below rrs bl2 (by omega)
  replace rk := rng_below rk bl2 (by omega)
  generalize W1.alloc (.cells CR.toArray 94) = W2 at *
  clear bl2 d1
  try simp only [hs1]
  go_wp2_with (first
    | refine wpList_built (by rfl) 94 _ rfl _ rfl _ BZ.out ?_
    | (refine wpList_new AC.out LZ.out Try.sizeCh rfl rfl rfl _ _ rfl rfl CZ rfl rfl LZ.out OZ.out ?_; refine Hid.out ?_))
  refine hid ?_
  have d3 := d2.alloc CZ 94
  rw [hs2] at d3
  have hs3 : (W2.alloc (.cells CZ.toArray 94)).heap.size = w.heap.size + 4 := (by rw [World.size_alloc, hs2])
  have bl3 : Below W2.heap.size W2 (W2.alloc (.cells CZ.toArray 94)) := (Below.refl _ _).alloc (Nat.le_refl _) _
  replace c0 := (bl3.cell (p := ⟨w.heap.size, 0, none⟩) (show w.heap.size < _ by omega)).trans c0
  replace c1 := (bl3.cell (p := ⟨w.heap.size, 1, none⟩) (show w.heap.size < _ by omega)).trans c1
  replace c2 := (bl3.cell (p := ⟨w.heap.size, 2, none⟩) (show w.heap.size < _ by omega)).trans c2
  replace c3 := (bl3.cell (p := ⟨w.heap.size, 3, none⟩) (show w.heap.size < _ by omega)).trans c3
  replace c4 := (bl3.cell (p := ⟨w.heap.size, 4, none⟩) (show w.heap.size < _ by omega)).trans c4
  replace c101 := (bl3.cell (p := ⟨w.heap.size, 101, none⟩) (show w.heap.size < _ by omega)).trans c101
  replace rls := rng_below rls bl3 (by omega)
  replace rrs := rng_below rrs bl3 (by omega)
  replace rk := rng_below rk bl3 (by omega)
  generalize W2.alloc (.cells CZ.toArray 94) = W3 at *
  clear bl3 d2
  try simp only [hs2]
  have rz := d3.row (.head _)
  have rr := d3.row (.tail _ (.head _))
  have rl := d3.row (.tail _ (.tail _ (.head _)))
  go_wp2_with (first
    | refine wpList_load_row_w (by rfl) 94 _ (by rfl) _ (by rfl) 94 _ _ _ rl Try.underlying94 rfl ZL.out ?_
    | refine wpList_load_row_w (by rfl) 94 _ (by rfl) _ (by rfl) 94 _ _ _ rr Try.underlying94 rfl ZR.out ?_
    | refine wpList_load_row_w (by rfl) 94 _ (by rfl) _ (by rfl) 94 _ _ _ rz Try.underlying94 rfl ZZ.out ?_
    | refine wpList_load_mid_w (by rfl) 37 _ (by rfl) w.heap.size 69 (by rfl) _ _ rk Try.underlying37 rfl SK.out ?_
    | refine wpList_built (by rfl) 96 _ rfl _ rfl _ (BLf.out _ _ _) ?_)
  go_ret
  exact ⟨rfl, d3.1⟩
set_option maxRecDepth 100000 in
set_option maxHeartbeats 2000000 in
theorem formOf_nilL (w : World) (n : Nd) (ok : NdOk n) (sp : Option Addr) (cap : Nat) (hn : n.vs.length ≤ 9223372036854775807) (h1 : n.kd = 1) (h2 : ¬ (n.l = 0 ∧ n.lc = 0 ∧ n.ls = zD)) :
    Calls Try.prog 24 #[.agg (ndC n (.slice sp n.vs.length cap)).toArray] w fun e w' => e = .returned (.nilIface) ∧ Below w.heap.size w w' := by
  have d0 := (BK.nil w).alloc (ndC n (.slice sp n.vs.length cap)) 39
  have SL := hid (show (Try.prog.info? 36).map (·.size) = some (ints .u8 n.ls).length by rw [Try.sizeD, ints_len, ok.ls])
  have SR := hid (show (Try.prog.info? 36).map (·.size) = some (ints .u8 n.rs).length by rw [Try.sizeD, ints_len, ok.rs])
  have SK := hid (show (Try.prog.info? 37).map (·.size) = some (ints .u8 n.k).length by rw [Try.sizeKy, ints_len, ok.k])
  have BL := hid (built_child n.l n.lc n.ls ok.ls)
  have BR := hid (built_child n.r n.rc n.rs ok.rs)
  have BZ := hid built_ch0
  have BKz := hid built_K0
  have BLf := hid (fun s m c => built_leaf n.k ok.k s m c)
  have BBr := hid (built_branch ok)
  have qL := eqC n.l n.lc 0 0 n.ls zD ok.ls rfl
  have qR := eqC n.r n.rc 0 0 n.rs zD ok.rs rfl
  have qK := eqKy n.k zD ok.k rfl
  have gC := Try.guardC
  have gK := Try.guardK
  have i0 : (n.vs.length : Int) ≤ 9223372036854775807 := by omega
  have c0 := d0.cell (.head _) (v := .int .i64 n.kd) (j := 0) rfl
  have c1 := d0.cell (.head _) (v := .int .i64 n.l) (j := 1) rfl
  have c2 := d0.cell (.head _) (v := .int .i64 n.r) (j := 2) rfl
  have c3 := d0.cell (.head _) (v := .int .i64 n.lc) (j := 3) rfl
  have c4 := d0.cell (.head _) (v := .int .i64 n.rc) (j := 4) rfl
  have c101 := d0.cell (.head _) (ndC_v ok (.slice sp n.vs.length cap))
  have rls := d0.rng (.head _) (ndC_ls ok (.slice sp n.vs.length cap))
  have rrs := d0.rng (.head _) (ndC_rs ok (.slice sp n.vs.length cap))
  have rk := d0.rng (.head _) (ndC_k ok (.slice sp n.vs.length cap))
  rw [decide_eq_false h2] at qL
  rw [h1] at c0
  clear h1 h2
  have LL := hid (chC_len n.l n.lc n.ls ok.ls)
  have LR := hid (chC_len n.r n.rc n.rs ok.rs)
  have LZ := hid (show (chC 0 0 zD).length = 34 from rfl)
  have OL := hid (chC_one n.l n.lc n.ls)
  have OR := hid (chC_one n.r n.rc n.rs)
  have OZ := hid (chC_one 0 0 zD)
  have AC := hid allocCh
  generalize chC n.l n.lc n.ls = CL at *
  generalize chC n.r n.rc n.rs = CR at *
  generalize chC 0 0 zD = CZ at *
  generalize ints .u8 zD = KZ at *
  generalize ndC n (.slice sp n.vs.length cap) = NC at *
  generalize n.vs.length = m at *
  generalize n.l = vl at *
  generalize n.r = vr at *
  generalize n.lc = vlc at *
  generalize n.rc = vrc at *
  have hs0 : (w.alloc (.cells NC.toArray 39)).heap.size = w.heap.size + 1 := by simp
  have ZL := hid (show (Try.prog.info? 94).map (·.size) = some CL.toArray.size by rw [Try.sizeCh, List.size_toArray, LL.out])
  have ZR := hid (show (Try.prog.info? 94).map (·.size) = some CR.toArray.size by rw [Try.sizeCh, List.size_toArray, LR.out])
  have ZZ := hid (show (Try.prog.info? 94).map (·.size) = some CZ.toArray.size by rw [Try.sizeCh, List.size_toArray, LZ.out])
  go_enter Try.func24, Try.ntmps24
  go_wp2_with (first
    | refine wpList_load_mid_w (by rfl) 36 _ (by rfl) w.heap.size 5 (by rfl) _ _ rls Try.underlying36 rfl SL.out ?_
    | refine wpList_built (by rfl) 94 _ rfl _ rfl _ BL.out ?_
    | (refine wpList_new AC.out LZ.out Try.sizeCh rfl rfl rfl _ _ rfl rfl CL rfl rfl LL.out OL.out ?_; refine Hid.out ?_))
  refine hid ?_
  have d1 := d0.alloc CL 94
  rw [hs0] at d1
  have hs1 : ((w.alloc (.cells NC.toArray 39)).alloc (.cells CL.toArray 94)).heap.size = w.heap.size + 2 := (by rw [World.size_alloc, hs0])
  have bl1 : Below (w.alloc (.cells NC.toArray 39)).heap.size (w.alloc (.cells NC.toArray 39)) ((w.alloc (.cells NC.toArray 39)).alloc (.cells CL.toArray 94)) := (Below.refl _ _).alloc (Nat.le_refl _) _
  replace c0 := (bl1.cell (p := ⟨w.heap.size, 0, none⟩) (show w.heap.size < _ by omega)).trans c0
  replace c1 := (bl1.cell (p := ⟨w.heap.size, 1, none⟩) (show w.heap.size < _ by omega)).trans c1
  replace c2 := (bl1.cell (p := ⟨w.heap.size, 2, none⟩) (show w.heap.size < _ by omega)).trans c2
  replace c3 := (bl1.cell (p := ⟨w.heap.size, 3, none⟩) (show w.heap.size < _ by omega)).trans c3
  replace c4 := (bl1.cell (p := ⟨w.heap.size, 4, none⟩) (show w.heap.size < _ by omega)).trans c4
  replace c101 := (bl1.cell (p := ⟨w.heap.size, 101, none⟩) (show w.heap.size < _ by omega)).trans c101
  replace rls := rng_below rls bl1 (by omega)
  replace rrs := rng_below rrs bl1 (by omega)
  replace rk := rng_below rk bl1 (by omega)
  generalize (w.alloc (.cells NC.toArray 39)).alloc (.cells CL.toArray 94) = W1 at *
  clear bl1 d0
  try simp only [hs0]
  go_wp2_with (first
    | refine wpList_load_mid_w (by rfl) 36 _ (by rfl) w.heap.size 37 (by rfl) _ _ rrs Try.underlying36 rfl SR.out ?_
    | refine wpList_built (by rfl) 94 _ rfl _ rfl _ BR.out ?_
    | (refine wpList_new AC.out LZ.out Try.sizeCh rfl rfl rfl _ _ rfl rfl CR rfl rfl LR.out OR.out ?_; refine Hid.out ?_))
  refine hid ?_
  have d2 := d1.alloc CR 94
  rw [hs1] at d2
  have hs2 : (W1.alloc (.cells CR.toArray 94)).heap.size = w.heap.size + 3 := (by rw [World.size_alloc, hs1])
  have bl2 : Below W1.heap.size W1 (W1.alloc (.cells CR.toArray 94)) := (Below.refl _ _).alloc (Nat.le_refl _) _
  replace c0 := (bl2.cell (p := ⟨w.heap.size, 0, none⟩) (show w.heap.size < _ by omega)).trans c0
  replace c1 := (bl2.cell (p := ⟨w.heap.size, 1, none⟩) (show w.heap.size < _ by omega)).trans c1
  replace c2 := (bl2.cell (p := ⟨w.heap.size, 2, none⟩) (show w.heap.size < _ by omega)).trans c2
  replace c3 := (bl2.cell (p := ⟨w.heap.size, 3, none⟩) (show w.heap.size < _ by omega)).trans c3
  replace c4 := (bl2.cell (p := ⟨w.heap.size, 4, none⟩) (show w.heap.size < _ by omega)).trans c4
  replace c101 := (bl2.cell (p := ⟨w.heap.size, 101, none⟩) (show w.heap.size < _ by omega)).trans c101
  replace rls := rng_below rls bl2 (by omega)
  replace rrs := rng_below rrs bl2 (by omega)
  replace rk := rng_below rk bl2 (by omega)
  generalize W1.alloc (.cells CR.toArray 94) = W2 at *
  clear bl2 d1
  try simp only [hs1]
  go_wp2_with (first
    | refine wpList_built (by rfl) 94 _ rfl _ rfl _ BZ.out ?_
    | (refine wpList_new AC.out LZ.out Try.sizeCh rfl rfl rfl _ _ rfl rfl CZ rfl rfl LZ.out OZ.out ?_; refine Hid.out ?_))
  refine hid ?_
  have d3 := d2.alloc CZ 94
  rw [hs2] at d3
  have hs3 : (W2.alloc (.cells CZ.toArray 94)).heap.size = w.heap.size + 4 := (by rw [World.size_alloc, hs2])
  have bl3 : Below W2.heap.size W2 (W2.alloc (.cells CZ.toArray 94)) := (Below.refl _ _).alloc (Nat.le_refl _) _
  replace c0 := (bl3.cell (p := ⟨w.heap.size, 0, none⟩) (show w.heap.size < _ by omega)).trans c0
  replace c1 := (bl3.cell (p := ⟨w.heap.size, 1, none⟩) (show w.heap.size < _ by omega)).trans c1
  replace c2 := (bl3.cell (p := ⟨w.heap.size, 2, none⟩) (show w.heap.size < _ by omega)).trans c2
  replace c3 := (bl3.cell (p := ⟨w.heap.size, 3, none⟩) (show w.heap.size < _ by omega)).trans c3
  replace c4 := (bl3.cell (p := ⟨w.heap.size, 4, none⟩) (show w.heap.size < _ by omega)).trans c4
  replace c101 := (bl3.cell (p := ⟨w.heap.size, 101, none⟩) (show w.heap.size < _ by omega)).trans c101
  replace rls := rng_below rls bl3 (by omega)
  replace rrs := rng_below rrs bl3 (by omega)
  replace rk := rng_below rk bl3 (by omega)
  generalize W2.alloc (.cells CZ.toArray 94) = W3 at *
  clear bl3 d2
  try simp only [hs2]
  have rz := d3.row (.head _)
  have rr := d3.row (.tail _ (.head _))
  have rl := d3.row (.tail _ (.tail _ (.head _)))
  go_wp2_with (first
    | refine wpList_load_row_w (by rfl) 94 _ (by rfl) _ (by rfl) 94 _ _ _ rl Try.underlying94 rfl ZL.out ?_
    | refine wpList_load_row_w (by rfl) 94 _ (by rfl) _ (by rfl) 94 _ _ _ rz Try.underlying94 rfl ZZ.out ?_)
  go_ret
  exact ⟨rfl, d3.1⟩
set_option maxRecDepth 100000 in
set_option maxHeartbeats 2000000 in
theorem formOf_nilR (w : World) (n : Nd) (ok : NdOk n) (sp : Option Addr) (cap : Nat) (hn : n.vs.length ≤ 9223372036854775807) (h1 : n.kd = 1) (h2 : n.l = 0 ∧ n.lc = 0 ∧ n.ls = zD) (h3 : ¬ (n.r = 0 ∧ n.rc = 0 ∧ n.rs = zD)) :
    Calls Try.prog 24 #[.agg (ndC n (.slice sp n.vs.length cap)).toArray] w fun e w' => e = .returned (.nilIface) ∧ Below w.heap.size w w' := by
  have d0 := (BK.nil w).alloc (ndC n (.slice sp n.vs.length cap)) 39
  have SL := hid (show (Try.prog.info? 36).map (·.size) = some (ints .u8 n.ls).length by rw [Try.sizeD, ints_len, ok.ls])
  have SR := hid (show (Try.prog.info? 36).map (·.size) = some (ints .u8 n.rs).length by rw [Try.sizeD, ints_len, ok.rs])
  have SK := hid (show (Try.prog.info? 37).map (·.size) = some (ints .u8 n.k).length by rw [Try.sizeKy, ints_len, ok.k])
  have BL := hid (built_child n.l n.lc n.ls ok.ls)
  have BR := hid (built_child n.r n.rc n.rs ok.rs)
  have BZ := hid built_ch0
  have BKz := hid built_K0
  have BLf := hid (fun s m c => built_leaf n.k ok.k s m c)
  have BBr := hid (built_branch ok)
  have qL := eqC n.l n.lc 0 0 n.ls zD ok.ls rfl
  have qR := eqC n.r n.rc 0 0 n.rs zD ok.rs rfl
  have qK := eqKy n.k zD ok.k rfl
  have gC := Try.guardC
  have gK := Try.guardK
  have i0 : (n.vs.length : Int) ≤ 9223372036854775807 := by omega
  have c0 := d0.cell (.head _) (v := .int .i64 n.kd) (j := 0) rfl
  have c1 := d0.cell (.head _) (v := .int .i64 n.l) (j := 1) rfl
  have c2 := d0.cell (.head _) (v := .int .i64 n.r) (j := 2) rfl
  have c3 := d0.cell (.head _) (v := .int .i64 n.lc) (j := 3) rfl
  have c4 := d0.cell (.head _) (v := .int .i64 n.rc) (j := 4) rfl
  have c101 := d0.cell (.head _) (ndC_v ok (.slice sp n.vs.length cap))
  have rls := d0.rng (.head _) (ndC_ls ok (.slice sp n.vs.length cap))
  have rrs := d0.rng (.head _) (ndC_rs ok (.slice sp n.vs.length cap))
  have rk := d0.rng (.head _) (ndC_k ok (.slice sp n.vs.length cap))
  rw [decide_eq_true h2] at qL
  rw [decide_eq_false h3] at qR
  rw [h1] at c0
  clear h1 h2 h3
  have LL := hid (chC_len n.l n.lc n.ls ok.ls)
  have LR := hid (chC_len n.r n.rc n.rs ok.rs)
  have LZ := hid (show (chC 0 0 zD).length = 34 from rfl)
  have OL := hid (chC_one n.l n.lc n.ls)
  have OR := hid (chC_one n.r n.rc n.rs)
  have OZ := hid (chC_one 0 0 zD)
  have AC := hid allocCh
  generalize chC n.l n.lc n.ls = CL at *
  generalize chC n.r n.rc n.rs = CR at *
  generalize chC 0 0 zD = CZ at *
  generalize ints .u8 zD = KZ at *
  generalize ndC n (.slice sp n.vs.length cap) = NC at *
  generalize n.vs.length = m at *
  generalize n.l = vl at *
  generalize n.r = vr at *
  generalize n.lc = vlc at *
  generalize n.rc = vrc at *
  have hs0 : (w.alloc (.cells NC.toArray 39)).heap.size = w.heap.size + 1 := by simp
  have ZL := hid (show (Try.prog.info? 94).map (·.size) = some CL.toArray.size by rw [Try.sizeCh, List.size_toArray, LL.out])
  have ZR := hid (show (Try.prog.info? 94).map (·.size) = some CR.toArray.size by rw [Try.sizeCh, List.size_toArray, LR.out])
  have ZZ := hid (show (Try.prog.info? 94).map (·.size) = some CZ.toArray.size by rw [Try.sizeCh, List.size_toArray, LZ.out])
  go_enter Try.func24, Try.ntmps24
  go_wp2_with (first
    | refine wpList_load_mid_w (by rfl) 36 _ (by rfl) w.heap.size 5 (by rfl) _ _ rls Try.underlying36 rfl SL.out ?_
    | refine wpList_built (by rfl) 94 _ rfl _ rfl _ BL.out ?_
    | (refine wpList_new AC.out LZ.out Try.sizeCh rfl rfl rfl _ _ rfl rfl CL rfl rfl LL.out OL.out ?_; refine Hid.out ?_))
  refine hid ?_
  have d1 := d0.alloc CL 94
  rw [hs0] at d1
  have hs1 : ((w.alloc (.cells NC.toArray 39)).alloc (.cells CL.toArray 94)).heap.size = w.heap.size + 2 := (by rw [World.size_alloc, hs0])
  have bl1 : Below (w.alloc (.cells NC.toArray 39)).heap.size (w.alloc (.cells NC.toArray 39)) ((w.alloc (.cells NC.toArray 39)).alloc (.cells CL.toArray 94)) := (Below.refl _ _).alloc (Nat.le_refl _) _
  replace c0 := (bl1.cell (p := ⟨w.heap.size, 0, none⟩) (show w.heap.size < _ by omega)).trans c0
  replace c1 := (bl1.cell (p := ⟨w.heap.size, 1, none⟩) (show w.heap.size < _ by omega)).trans c1
  replace c2 := (bl1.cell (p := ⟨w.heap.size, 2, none⟩) (show w.heap.size < _ by omega)).trans c2
  replace c3 := (bl1.cell (p := ⟨w.heap.size, 3, none⟩) (show w.heap.size < _ by omega)).trans c3
  replace c4 := (bl1.cell (p := ⟨w.heap.size, 4, none⟩) (show w.heap.size < _ by omega)).trans c4
  replace c101 := (bl1.cell (p := ⟨w.heap.size, 101, none⟩) (show w.heap.size < _ by omega)).trans c101
  replace rls := rng_below rls bl1 (by omega)
  replace rrs := rng_below rrs bl1 (by omega)
  replace rk := rng_below rk bl1 (by omega)
  generalize (w.alloc (.cells NC.toArray 39)).alloc (.cells CL.toArray 94) = W1 at *
  clear bl1 d0
  try simp only [hs0]
  go_wp2_with (first
    | refine wpList_load_mid_w (by rfl) 36 _ (by rfl) w.heap.size 37 (by rfl) _ _ rrs Try.underlying36 rfl SR.out ?_
    | refine wpList_built (by rfl) 94 _ rfl _ rfl _ BR.out ?_
    | (refine wpList_new AC.out LZ.out Try.sizeCh rfl rfl rfl _ _ rfl rfl CR rfl rfl LR.out OR.out ?_; refine Hid.out ?_))
  refine hid ?_
  have d2 := d1.alloc CR 94
  rw [hs1] at d2
  have hs2 : (W1.alloc (.cells CR.toArray 94)).heap.size = w.heap.size + 3 := (by rw [World.size_alloc, hs1])
  have bl2 : Below W1.heap.size W1 (W1.alloc (.cells CR.toArray 94)) := (Below.refl _ _).alloc (Nat.le_refl _) _
  replace c0 := (bl2.cell (p := ⟨w.heap.size, 0, none⟩) (show w.heap.size < _ by omega)).trans c0
  replace c1 := (bl2.cell (p := ⟨w.heap.size, 1, none⟩) (show w.heap.size < _ by omega)).trans c1
  replace c2 := (bl2.cell (p := ⟨w.heap.size, 2, none⟩) (show w.heap.size < _ by omega)).trans c2
  replace c3 := (bl2.cell (p := ⟨w.heap.size, 3, none⟩) (show w.heap.size < _ by omega)).trans c3
  replace c4 := (bl2.cell (p := ⟨w.heap.size, 4, none⟩) (show w.heap.size < _ by omega)).trans c4
  replace c101 := (bl2.cell (p := ⟨w.heap.size, 101, none⟩) (show w.heap.size < _ by omega)).trans c101
  replace rls := rng_below rls bl2 (by omega)
  replace rrs := rng_below rrs bl2 (by omega)
  replace rk := rng_below rk bl2 (by omega)
  generalize W1.alloc (.cells CR.toArray 94) = W2 at *
  clear bl2 d1
  try simp only [hs1]
  go_wp2_with (first
    | refine wpList_built (by rfl) 94 _ rfl _ rfl _ BZ.out ?_
    | (refine wpList_new AC.out LZ.out Try.sizeCh rfl rfl rfl _ _ rfl rfl CZ rfl rfl LZ.out OZ.out ?_; refine Hid.out ?_))
  refine hid ?_
  have d3 := d2.alloc CZ 94
  rw [hs2] at d3
  have hs3 : (W2.alloc (.cells CZ.toArray 94)).heap.size = w.heap.size + 4 := (by rw [World.size_alloc, hs2])
  have bl3 : Below W2.heap.size W2 (W2.alloc (.cells CZ.toArray 94)) := (Below.refl _ _).alloc (Nat.le_refl _) _
  replace c0 := (bl3.cell (p := ⟨w.heap.size, 0, none⟩) (show w.heap.size < _ by omega)).trans c0
  replace c1 := (bl3.cell (p := ⟨w.heap.size, 1, none⟩) (show w.heap.size < _ by omega)).trans c1
  replace c2 := (bl3.cell (p := ⟨w.heap.size, 2, none⟩) (show w.heap.size < _ by omega)).trans c2
  replace c3 := (bl3.cell (p := ⟨w.heap.size, 3, none⟩) (show w.heap.size < _ by omega)).trans c3
  replace c4 := (bl3.cell (p := ⟨w.heap.size, 4, none⟩) (show w.heap.size < _ by omega)).trans c4
  replace c101 := (bl3.cell (p := ⟨w.heap.size, 101, none⟩) (show w.heap.size < _ by omega)).trans c101
  replace rls := rng_below rls bl3 (by omega)
  replace rrs := rng_below rrs bl3 (by omega)
  replace rk := rng_below rk bl3 (by omega)
  generalize W2.alloc (.cells CZ.toArray 94) = W3 at *
  clear bl3 d2
  try simp only [hs2]
  have rz := d3.row (.head _)
  have rr := d3.row (.tail _ (.head _))
  have rl := d3.row (.tail _ (.tail _ (.head _)))
  go_wp2_with (first
    | refine wpList_load_row_w (by rfl) 94 _ (by rfl) _ (by rfl) 94 _ _ _ rl Try.underlying94 rfl ZL.out ?_
    | refine wpList_load_row_w (by rfl) 94 _ (by rfl) _ (by rfl) 94 _ _ _ rr Try.underlying94 rfl ZR.out ?_
    | refine wpList_load_row_w (by rfl) 94 _ (by rfl) _ (by rfl) 94 _ _ _ rz Try.underlying94 rfl ZZ.out ?_)
  go_ret
  exact ⟨rfl, d3.1⟩
set_option maxRecDepth 100000 in
set_option maxHeartbeats 2000000 in
theorem formOf_branch (w : World) (n : Nd) (ok : NdOk n) (sp : Option Addr) (cap : Nat) (hn : n.vs.length ≤ 9223372036854775807) (h1 : n.kd = 2) (h2 : n.k = zD) (h3 : n.vs.length = 0) :
    Calls Try.prog 24 #[.agg (ndC n (.slice sp n.vs.length cap)).toArray] w fun e w' => e = .returned (.iface 98 (.agg (brC n).toArray)) ∧ Below w.heap.size w w' := by
  have d0 := (BK.nil w).alloc (ndC n (.slice sp n.vs.length cap)) 39
  have SL := hid (show (Try.prog.info? 36).map (·.size) = some (ints .u8 n.ls).length by rw [Try.sizeD, ints_len, ok.ls])
  have SR := hid (show (Try.prog.info? 36).map (·.size) = some (ints .u8 n.rs).length by rw [Try.sizeD, ints_len, ok.rs])
  have SK := hid (show (Try.prog.info? 37).map (·.size) = some (ints .u8 n.k).length by rw [Try.sizeKy, ints_len, ok.k])
  have BL := hid (built_child n.l n.lc n.ls ok.ls)
  have BR := hid (built_child n.r n.rc n.rs ok.rs)
  have BZ := hid built_ch0
  have BKz := hid built_K0
  have BLf := hid (fun s m c => built_leaf n.k ok.k s m c)
  have BBr := hid (built_branch ok)
  have qL := eqC n.l n.lc 0 0 n.ls zD ok.ls rfl
  have qR := eqC n.r n.rc 0 0 n.rs zD ok.rs rfl
  have qK := eqKy n.k zD ok.k rfl
  have gC := Try.guardC
  have gK := Try.guardK
  have i0 : (n.vs.length : Int) ≤ 9223372036854775807 := by omega
  have c0 := d0.cell (.head _) (v := .int .i64 n.kd) (j := 0) rfl
  have c1 := d0.cell (.head _) (v := .int .i64 n.l) (j := 1) rfl
  have c2 := d0.cell (.head _) (v := .int .i64 n.r) (j := 2) rfl
  have c3 := d0.cell (.head _) (v := .int .i64 n.lc) (j := 3) rfl
  have c4 := d0.cell (.head _) (v := .int .i64 n.rc) (j := 4) rfl
  have c101 := d0.cell (.head _) (ndC_v ok (.slice sp n.vs.length cap))
  have rls := d0.rng (.head _) (ndC_ls ok (.slice sp n.vs.length cap))
  have rrs := d0.rng (.head _) (ndC_rs ok (.slice sp n.vs.length cap))
  have rk := d0.rng (.head _) (ndC_k ok (.slice sp n.vs.length cap))
  rw [decide_eq_true h2] at qK
  rw [h1] at c0
  have i3 : (n.vs.length : Int) = 0 := by omega
  clear h1 h2 h3
  have LL := hid (chC_len n.l n.lc n.ls ok.ls)
  have LR := hid (chC_len n.r n.rc n.rs ok.rs)
  have LZ := hid (show (chC 0 0 zD).length = 34 from rfl)
  have OL := hid (chC_one n.l n.lc n.ls)
  have OR := hid (chC_one n.r n.rc n.rs)
  have OZ := hid (chC_one 0 0 zD)
  have AC := hid allocCh
  generalize chC n.l n.lc n.ls = CL at *
  generalize chC n.r n.rc n.rs = CR at *
  generalize chC 0 0 zD = CZ at *
  generalize ints .u8 zD = KZ at *
  generalize ndC n (.slice sp n.vs.length cap) = NC at *
  generalize n.vs.length = m at *
  generalize n.l = vl at *
  generalize n.r = vr at *
  generalize n.lc = vlc at *
  generalize n.rc = vrc at *
  have hs0 : (w.alloc (.cells NC.toArray 39)).heap.size = w.heap.size + 1 := by simp
  have ZL := hid (show (Try.prog.info? 94).map (·.size) = some CL.toArray.size by rw [Try.sizeCh, List.size_toArray, LL.out])
  have ZR := hid (show (Try.prog.info? 94).map (·.size) = some CR.toArray.size by rw [Try.sizeCh, List.size_toArray, LR.out])
  have ZZ := hid (show (Try.prog.info? 94).map (·.size) = some CZ.toArray.size by rw [Try.sizeCh, List.size_toArray, LZ.out])
  go_enter Try.func24, Try.ntmps24
  go_wp2_with (first
    | refine wpList_load_mid_w (by rfl) 36 _ (by rfl) w.heap.size 5 (by rfl) _ _ rls Try.underlying36 rfl SL.out ?_
    | refine wpList_built (by rfl) 94 _ rfl _ rfl _ BL.out ?_
    | (refine wpList_new AC.out LZ.out Try.sizeCh rfl rfl rfl _ _ rfl rfl CL rfl rfl LL.out OL.out ?_; refine Hid.out ?_))
  refine hid ?_
  have d1 := d0.alloc CL 94
  rw [hs0] at d1
  have hs1 : ((w.alloc (.cells NC.toArray 39)).alloc (.cells CL.toArray 94)).heap.size = w.heap.size + 2 := (by rw [World.size_alloc, hs0])
  have bl1 : Below (w.alloc (.cells NC.toArray 39)).heap.size (w.alloc (.cells NC.toArray 39)) ((w.alloc (.cells NC.toArray 39)).alloc (.cells CL.toArray 94)) := (Below.refl _ _).alloc (Nat.le_refl _) _
  replace c0 := (bl1.cell (p := ⟨w.heap.size, 0, none⟩) (show w.heap.size < _ by omega)).trans c0
  replace c1 := (bl1.cell (p := ⟨w.heap.size, 1, none⟩) (show w.heap.size < _ by omega)).trans c1
  replace c2 := (bl1.cell (p := ⟨w.heap.size, 2, none⟩) (show w.heap.size < _ by omega)).trans c2
  replace c3 := (bl1.cell (p := ⟨w.heap.size, 3, none⟩) (show w.heap.size < _ by omega)).trans c3
  replace c4 := (bl1.cell (p := ⟨w.heap.size, 4, none⟩) (show w.heap.size < _ by omega)).trans c4
  replace c101 := (bl1.cell (p := ⟨w.heap.size, 101, none⟩) (show w.heap.size < _ by omega)).trans c101
  replace rls := rng_below rls bl1 (by omega)
  replace rrs := rng_below rrs bl1 (by omega)
  replace rk := rng_below rk bl1 (by omega)
  generalize (w.alloc (.cells NC.toArray 39)).alloc (.cells CL.toArray 94) = W1 at *
  clear bl1 d0
  try simp only [hs0]
  go_wp2_with (first
    | refine wpList_load_mid_w (by rfl) 36 _ (by rfl) w.heap.size 37 (by rfl) _ _ rrs Try.underlying36 rfl SR.out ?_
    | refine wpList_built (by rfl) 94 _ rfl _ rfl _ BR.out ?_
    | (refine wpList_new AC.out LZ.out Try.sizeCh rfl rfl rfl _ _ rfl rfl CR rfl rfl LR.out OR.out ?_; refine Hid.out ?_))
  refine hid ?_
  have d2 := d1.alloc CR 94
  rw [hs1] at d2
  have hs2 : (W1.alloc (.cells CR.toArray 94)).heap.size = w.heap.size + 3 := (by rw [World.size_alloc, hs1])
  have bl2 : Below W1.heap.size W1 (W1.alloc (.cells CR.toArray 94)) := (Below.refl _ _).alloc (Nat.le_refl _) _
  replace c0 := (bl2.cell (p := ⟨w.heap.size, 0, none⟩) (show w.heap.size < _ by omega)).trans c0
  replace c1 := (bl2.cell (p := ⟨w.heap.size, 1, none⟩) (show w.heap.size < _ by omega)).trans c1
  replace c2 := (bl2.cell (p := ⟨w.heap.size, 2, none⟩) (show w.heap.size < _ by omega)).trans c2
  replace c3 := (bl2.cell (p := ⟨w.heap.size, 3, none⟩) (show w.heap.size < _ by omega)).trans c3
  replace c4 := (bl2.cell (p := ⟨w.heap.size, 4, none⟩) (show w.heap.size < _ by omega)).trans c4
  replace c101 := (bl2.cell (p := ⟨w.heap.size, 101, none⟩) (show w.heap.size < _ by omega)).trans c101
  replace rls := rng_below rls bl2 (by omega)
  replace rrs := rng_below rrs bl2 (by omega)
  replace rk := rng_below rk bl2 (by omega)
  generalize W1.alloc (.cells CR.toArray 94) = W2 at *
  clear bl2 d1
  try simp only [hs1]
  go_wp2_with (first
    | refine wpList_built (by rfl) 94 _ rfl _ rfl _ BZ.out ?_
    | (refine wpList_new AC.out LZ.out Try.sizeCh rfl rfl rfl _ _ rfl rfl CZ rfl rfl LZ.out OZ.out ?_; refine Hid.out ?_))
  refine hid ?_
  have d3 := d2.alloc CZ 94
  rw [hs2] at d3
  have hs3 : (W2.alloc (.cells CZ.toArray 94)).heap.size = w.heap.size + 4 := (by rw [World.size_alloc, hs2])
  have bl3 : Below W2.heap.size W2 (W2.alloc (.cells CZ.toArray 94)) := (Below.refl _ _).alloc (Nat.le_refl _) _
  replace c0 := (bl3.cell (p := ⟨w.heap.size, 0, none⟩) (show w.heap.size < _ by omega)).trans c0
  replace c1 := (bl3.cell (p := ⟨w.heap.size, 1, none⟩) (show w.heap.size < _ by omega)).trans c1
  replace c2 := (bl3.cell (p := ⟨w.heap.size, 2, none⟩) (show w.heap.size < _ by omega)).trans c2
  replace c3 := (bl3.cell (p := ⟨w.heap.size, 3, none⟩) (show w.heap.size < _ by omega)).trans c3
  replace c4 := (bl3.cell (p := ⟨w.heap.size, 4, none⟩) (show w.heap.size < _ by omega)).trans c4
  replace c101 := (bl3.cell (p := ⟨w.heap.size, 101, none⟩) (show w.heap.size < _ by omega)).trans c101
  replace rls := rng_below rls bl3 (by omega)
  replace rrs := rng_below rrs bl3 (by omega)
  replace rk := rng_below rk bl3 (by omega)
  generalize W2.alloc (.cells CZ.toArray 94) = W3 at *
  clear bl3 d2
  try simp only [hs2]
  have rz := d3.row (.head _)
  have rr := d3.row (.tail _ (.head _))
  have rl := d3.row (.tail _ (.tail _ (.head _)))
  go_wp2_with (first
    | refine wpList_load_row_w (by rfl) 94 _ (by rfl) _ (by rfl) 94 _ _ _ rl Try.underlying94 rfl ZL.out ?_
    | refine wpList_load_row_w (by rfl) 94 _ (by rfl) _ (by rfl) 94 _ _ _ rr Try.underlying94 rfl ZR.out ?_
    | refine wpList_load_mid_w (by rfl) 37 _ (by rfl) w.heap.size 69 (by rfl) _ _ rk Try.underlying37 rfl SK.out ?_
    | refine wpList_built (by rfl) 37 _ rfl _ rfl _ BKz.out ?_
    | refine wpList_built (by rfl) 98 _ rfl _ rfl _ BBr.out ?_)
  go_ret
  exact ⟨rfl, d3.1⟩
set_option maxRecDepth 100000 in
set_option maxHeartbeats 2000000 in
theorem formOf_nilK (w : World) (n : Nd) (ok : NdOk n) (sp : Option Addr) (cap : Nat) (hn : n.vs.length ≤ 9223372036854775807) (h1 : n.kd = 2) (h2 : ¬ n.k = zD) :
    Calls Try.prog 24 #[.agg (ndC n (.slice sp n.vs.length cap)).toArray] w fun e w' => e = .returned (.nilIface) ∧ Below w.heap.size w w' := by
  have d0 := (BK.nil w).alloc (ndC n (.slice sp n.vs.length cap)) 39
  have SL := hid (show (Try.prog.info? 36).map (·.size) = some (ints .u8 n.ls).length by rw [Try.sizeD, ints_len, ok.ls])
  have SR := hid (show (Try.prog.info? 36).map (·.size) = some (ints .u8 n.rs).length by rw [Try.sizeD, ints_len, ok.rs])
  have SK := hid (show (Try.prog.info? 37).map (·.size) = some (ints .u8 n.k).length by rw [Try.sizeKy, ints_len, ok.k])
  have BL := hid (built_child n.l n.lc n.ls ok.ls)
  have BR := hid (built_child n.r n.rc n.rs ok.rs)
  have BZ := hid built_ch0
  have BKz := hid built_K0
  have BLf := hid (fun s m c => built_leaf n.k ok.k s m c)
  have BBr := hid (built_branch ok)
  have qL := eqC n.l n.lc 0 0 n.ls zD ok.ls rfl
  have qR := eqC n.r n.rc 0 0 n.rs zD ok.rs rfl
  have qK := eqKy n.k zD ok.k rfl
  have gC := Try.guardC
  have gK := Try.guardK
  have i0 : (n.vs.length : Int) ≤ 9223372036854775807 := by omega
  have c0 := d0.cell (.head _) (v := .int .i64 n.kd) (j := 0) rfl
  have c1 := d0.cell (.head _) (v := .int .i64 n.l) (j := 1) rfl
  have c2 := d0.cell (.head _) (v := .int .i64 n.r) (j := 2) rfl
  have c3 := d0.cell (.head _) (v := .int .i64 n.lc) (j := 3) rfl
  have c4 := d0.cell (.head _) (v := .int .i64 n.rc) (j := 4) rfl
  have c101 := d0.cell (.head _) (ndC_v ok (.slice sp n.vs.length cap))
  have rls := d0.rng (.head _) (ndC_ls ok (.slice sp n.vs.length cap))
  have rrs := d0.rng (.head _) (ndC_rs ok (.slice sp n.vs.length cap))
  have rk := d0.rng (.head _) (ndC_k ok (.slice sp n.vs.length cap))
  rw [decide_eq_false h2] at qK
  rw [h1] at c0
  clear h1 h2
  have LL := hid (chC_len n.l n.lc n.ls ok.ls)
  have LR := hid (chC_len n.r n.rc n.rs ok.rs)
  have LZ := hid (show (chC 0 0 zD).length = 34 from rfl)
  have OL := hid (chC_one n.l n.lc n.ls)
  have OR := hid (chC_one n.r n.rc n.rs)
  have OZ := hid (chC_one 0 0 zD)
  have AC := hid allocCh
  generalize chC n.l n.lc n.ls = CL at *
  generalize chC n.r n.rc n.rs = CR at *
  generalize chC 0 0 zD = CZ at *
  generalize ints .u8 zD = KZ at *
  generalize ndC n (.slice sp n.vs.length cap) = NC at *
  generalize n.vs.length = m at *
  generalize n.l = vl at *
  generalize n.r = vr at *
  generalize n.lc = vlc at *
  generalize n.rc = vrc at *
  have hs0 : (w.alloc (.cells NC.toArray 39)).heap.size = w.heap.size + 1 := by simp
  have ZL := hid (show (Try.prog.info? 94).map (·.size) = some CL.toArray.size by rw [Try.sizeCh, List.size_toArray, LL.out])
  have ZR := hid (show (Try.prog.info? 94).map (·.size) = some CR.toArray.size by rw [Try.sizeCh, List.size_toArray, LR.out])
  have ZZ := hid (show (Try.prog.info? 94).map (·.size) = some CZ.toArray.size by rw [Try.sizeCh, List.size_toArray, LZ.out])
  go_enter Try.func24, Try.ntmps24
  go_wp2_with (first
    | refine wpList_load_mid_w (by rfl) 36 _ (by rfl) w.heap.size 5 (by rfl) _ _ rls Try.underlying36 rfl SL.out ?_
    | refine wpList_built (by rfl) 94 _ rfl _ rfl _ BL.out ?_
    | (refine wpList_new AC.out LZ.out Try.sizeCh rfl rfl rfl _ _ rfl rfl CL rfl rfl LL.out OL.out ?_; refine Hid.out ?_))
  refine hid ?_
  have d1 := d0.alloc CL 94
  rw [hs0] at d1
  have hs1 : ((w.alloc (.cells NC.toArray 39)).alloc (.cells CL.toArray 94)).heap.size = w.heap.size + 2 := (by rw [World.size_alloc, hs0])
  have bl1 : Below (w.alloc (.cells NC.toArray 39)).heap.size (w.alloc (.cells NC.toArray 39)) ((w.alloc (.cells NC.toArray 39)).alloc (.cells CL.toArray 94)) := (Below.refl _ _).alloc (Nat.le_refl _) _
  replace c0 := (bl1.cell (p := ⟨w.heap.size, 0, none⟩) (show w.heap.size < _ by omega)).trans c0
  replace c1 := (bl1.cell (p := ⟨w.heap.size, 1, none⟩) (show w.heap.size < _ by omega)).trans c1
  replace c2 := (bl1.cell (p := ⟨w.heap.size, 2, none⟩) (show w.heap.size < _ by omega)).trans c2
  replace c3 := (bl1.cell (p := ⟨w.heap.size, 3, none⟩) (show w.heap.size < _ by omega)).trans c3
  replace c4 := (bl1.cell (p := ⟨w.heap.size, 4, none⟩) (show w.heap.size < _ by omega)).trans c4
  replace c101 := (bl1.cell (p := ⟨w.heap.size, 101, none⟩) (show w.heap.size < _ by omega)).trans c101
  replace rls := rng_below rls bl1 (by omega)
  replace rrs := rng_below rrs bl1 (by omega)
  replace rk := rng_below rk bl1 (by omega)
  generalize (w.alloc (.cells NC.toArray 39)).alloc (.cells CL.toArray 94) = W1 at *
  clear bl1 d0
  try simp only [hs0]
  go_wp2_with (first
    | refine wpList_load_mid_w (by rfl) 36 _ (by rfl) w.heap.size 37 (by rfl) _ _ rrs Try.underlying36 rfl SR.out ?_
    | refine wpList_built (by rfl) 94 _ rfl _ rfl _ BR.out ?_
    | (refine wpList_new AC.out LZ.out Try.sizeCh rfl rfl rfl _ _ rfl rfl CR rfl rfl LR.out OR.out ?_; refine Hid.out ?_))
  refine hid ?_
  have d2 := d1.alloc CR 94
  rw [hs1] at d2
  have hs2 : (W1.alloc (.cells CR.toArray 94)).heap.size = w.heap.size + 3 := (by rw [World.size_alloc, hs1])
  have bl2 : Below W1.heap.size W1 (W1.alloc (.cells CR.toArray 94)) := (Below.refl _ _).alloc (Nat.le_refl _) _
  replace c0 := (bl2.cell (p := ⟨w.heap.size, 0, none⟩) (show w.heap.size < _ by omega)).trans c0
  replace c1 := (bl2.cell (p := ⟨w.heap.size, 1, none⟩) (show w.heap.size < _ by omega)).trans c1
  replace c2 := (bl2.cell (p := ⟨w.heap.size, 2, none⟩) (show w.heap.size < _ by omega)).trans c2
  replace c3 := (bl2.cell (p := ⟨w.heap.size, 3, none⟩) (show w.heap.size < _ by omega)).trans c3
  replace c4 := (bl2.cell (p := ⟨w.heap.size, 4, none⟩) (show w.heap.size < _ by omega)).trans c4
  replace c101 := (bl2.cell (p := ⟨w.heap.size, 101, none⟩) (show w.heap.size < _ by omega)).trans c101
  replace rls := rng_below rls bl2 (by omega)
  replace rrs := rng_below rrs bl2 (by omega)
  replace rk := rng_below rk bl2 (by omega)
  generalize W1.alloc (.cells CR.toArray 94) = W2 at *
  clear bl2 d1
  try simp only [hs1]
  go_wp2_with (first
    | refine wpList_built (by rfl) 94 _ rfl _ rfl _ BZ.out ?_
    | (refine wpList_new AC.out LZ.out Try.sizeCh rfl rfl rfl _ _ rfl rfl CZ rfl rfl LZ.out OZ.out ?_; refine Hid.out ?_))
  refine hid ?_
  have d3 := d2.alloc CZ 94
  rw [hs2] at d3
  have hs3 : (W2.alloc (.cells CZ.toArray 94)).heap.size = w.heap.size + 4 := (by rw [World.size_alloc, hs2])
  have bl3 : Below W2.heap.size W2 (W2.alloc (.cells CZ.toArray 94)) := (Below.refl _ _).alloc (Nat.le_refl _) _
  replace c0 := (bl3.cell (p := ⟨w.heap.size, 0, none⟩) (show w.heap.size < _ by omega)).trans c0
  replace c1 := (bl3.cell (p := ⟨w.heap.size, 1, none⟩) (show w.heap.size < _ by omega)).trans c1
  replace c2 := (bl3.cell (p := ⟨w.heap.size, 2, none⟩) (show w.heap.size < _ by omega)).trans c2
  replace c3 := (bl3.cell (p := ⟨w.heap.size, 3, none⟩) (show w.heap.size < _ by omega)).trans c3
  replace c4 := (bl3.cell (p := ⟨w.heap.size, 4, none⟩) (show w.heap.size < _ by omega)).trans c4
  replace c101 := (bl3.cell (p := ⟨w.heap.size, 101, none⟩) (show w.heap.size < _ by omega)).trans c101
  replace rls := rng_below rls bl3 (by omega)
  replace rrs := rng_below rrs bl3 (by omega)
  replace rk := rng_below rk bl3 (by omega)
  generalize W2.alloc (.cells CZ.toArray 94) = W3 at *
  clear bl3 d2
  try simp only [hs2]
  have rz := d3.row (.head _)
  have rr := d3.row (.tail _ (.head _))
  have rl := d3.row (.tail _ (.tail _ (.head _)))
  go_wp2_with (first
    | refine wpList_load_mid_w (by rfl) 37 _ (by rfl) w.heap.size 69 (by rfl) _ _ rk Try.underlying37 rfl SK.out ?_
    | refine wpList_built (by rfl) 37 _ rfl _ rfl _ BKz.out ?_)
  go_ret
  exact ⟨rfl, d3.1⟩
set_option maxRecDepth 100000 in
set_option maxHeartbeats 2000000 in
theorem formOf_nilV (w : World) (n : Nd) (ok : NdOk n) (sp : Option Addr) (cap : Nat) (hn : n.vs.length ≤ 9223372036854775807) (h1 : n.kd = 2) (h2 : n.k = zD) (h3 : ¬ n.vs.length = 0) :
    Calls Try.prog 24 #[.agg (ndC n (.slice sp n.vs.length cap)).toArray] w fun e w' => e = .returned (.nilIface) ∧ Below w.heap.size w w' := by
  have d0 := (BK.nil w).alloc (ndC n (.slice sp n.vs.length cap)) 39
  have SL := hid (show (Try.prog.info? 36).map (·.size) = some (ints .u8 n.ls).length by rw [Try.sizeD, ints_len, ok.ls])
  have SR := hid (show (Try.prog.info? 36).map (·.size) = some (ints .u8 n.rs).length by rw [Try.sizeD, ints_len, ok.rs])
  have SK := hid (show (Try.prog.info? 37).map (·.size) = some (ints .u8 n.k).length by rw [Try.sizeKy, ints_len, ok.k])
  have BL := hid (built_child n.l n.lc n.ls ok.ls)
  have BR := hid (built_child n.r n.rc n.rs ok.rs)
  have BZ := hid built_ch0
  have BKz := hid built_K0
  have BLf := hid (fun s m c => built_leaf n.k ok.k s m c)
  have BBr := hid (built_branch ok)
  have qL := eqC n.l n.lc 0 0 n.ls zD ok.ls rfl
  have qR := eqC n.r n.rc 0 0 n.rs zD ok.rs rfl
  have qK := eqKy n.k zD ok.k rfl
  have gC := Try.guardC
  have gK := Try.guardK
  have i0 : (n.vs.length : Int) ≤ 9223372036854775807 := by omega
  have c0 := d0.cell (.head _) (v := .int .i64 n.kd) (j := 0) rfl
  have c1 := d0.cell (.head _) (v := .int .i64 n.l) (j := 1) rfl
  have c2 := d0.cell (.head _) (v := .int .i64 n.r) (j := 2) rfl
  have c3 := d0.cell (.head _) (v := .int .i64 n.lc) (j := 3) rfl
  have c4 := d0.cell (.head _) (v := .int .i64 n.rc) (j := 4) rfl
  have c101 := d0.cell (.head _) (ndC_v ok (.slice sp n.vs.length cap))
  have rls := d0.rng (.head _) (ndC_ls ok (.slice sp n.vs.length cap))
  have rrs := d0.rng (.head _) (ndC_rs ok (.slice sp n.vs.length cap))
  have rk := d0.rng (.head _) (ndC_k ok (.slice sp n.vs.length cap))
  rw [decide_eq_true h2] at qK
  rw [h1] at c0
  have i3 : ¬ (n.vs.length : Int) = 0 := by omega
  clear h1 h2 h3
  have LL := hid (chC_len n.l n.lc n.ls ok.ls)
  have LR := hid (chC_len n.r n.rc n.rs ok.rs)
  have LZ := hid (show (chC 0 0 zD).length = 34 from rfl)
  have OL := hid (chC_one n.l n.lc n.ls)
  have OR := hid (chC_one n.r n.rc n.rs)
  have OZ := hid (chC_one 0 0 zD)
  have AC := hid allocCh
  generalize chC n.l n.lc n.ls = CL at *
  generalize chC n.r n.rc n.rs = CR at *
  generalize chC 0 0 zD = CZ at *
  generalize ints .u8 zD = KZ at *
  generalize ndC n (.slice sp n.vs.length cap) = NC at *
  generalize n.vs.length = m at *
  generalize n.l = vl at *
  generalize n.r = vr at *
  generalize n.lc = vlc at *
  generalize n.rc = vrc at *
  have hs0 : (w.alloc (.cells NC.toArray 39)).heap.size = w.heap.size + 1 := by simp
  have ZL := hid (show (Try.prog.info? 94).map (·.size) = some CL.toArray.size by rw [Try.sizeCh, List.size_toArray, LL.out])
  have ZR := hid (show (Try.prog.info? 94).map (·.size) = some CR.toArray.size by rw [Try.sizeCh, List.size_toArray, LR.out])
  have ZZ := hid (show (Try.prog.info? 94).map (·.size) = some CZ.toArray.size by rw [Try.sizeCh, List.size_toArray, LZ.out])
  go_enter Try.func24, Try.ntmps24
  go_wp2_with (first
    | refine wpList_load_mid_w (by rfl) 36 _ (by rfl) w.heap.size 5 (by rfl) _ _ rls Try.underlying36 rfl SL.out ?_
    | refine wpList_built (by rfl) 94 _ rfl _ rfl _ BL.out ?_
    | (refine wpList_new AC.out LZ.out Try.sizeCh rfl rfl rfl _ _ rfl rfl CL rfl rfl LL.out OL.out ?_; refine Hid.out ?_))
  refine hid ?_
  have d1 := d0.alloc CL 94
  rw [hs0] at d1
  have hs1 : ((w.alloc (.cells NC.toArray 39)).alloc (.cells CL.toArray 94)).heap.size = w.heap.size + 2 := (by rw [World.size_alloc, hs0])
  have bl1 : Below (w.alloc (.cells NC.toArray 39)).heap.size (w.alloc (.cells NC.toArray 39)) ((w.alloc (.cells NC.toArray 39)).alloc (.cells CL.toArray 94)) := (Below.refl _ _).alloc (Nat.le_refl _) _
  replace c0 := (bl1.cell (p := ⟨w.heap.size, 0, none⟩) (show w.heap.size < _ by omega)).trans c0
  replace c1 := (bl1.cell (p := ⟨w.heap.size, 1, none⟩) (show w.heap.size < _ by omega)).trans c1
  replace c2 := (bl1.cell (p := ⟨w.heap.size, 2, none⟩) (show w.heap.size < _ by omega)).trans c2
  replace c3 := (bl1.cell (p := ⟨w.heap.size, 3, none⟩) (show w.heap.size < _ by omega)).trans c3
  replace c4 := (bl1.cell (p := ⟨w.heap.size, 4, none⟩) (show w.heap.size < _ by omega)).trans c4
  replace c101 := (bl1.cell (p := ⟨w.heap.size, 101, none⟩) (show w.heap.size < _ by omega)).trans c101
  replace rls := rng_below rls bl1 (by omega)
  replace rrs := rng_below rrs bl1 (by omega)
  replace rk := rng_below rk bl1 (by omega)
  generalize (w.alloc (.cells NC.toArray 39)).alloc (.cells CL.toArray 94) = W1 at *
  clear bl1 d0
  try simp only [hs0]
  go_wp2_with (first
    | refine wpList_load_mid_w (by rfl) 36 _ (by rfl) w.heap.size 37 (by rfl) _ _ rrs Try.underlying36 rfl SR.out ?_
    | refine wpList_built (by rfl) 94 _ rfl _ rfl _ BR.out ?_
    | (refine wpList_new AC.out LZ.out Try.sizeCh rfl rfl rfl _ _ rfl rfl CR rfl rfl LR.out OR.out ?_; refine Hid.out ?_))
  refine hid ?_
  have d2 := d1.alloc CR 94
  rw [hs1] at d2
  have hs2 : (W1.alloc (.cells CR.toArray 94)).heap.size = w.heap.size + 3 := (by rw [World.size_alloc, hs1])
  have bl2 : Below W1.heap.size W1 (W1.alloc (.cells CR.toArray 94)) := (Below.refl _ _).alloc (Nat.le_refl _) _
  replace c0 := (bl2.cell (p := ⟨w.heap.size, 0, none⟩) (show w.heap.size < _ by omega)).trans c0
  replace c1 := (bl2.cell (p := ⟨w.heap.size, 1, none⟩) (show w.heap.size < _ by omega)).trans c1
  replace c2 := (bl2.cell (p := ⟨w.heap.size, 2, none⟩) (show w.heap.size < _ by omega)).trans c2
  replace c3 := (bl2.cell (p := ⟨w.heap.size, 3, none⟩) (show w.heap.size < _ by omega)).trans c3
  replace c4 := (bl2.cell (p := ⟨w.heap.size, 4, none⟩) (show w.heap.size < _ by omega)).trans c4
  replace c101 := (bl2.cell (p := ⟨w.heap.size, 101, none⟩) (show w.heap.size < _ by omega)).trans c101
  replace rls := rng_below rls bl2 (by omega)
  replace rrs := rng_below rrs bl2 (by omega)
  replace rk := rng_below rk bl2 (by omega)
  generalize W1.alloc (.cells CR.toArray 94) = W2 at *
  clear bl2 d1
  try simp only [hs1]
  go_wp2_with (first
    | refine wpList_built (by rfl) 94 _ rfl _ rfl _ BZ.out ?_
    | (refine wpList_new AC.out LZ.out Try.sizeCh rfl rfl rfl _ _ rfl rfl CZ rfl rfl LZ.out OZ.out ?_; refine Hid.out ?_))
  refine hid ?_
  have d3 := d2.alloc CZ 94
  rw [hs2] at d3
  have hs3 : (W2.alloc (.cells CZ.toArray 94)).heap.size = w.heap.size + 4 := (by rw [World.size_alloc, hs2])
  have bl3 : Below W2.heap.size W2 (W2.alloc (.cells CZ.toArray 94)) := (Below.refl _ _).alloc (Nat.le_refl _) _
  replace c0 := (bl3.cell (p := ⟨w.heap.size, 0, none⟩) (show w.heap.size < _ by omega)).trans c0
  replace c1 := (bl3.cell (p := ⟨w.heap.size, 1, none⟩) (show w.heap.size < _ by omega)).trans c1
  replace c2 := (bl3.cell (p := ⟨w.heap.size, 2, none⟩) (show w.heap.size < _ by omega)).trans c2
  replace c3 := (bl3.cell (p := ⟨w.heap.size, 3, none⟩) (show w.heap.size < _ by omega)).trans c3
  replace c4 := (bl3.cell (p := ⟨w.heap.size, 4, none⟩) (show w.heap.size < _ by omega)).trans c4
  replace c101 := (bl3.cell (p := ⟨w.heap.size, 101, none⟩) (show w.heap.size < _ by omega)).trans c101
  replace rls := rng_below rls bl3 (by omega)
  replace rrs := rng_below rrs bl3 (by omega)
  replace rk := rng_below rk bl3 (by omega)
  generalize W2.alloc (.cells CZ.toArray 94) = W3 at *
  clear bl3 d2
  try simp only [hs2]
  have rz := d3.row (.head _)
  have rr := d3.row (.tail _ (.head _))
  have rl := d3.row (.tail _ (.tail _ (.head _)))
  go_wp2_with (first
    | refine wpList_load_mid_w (by rfl) 37 _ (by rfl) w.heap.size 69 (by rfl) _ _ rk Try.underlying37 rfl SK.out ?_
    | refine wpList_built (by rfl) 37 _ rfl _ rfl _ BKz.out ?_)
  go_ret
  exact ⟨rfl, d3.1⟩
set_option maxRecDepth 100000 in
set_option maxHeartbeats 2000000 in
theorem formOf_nilO (w : World) (n : Nd) (ok : NdOk n) (sp : Option Addr) (cap : Nat) (hn : n.vs.length ≤ 9223372036854775807) (h1 : ¬ n.kd = 1) (h2 : ¬ n.kd = 2) :
    Calls Try.prog 24 #[.agg (ndC n (.slice sp n.vs.length cap)).toArray] w fun e w' => e = .returned (.nilIface) ∧ Below w.heap.size w w' := by
  have d0 := (BK.nil w).alloc (ndC n (.slice sp n.vs.length cap)) 39
  have SL := hid (show (Try.prog.info? 36).map (·.size) = some (ints .u8 n.ls).length by rw [Try.sizeD, ints_len, ok.ls])
  have SR := hid (show (Try.prog.info? 36).map (·.size) = some (ints .u8 n.rs).length by rw [Try.sizeD, ints_len, ok.rs])
  have SK := hid (show (Try.prog.info? 37).map (·.size) = some (ints .u8 n.k).length by rw [Try.sizeKy, ints_len, ok.k])
  have BL := hid (built_child n.l n.lc n.ls ok.ls)
  have BR := hid (built_child n.r n.rc n.rs ok.rs)
  have BZ := hid built_ch0
  have BKz := hid built_K0
  have BLf := hid (fun s m c => built_leaf n.k ok.k s m c)
  have BBr := hid (built_branch ok)
  have qL := eqC n.l n.lc 0 0 n.ls zD ok.ls rfl
  have qR := eqC n.r n.rc 0 0 n.rs zD ok.rs rfl
  have qK := eqKy n.k zD ok.k rfl
  have gC := Try.guardC
  have gK := Try.guardK
  have i0 : (n.vs.length : Int) ≤ 9223372036854775807 := by omega
  have c0 := d0.cell (.head _) (v := .int .i64 n.kd) (j := 0) rfl
  have c1 := d0.cell (.head _) (v := .int .i64 n.l) (j := 1) rfl
  have c2 := d0.cell (.head _) (v := .int .i64 n.r) (j := 2) rfl
  have c3 := d0.cell (.head _) (v := .int .i64 n.lc) (j := 3) rfl
  have c4 := d0.cell (.head _) (v := .int .i64 n.rc) (j := 4) rfl
  have c101 := d0.cell (.head _) (ndC_v ok (.slice sp n.vs.length cap))
  have rls := d0.rng (.head _) (ndC_ls ok (.slice sp n.vs.length cap))
  have rrs := d0.rng (.head _) (ndC_rs ok (.slice sp n.vs.length cap))
  have rk := d0.rng (.head _) (ndC_k ok (.slice sp n.vs.length cap))
  generalize n.kd = vk at *
  have LL := hid (chC_len n.l n.lc n.ls ok.ls)
  have LR := hid (chC_len n.r n.rc n.rs ok.rs)
  have LZ := hid (show (chC 0 0 zD).length = 34 from rfl)
  have OL := hid (chC_one n.l n.lc n.ls)
  have OR := hid (chC_one n.r n.rc n.rs)
  have OZ := hid (chC_one 0 0 zD)
  have AC := hid allocCh
  generalize chC n.l n.lc n.ls = CL at *
  generalize chC n.r n.rc n.rs = CR at *
  generalize chC 0 0 zD = CZ at *
  generalize ints .u8 zD = KZ at *
  generalize ndC n (.slice sp n.vs.length cap) = NC at *
  generalize n.vs.length = m at *
  generalize n.l = vl at *
  generalize n.r = vr at *
  generalize n.lc = vlc at *
  generalize n.rc = vrc at *
  have hs0 : (w.alloc (.cells NC.toArray 39)).heap.size = w.heap.size + 1 := by simp
  have ZL := hid (show (Try.prog.info? 94).map (·.size) = some CL.toArray.size by rw [Try.sizeCh, List.size_toArray, LL.out])
  have ZR := hid (show (Try.prog.info? 94).map (·.size) = some CR.toArray.size by rw [Try.sizeCh, List.size_toArray, LR.out])
  have ZZ := hid (show (Try.prog.info? 94).map (·.size) = some CZ.toArray.size by rw [Try.sizeCh, List.size_toArray, LZ.out])
  go_enter Try.func24, Try.ntmps24
  go_wp2_with (first
    | refine wpList_load_mid_w (by rfl) 36 _ (by rfl) w.heap.size 5 (by rfl) _ _ rls Try.underlying36 rfl SL.out ?_
    | refine wpList_built (by rfl) 94 _ rfl _ rfl _ BL.out ?_
    | (refine wpList_new AC.out LZ.out Try.sizeCh rfl rfl rfl _ _ rfl rfl CL rfl rfl LL.out OL.out ?_; refine Hid.out ?_))
  refine hid ?_
  have d1 := d0.alloc CL 94
  rw [hs0] at d1
  have hs1 : ((w.alloc (.cells NC.toArray 39)).alloc (.cells CL.toArray 94)).heap.size = w.heap.size + 2 := (by rw [World.size_alloc, hs0])
  have bl1 : Below (w.alloc (.cells NC.toArray 39)).heap.size (w.alloc (.cells NC.toArray 39)) ((w.alloc (.cells NC.toArray 39)).alloc (.cells CL.toArray 94)) := (Below.refl _ _).alloc (Nat.le_refl _) _
  replace c0 := (bl1.cell (p := ⟨w.heap.size, 0, none⟩) (show w.heap.size < _ by omega)).trans c0
  replace c1 := (bl1.cell (p := ⟨w.heap.size, 1, none⟩) (show w.heap.size < _ by omega)).trans c1
  replace c2 := (bl1.cell (p := ⟨w.heap.size, 2, none⟩) (show w.heap.size < _ by omega)).trans c2
  replace c3 := (bl1.cell (p := ⟨w.heap.size, 3, none⟩) (show w.heap.size < _ by omega)).trans c3
  replace c4 := (bl1.cell (p := ⟨w.heap.size, 4, none⟩) (show w.heap.size < _ by omega)).trans c4
  replace c101 := (bl1.cell (p := ⟨w.heap.size, 101, none⟩) (show w.heap.size < _ by omega)).trans c101
  replace rls := rng_below rls bl1 (by omega)
  replace rrs := rng_below rrs bl1 (by omega)
  replace rk := rng_below rk bl1 (by omega)
  generalize (w.alloc (.cells NC.toArray 39)).alloc (.cells CL.toArray 94) = W1 at *
  clear bl1 d0
  try simp only [hs0]
  go_wp2_with (first
    | refine wpList_load_mid_w (by rfl) 36 _ (by rfl) w.heap.size 37 (by rfl) _ _ rrs Try.underlying36 rfl SR.out ?_
    | refine wpList_built (by rfl) 94 _ rfl _ rfl _ BR.out ?_
    | (refine wpList_new AC.out LZ.out Try.sizeCh rfl rfl rfl _ _ rfl rfl CR rfl rfl LR.out OR.out ?_; refine Hid.out ?_))
  refine hid ?_
  have d2 := d1.alloc CR 94
  rw [hs1] at d2
  have hs2 : (W1.alloc (.cells CR.toArray 94)).heap.size = w.heap.size + 3 := (by rw [World.size_alloc, hs1])
  have bl2 : Below W1.heap.size W1 (W1.alloc (.cells CR.toArray 94)) := (Below.refl _ _).alloc (Nat.le_refl _) _
  replace c0 := (bl2.cell (p := ⟨w.heap.size, 0, none⟩) (show w.heap.size < _ by omega)).trans c0
  replace c1 := (bl2.cell (p := ⟨w.heap.size, 1, none⟩) (show w.heap.size < _ by omega)).trans c1
  replace c2 := (bl2.cell (p := ⟨w.heap.size, 2, none⟩) (show w.heap.size < _ by omega)).trans c2
  replace c3 := (bl2.cell (p := ⟨w.heap.size, 3, none⟩) (show w.heap.size < _ by omega)).trans c3
  replace c4 := (bl2.cell (p := ⟨w.heap.size, 4, none⟩) (show w.heap.size < _ by omega)).trans c4
  replace c101 := (bl2.cell (p := ⟨w.heap.size, 101, none⟩) (show w.heap.size < _ by omega)).trans c101
  replace rls := rng_below rls bl2 (by omega)
  replace rrs := rng_below rrs bl2 (by omega)
  replace rk := rng_below rk bl2 (by omega)
  generalize W1.alloc (.cells CR.toArray 94) = W2 at *
  clear bl2 d1
  try simp only [hs1]
  go_wp2_with (first
    | refine wpList_built (by rfl) 94 _ rfl _ rfl _ BZ.out ?_
    | (refine wpList_new AC.out LZ.out Try.sizeCh rfl rfl rfl _ _ rfl rfl CZ rfl rfl LZ.out OZ.out ?_; refine Hid.out ?_))
  refine hid ?_
  have d3 := d2.alloc CZ 94
  rw [hs2] at d3
  have hs3 : (W2.alloc (.cells CZ.toArray 94)).heap.size = w.heap.size + 4 := (by rw [World.size_alloc, hs2])
  have bl3 : Below W2.heap.size W2 (W2.alloc (.cells CZ.toArray 94)) := (Below.refl _ _).alloc (Nat.le_refl _) _
  replace c0 := (bl3.cell (p := ⟨w.heap.size, 0, none⟩) (show w.heap.size < _ by omega)).trans c0
  replace c1 := (bl3.cell (p := ⟨w.heap.size, 1, none⟩) (show w.heap.size < _ by omega)).trans c1
  replace c2 := (bl3.cell (p := ⟨w.heap.size, 2, none⟩) (show w.heap.size < _ by omega)).trans c2
  replace c3 := (bl3.cell (p := ⟨w.heap.size, 3, none⟩) (show w.heap.size < _ by omega)).trans c3
  replace c4 := (bl3.cell (p := ⟨w.heap.size, 4, none⟩) (show w.heap.size < _ by omega)).trans c4
  replace c101 := (bl3.cell (p := ⟨w.heap.size, 101, none⟩) (show w.heap.size < _ by omega)).trans c101
  replace rls := rng_below rls bl3 (by omega)
  replace rrs := rng_below rrs bl3 (by omega)
  replace rk := rng_below rk bl3 (by omega)
  generalize W2.alloc (.cells CZ.toArray 94) = W3 at *
  clear bl3 d2
  try simp only [hs2]
  have rz := d3.row (.head _)
  have rr := d3.row (.tail _ (.head _))
  have rl := d3.row (.tail _ (.tail _ (.head _)))
  go_wp2
  go_ret
  exact ⟨rfl, d3.1⟩
/-- The form of a node. -/
def formV (n : Nd) (v : Value) : Value :=
  if n.kd = 1 ∧ (n.l = 0 ∧ n.lc = 0 ∧ n.ls = zD) ∧ (n.r = 0 ∧ n.rc = 0 ∧ n.rs = zD) then .iface 96 (.agg (leafC n.k v).toArray)
  else if n.kd = 2 ∧ n.k = zD ∧ n.vs.length = 0 then .iface 98 (.agg (brC n).toArray) else .nilIface
theorem formOf_any (w : World) (n : Nd) (ok : NdOk n) (sp : Option Addr) (cap : Nat) (hn : n.vs.length ≤ 9223372036854775807) :
    Calls Try.prog 24 #[.agg (ndC n (.slice sp n.vs.length cap)).toArray] w fun e w' => e = .returned (formV n (.slice sp n.vs.length cap)) ∧ Below w.heap.size w w' := by
  unfold formV
  by_cases h1 : n.kd = 1
  · have h1' : ¬ n.kd = 2 := by omega
    by_cases h2 : n.l = 0 ∧ n.lc = 0 ∧ n.ls = zD
    · by_cases h3 : n.r = 0 ∧ n.rc = 0 ∧ n.rs = zD
      · rw [if_pos ⟨h1, h2, h3⟩]; exact formOf_leaf w n ok sp cap hn h1 h2 h3
      · rw [if_neg (fun h => h3 h.2.2), if_neg (fun h => h1' h.1)]; exact formOf_nilR w n ok sp cap hn h1 h2 h3
    · rw [if_neg (fun h => h2 h.2.1), if_neg (fun h => h1' h.1)]; exact formOf_nilL w n ok sp cap hn h1 h2
  · rw [if_neg (fun h => h1 h.1)]
    by_cases h2 : n.kd = 2
    · by_cases h3 : n.k = zD
      · by_cases h4 : n.vs.length = 0
        · rw [if_pos ⟨h2, h3, h4⟩]; exact formOf_branch w n ok sp cap hn h2 h3 h4
        · rw [if_neg (fun h => h4 h.2.2)]; exact formOf_nilV w n ok sp cap hn h2 h3 h4
      · rw [if_neg (fun h => h3 h.2.1)]; exact formOf_nilK w n ok sp cap hn h2 h3
    · rw [if_neg (fun h => h2 h.1)]; exact formOf_nilO w n ok sp cap hn h1 h2
end Go.Proofs.Ytbcadiecpcngdaa
