import Derived.Test.YtipbbmbkjcpjbaaDoorPc9
import Derived.Test.YtipbbmbkjcpjbaaDoorXj9
namespace Go.Proofs.YtipbbmbkjcpjbaaDoor
set_option linter.unusedVariables false
set_option linter.unusedSimpArgs false
open Go.RowKit
attribute [local go_sem ↓] Go.wp_at_zero Go.wp_at_succ

set_option maxRecDepth 100000 in
set_option maxHeartbeats 4000000 in
theorem sameNode_self (w : World) (n : Nd) (ok : NdOk n) (s1 s2 : Option Addr) (c1 c2 : Nat) (h1 : Src w s1 c1 n.vs) (h2 : Src w s2 c2 n.vs) :
    Calls Tryd.prog 18 #[.agg (ndC n (.slice s1 n.vs.length c1)).toArray, .agg (ndC n (.slice s2 n.vs.length c2)).toArray] w fun e w' => e = .returned (.bool true) ∧ Below w.heap.size w w' := by
  have d0 := ((BK.nil w).alloc (ndC n (.slice s1 n.vs.length c1)) 30).alloc (ndC n (.slice s2 n.vs.length c2)) 30
  rw [show (w.alloc (.cells (ndC n (.slice s1 n.vs.length c1)).toArray 30)).heap.size = w.heap.size + 1 by simp] at d0
  have SL := hid (show (Tryd.prog.info? 27).map (·.size) = some (ints .u8 n.ls).length by rw [Tryd.sizeD, ints_len, ok.ls])
  have SR := hid (show (Tryd.prog.info? 27).map (·.size) = some (ints .u8 n.rs).length by rw [Tryd.sizeD, ints_len, ok.rs])
  have SK := hid (show (Tryd.prog.info? 26).map (·.size) = some (ints .u8 n.k).length by rw [Tryd.sizeKy, ints_len, ok.k])
  have qL := eqDg_self n.ls ok.ls
  have qR := eqDg_self n.rs ok.rs
  have qK := eqKy_self n.k ok.k
  have gD := Tryd.guardDg
  have gK := Tryd.guardK
  have KS := hid (fun w1 (h1 : Src w1 s1 c1 n.vs) (h2 : Src w1 s2 c2 n.vs) => same_self w1 n.vs s1 s2 c1 c2 h1 h2)
  have x0 := d0.cell (.tail _ (.head _)) (v := .int .i64 n.kd) (j := 0) rfl
  have x1 := d0.cell (.tail _ (.head _)) (v := .int .i64 n.l) (j := 1) rfl
  have x2 := d0.cell (.tail _ (.head _)) (v := .int .i64 n.r) (j := 2) rfl
  have x3 := d0.cell (.tail _ (.head _)) (v := .int .i64 n.lc) (j := 3) rfl
  have x4 := d0.cell (.tail _ (.head _)) (v := .int .i64 n.rc) (j := 4) rfl
  have x101 := d0.cell (.tail _ (.head _)) (ndC_v ok (.slice s1 n.vs.length c1))
  have xls := d0.rng (.tail _ (.head _)) (ndC_ls ok (.slice s1 n.vs.length c1))
  have xrs := d0.rng (.tail _ (.head _)) (ndC_rs ok (.slice s1 n.vs.length c1))
  have xk := d0.rng (.tail _ (.head _)) (ndC_k ok (.slice s1 n.vs.length c1))
  have y0 := d0.cell (.head _) (v := .int .i64 n.kd) (j := 0) rfl
  have y1 := d0.cell (.head _) (v := .int .i64 n.l) (j := 1) rfl
  have y2 := d0.cell (.head _) (v := .int .i64 n.r) (j := 2) rfl
  have y3 := d0.cell (.head _) (v := .int .i64 n.lc) (j := 3) rfl
  have y4 := d0.cell (.head _) (v := .int .i64 n.rc) (j := 4) rfl
  have y101 := d0.cell (.head _) (ndC_v ok (.slice s2 n.vs.length c2))
  have yls := d0.rng (.head _) (ndC_ls ok (.slice s2 n.vs.length c2))
  have yrs := d0.rng (.head _) (ndC_rs ok (.slice s2 n.vs.length c2))
  have yk := d0.rng (.head _) (ndC_k ok (.slice s2 n.vs.length c2))
  have S1 := hid (h1.below d0.1 (Nat.le_refl _))
  have S2 := hid (h2.below d0.1 (Nat.le_refl _))
  generalize ndC n (.slice s1 n.vs.length c1) = N1 at *
  generalize ndC n (.slice s2 n.vs.length c2) = N2 at *
  generalize ints .u8 n.ls = IL at *
  generalize ints .u8 n.rs = IR at *
  generalize ints .u8 n.k = IK at *
  generalize n.kd = vk at *
  generalize n.l = vl at *
  generalize n.r = vr at *
  generalize n.lc = vlc at *
  generalize n.rc = vrc at *
  go_enter Tryd.func18, Tryd.ntmps18
  go_wp2_with (first
    | refine wpList_load_mid_w (by rfl) 27 _ (by rfl) w.heap.size 5 (by rfl) _ _ xls Tryd.underlying27 rfl SL.out ?_
    | refine wpList_load_mid_w (by rfl) 27 _ (by rfl) w.heap.size 37 (by rfl) _ _ xrs Tryd.underlying27 rfl SR.out ?_
    | refine wpList_load_mid_w (by rfl) 26 _ (by rfl) w.heap.size 69 (by rfl) _ _ xk Tryd.underlying26 rfl SK.out ?_
    | refine wpList_load_mid_w (by rfl) 27 _ (by rfl) (w.heap.size + 1) 5 (by rfl) _ _ yls Tryd.underlying27 rfl SL.out ?_
    | refine wpList_load_mid_w (by rfl) 27 _ (by rfl) (w.heap.size + 1) 37 (by rfl) _ _ yrs Tryd.underlying27 rfl SR.out ?_
    | refine wpList_load_mid_w (by rfl) 26 _ (by rfl) (w.heap.size + 1) 69 (by rfl) _ _ yk Tryd.underlying26 rfl SK.out ?_)
  refine (KS.out _ S1.out S2.out).mono ?_
  rintro e w1 ⟨rfl, hb1⟩
  have d1 := d0.call hb1
  go_wp2
  go_ret
  exact ⟨rfl, d1.1⟩
theorem opC_nd {o : NOp} (h : NOk o) (j : Nat) (v : Value) (hv : o.nd[j]? = some v) : (opC o)[101 + j]? = some v := by
  have := mid_at ([.int .i64 o.kd, .int .i64 o.wd, .int .i64 o.n, .int .i64 o.m] ++ (ints .u8 o.k ++ (ints .u8 o.d ++ (ints .u8 o.e ++ [o.v])))) o.nd [] 101 j (by simp [ints_len, h.k, h.d, h.e]) v hv
  simp only [List.append_nil, List.append_assoc] at this
  exact this
theorem BK.setc {w0 w : World} {L : List (Nat × List Value × Nat)} {b t : Nat} {D : List Value} (h : BK w0 w ((b, D, t) :: L)) (hb : w0.heap.size ≤ b) (hL : ∀ x, x ∈ L → x.1 ≠ b) (j : Nat) (v : Value) : BK w0 (w.setCell ⟨b, j, none⟩ v) ((b, D.set j v, t) :: L) := by
  refine ⟨h.1.setCell (p := ⟨b, j, none⟩) hb _, fun y hy => ?_⟩
  rcases List.mem_cons.1 hy with rfl | hy
  · show (w.setCell ⟨b, j, none⟩ v).heap[b]? = _
    rw [heap_setCell_same _ _ _ _ _ _ (h.row (.head _))]
    simp
  · exact heap_set_far (h.2 y (.tail _ hy)) _ _ (hL y hy)
set_option maxRecDepth 100000 in
set_option maxHeartbeats 4000000 in
theorem value_enc (w : World) (o : NOp) (ok : NOk o) (hkd : o.kd = 1) (m : Nd) (hm : NdOk m) (vv : Value) (hvv : vv.oneCell' = true) (hnd : o.nd = ndC m vv) (xs : List Int) (yx : Bys xs) (gl : Nat) (spv : Option Addr) (capv : Nat) (hL : Src w (some ⟨gl, 0, none⟩) (xs.length + 100) (full xs)) (hI : Src w spv capv xs) (hnv : spv = none → capv = 0) (hlen : xs.length ≤ 140737488351232) :
    Calls Tryd.prog 10 #[.agg (opC o).toArray, .slice (some ⟨gl, 0, none⟩) (xs.length + 100) (xs.length + 100), .slice spv xs.length capv] w fun e w' => e = .returned (.bool true) ∧ Below w.heap.size w w' := by
  have d0 := (BK.nil w).alloc (opC o) 32
  have c0 := d0.cell (.head _) (v := .int .i64 o.kd) (j := 0) rfl
  rw [hkd] at c0
  have hF := Src.front hL
  have KR := hid (fun w1 (hb : Below w.heap.size w w1) => roomyIs_any w1 xs (some ⟨gl, 0, none⟩) spv (xs.length + 100) capv (hL.below hb (Nat.le_refl _)) (hI.below hb (Nat.le_refl _)) hlen)
  have NE := hid (show ∀ j v, o.nd[j]? = some v → (opC o)[101 + j]? = some v from fun j v hv => opC_nd ok j v hv)
  have okm : NdOk ⟨m.kd, m.l, m.r, m.lc, m.rc, m.ls, m.rs, m.k, xs⟩ := ⟨hm.ls, hm.rs, hm.k⟩
  have KE := hid (fun w1 (hb : Below w.heap.size w w1) => encode_any w1 ⟨m.kd, m.l, m.r, m.lc, m.rc, m.ls, m.rs, m.k, xs⟩ okm (some ⟨gl, 0, none⟩) (xs.length + 100) (hF.below hb (Nat.le_refl _)) (fun h => by cases h))
  have KX := hid (fun w1 (hb : Below w.heap.size w w1) => xencode_any w1 ⟨m.kd, m.l, m.r, m.lc, m.rc, m.ls, m.rs, m.k, xs⟩ okm spv capv (hI.below hb (Nat.le_refl _)))
  rw [show ∀ v, ndC ⟨m.kd, m.l, m.r, m.lc, m.rc, m.ls, m.rs, m.k, xs⟩ v = ndC m v from fun _ => rfl] at KE KX
  simp only at KE KX
  have AN := hid allocNd
  have L0 := hid (show (ndC nd0 (.slice none 0 0)).length = 102 from rfl)
  have LM := hid (fun v => ndC_len hm v)
  have OM := hid (fun v (h : v.oneCell' = true) => ndC_one m v h)
  have V1 := hid (fun v => ndC_v hm v)
  have SV := hid (fun v u => ndC_setv hm v u)
  have SN := hid (show (Tryd.prog.info? 30).map (·.size) = some o.nd.length by rw [Tryd.sizeNd, hnd, ndC_len hm])
  have KS := hid (fun w1 s1 c1 s2 c2 (h1 : Src w1 s1 c1 (encL ⟨m.kd, m.l, m.r, m.lc, m.rc, m.ls, m.rs, m.k, xs⟩)) (h2 : Src w1 s2 c2 (encL ⟨m.kd, m.l, m.r, m.lc, m.rc, m.ls, m.rs, m.k, xs⟩)) => same_self w1 _ s1 s2 c1 c2 h1 h2)
  generalize encL ⟨m.kd, m.l, m.r, m.lc, m.rc, m.ls, m.rs, m.k, xs⟩ = EL at *
  generalize encE ⟨m.kd, m.l, m.r, m.lc, m.rc, m.ls, m.rs, m.k, xs⟩ = EE at *
  generalize ndC m = NF at *
  generalize opC o = OC at *
  rw [hnd] at NE SN
  have HLn := hid hlen
  generalize hn : xs.length = n at *
  have i0 : (n : Int) ≤ 140737488351232 := by omega
  clear hn hkd hnd
  have rn := d0.rng (.head _) NE.out
  have hs0 : (w.alloc (.cells OC.toArray 32)).heap.size = w.heap.size + 1 := by simp
  go_enter Tryd.func10, Tryd.ntmps10
  go_wp2_with (first
    | refine wpList_load_mid_w (by rfl) 30 _ (by rfl) w.heap.size 101 (by rfl) _ _ rn Tryd.underlying30 rfl SN.out ?_
    | (refine wpList_new AN.out L0.out Tryd.sizeNd rfl rfl rfl _ _ rfl rfl (NF vv) rfl rfl (LM.out _) (OM.out _ hvv) ?_; refine Hid.out ?_))
  refine hid ?_
  have d1 := d0.alloc (NF vv) 30
  rw [hs0] at d1
  have hs1 : ((w.alloc (.cells OC.toArray 32)).alloc (.cells (NF vv).toArray 30)).heap.size = w.heap.size + 2 := by simp
  try simp only [hs0]
  generalize (w.alloc (.cells OC.toArray 32)).alloc (.cells (NF vv).toArray 30) = w1 at *
  have cA := d1.cell (.head _) (V1.out vv)
  have fA : w1.frozen? ⟨w.heap.size + 1, 101, none⟩ = false := frozen_of_row _ _ _ _ _ (d1.row (.head _))
  have d2 := d1.setc (by omega) (by intro x hx; simp only [List.mem_cons, List.not_mem_nil, or_false] at hx; subst hx; simp) 101 (.slice (some ⟨gl, 0, none⟩) n (n + 100))
  rw [SV.out] at d2
  have rn := d2.rng (.tail _ (.head _)) NE.out
  have hs2 : (w1.setCell ⟨w.heap.size + 1, 101, none⟩ (.slice (some ⟨gl, 0, none⟩) n (n + 100))).heap.size = w.heap.size + 2 := by rw [World.size_setCell, hs1]
  go_wp2_with (first
    | refine wpList_load_mid_w (by rfl) 30 _ (by rfl) w.heap.size 101 (by rfl) _ _ rn Tryd.underlying30 rfl SN.out ?_
    | (refine wpList_new AN.out L0.out Tryd.sizeNd rfl rfl rfl _ _ rfl rfl (NF vv) rfl rfl (LM.out _) (OM.out _ hvv) ?_; refine Hid.out ?_))
  refine hid ?_
  have d3 := d2.alloc (NF vv) 30
  rw [hs2] at d3
  try simp only [hs2]
  generalize (w1.setCell ⟨w.heap.size + 1, 101, none⟩ (.slice (some ⟨gl, 0, none⟩) n (n + 100))).alloc (.cells (NF vv).toArray 30) = w2 at *
  have cB := d3.cell (.head _) (V1.out vv)
  have fB : w2.frozen? ⟨w.heap.size + 2, 101, none⟩ = false := frozen_of_row _ _ _ _ _ (d3.row (.head _))
  have d4 := d3.setc (by omega) (by intro x hx; simp only [List.mem_cons, List.not_mem_nil, or_false] at hx; rcases hx with rfl | rfl <;> simp) 101 (.slice spv n capv)
  rw [SV.out] at d4
  have rA := d4.row (.tail _ (.head _))
  have SA := hid (fun v => show (Tryd.prog.info? 30).map (·.size) = some (NF v).toArray.size by rw [Tryd.sizeNd, List.size_toArray, LM.out])
  go_wp2_with (first
    | refine wpList_load_row_w (by rfl) 30 _ (by rfl) _ (by rfl) 30 _ _ _ rA Tryd.underlying30 rfl (SA.out _) ?_)
  refine (KE.out _ d4.1).mono ?_
  rintro e w5 ⟨v5, rfl, hO5, hb5⟩
  obtain ⟨s5, c5, rfl, S5, n5⟩ := hO5.form
  have d5 := d4.call hb5
  have rB := d5.row (.head _)
  go_wp2_with (first
    | refine wpList_load_row_w (by rfl) 30 _ (by rfl) _ (by rfl) 30 _ _ _ rB Tryd.underlying30 rfl (SA.out _) ?_)
  refine (KX.out _ d5.1).mono ?_
  rintro e w6 ⟨v6, rfl, hO6, hb6⟩
  obtain ⟨s6, c6, rfl, S6, n6⟩ := hO6.form
  have d6 := d5.call hb6
  have S5 := S5.below hb6 (Nat.le_refl _)
  go_wp2_with fail
  refine (KS.out _ _ _ _ _ S5 S6).mono ?_
  rintro e w7 ⟨rfl, hb7⟩
  have d7 := d6.call hb7
  go_wp2_with fail
  refine (KR.out _ d7.1).mono ?_
  rintro e wz ⟨rfl, hbz⟩
  have dz := d7.call hbz
  go_wp2
  go_ret
  exact ⟨rfl, dz.1⟩
set_option maxRecDepth 100000 in
set_option maxHeartbeats 4000000 in
theorem value_dec (w : World) (o : NOp) (ok : NOk o) (hkd : o.kd = 2) (xs : List Int) (yx : Bys xs) (gl : Nat) (spv : Option Addr) (capv : Nat) (hL : Src w (some ⟨gl, 0, none⟩) (xs.length + 100) (full xs)) (hI : Src w spv capv xs) (hnv : spv = none → capv = 0) (hlen : xs.length ≤ 140737488351232) :
    Calls Tryd.prog 10 #[.agg (opC o).toArray, .slice (some ⟨gl, 0, none⟩) (xs.length + 100) (xs.length + 100), .slice spv xs.length capv] w fun e w' => e = .returned (.bool true) ∧ Below w.heap.size w w' := by
  have d0 := (BK.nil w).alloc (opC o) 32
  have c0 := d0.cell (.head _) (v := .int .i64 o.kd) (j := 0) rfl
  rw [hkd] at c0
  have hF := Src.front hL
  have KR := hid (fun w1 (hb : Below w.heap.size w w1) => roomyIs_any w1 xs (some ⟨gl, 0, none⟩) spv (xs.length + 100) capv (hL.below hb (Nat.le_refl _)) (hI.below hb (Nat.le_refl _)) hlen)
  have CN := hid (show (opC o)[2]? = some (.int .i64 o.n) from rfl)
  have c2 := d0.cell (.head _) CN.out
  have KD := hid (fun w1 (hb : Below w.heap.size w w1) => decode_any w1 o.n xs yx (some ⟨gl, 0, none⟩) (xs.length + 100) (hF.below hb (Nat.le_refl _)))
  have KX := hid (fun w1 (hb : Below w.heap.size w w1) => xdecode_any w1 o.n xs yx spv capv (hI.below hb (Nat.le_refl _)))
  unfold DecP at KD KX
  have hdv := decV_ok o.n xs
  generalize decV o.n xs = M at *
  generalize decE o.n xs = EE at *
  have AN := hid allocNd
  have L0 := hid (show (ndC nd0 (.slice none 0 0)).length = 102 from rfl)
  have LM := hid (fun v => ndC_len hdv v)
  have OM := hid (fun s n c => ndC_one M (.slice s n c) rfl)
  have KSN := hid (fun w1 s1 c1 s2 c2 (h1 : Src w1 s1 c1 M.vs) (h2 : Src w1 s2 c2 M.vs) => sameNode_self w1 M hdv s1 s2 c1 c2 h1 h2)
  have SA := hid (fun v => show (Tryd.prog.info? 30).map (·.size) = some (ndC M v).toArray.size by rw [Tryd.sizeNd, List.size_toArray, LM.out])
  generalize ndC M = NF at *
  generalize opC o = OC at *
  generalize o.n = vn at *
  have HLn := hid hlen
  generalize hn : xs.length = n at *
  have i0 : (n : Int) ≤ 140737488351232 := by omega
  clear hn hkd
  go_enter Tryd.func10, Tryd.ntmps10
  go_wp2_with fail
  refine (KD.out _ d0.1).mono ?_
  rintro e w1 ⟨s1, c1, rfl, hO1, hb1⟩
  obtain ⟨s1', c1', q1, S1, n1⟩ := hO1.form
  cases q1
  have d1 := d0.call hb1
  go_wp2_with (first
    | (refine wpList_new AN.out L0.out Tryd.sizeNd rfl rfl rfl _ _ rfl rfl (NF (.slice s1 M.vs.length c1)) rfl rfl (LM.out _) (OM.out _ _ _) ?_; refine Hid.out ?_))
  refine hid ?_
  have d2 := d1.alloc (NF (.slice s1 M.vs.length c1)) 30
  have bl2 : Below w1.heap.size w1 (w1.alloc (.cells (NF (.slice s1 M.vs.length c1)).toArray 30)) := (Below.refl _ _).alloc (Nat.le_refl _) _
  have S1 := S1.below bl2 (Nat.le_refl _)
  generalize w1.alloc (.cells (NF (.slice s1 M.vs.length c1)).toArray 30) = w2 at *
  generalize w1.heap.size = g1 at *
  clear bl2 hO1
  have c2 := d2.cell (.tail _ (.head _)) CN.out
  go_wp2_with fail
  refine (KX.out _ d2.1).mono ?_
  rintro e w3 ⟨s3, c3, rfl, hO3, hb3⟩
  obtain ⟨s3', c3', q3, S3, n3⟩ := hO3.form
  cases q3
  have d3 := d2.call hb3
  have S1 := S1.below hb3 (Nat.le_refl _)
  go_wp2_with (first
    | (refine wpList_new AN.out L0.out Tryd.sizeNd rfl rfl rfl _ _ rfl rfl (NF (.slice s3 M.vs.length c3)) rfl rfl (LM.out _) (OM.out _ _ _) ?_; refine Hid.out ?_))
  refine hid ?_
  have d4 := d3.alloc (NF (.slice s3 M.vs.length c3)) 30
  have bl4 : Below w3.heap.size w3 (w3.alloc (.cells (NF (.slice s3 M.vs.length c3)).toArray 30)) := (Below.refl _ _).alloc (Nat.le_refl _) _
  have S1 := S1.below bl4 (Nat.le_refl _)
  have S3 := S3.below bl4 (Nat.le_refl _)
  generalize w3.alloc (.cells (NF (.slice s3 M.vs.length c3)).toArray 30) = w4 at *
  generalize w3.heap.size = g3 at *
  clear bl4 hO3
  have r3 := d4.row (.head _)
  have r1 := d4.row (.tail _ (.head _))
  go_wp2_with (first
    | refine wpList_load_row_w (by rfl) 30 _ (by rfl) g1 (by rfl) 30 _ _ _ r1 Tryd.underlying30 rfl (SA.out _) ?_
    | refine wpList_load_row_w (by rfl) 30 _ (by rfl) g3 (by rfl) 30 _ _ _ r3 Tryd.underlying30 rfl (SA.out _) ?_)
  refine (KSN.out _ _ _ _ _ S1 S3).mono ?_
  rintro e w5 ⟨rfl, hb5⟩
  have d5 := d4.call hb5
  go_wp2_with fail
  refine (KR.out _ d5.1).mono ?_
  rintro e wz ⟨rfl, hbz⟩
  have dz := d5.call hbz
  go_wp2
  go_ret
  exact ⟨rfl, dz.1⟩
end Go.Proofs.YtipbbmbkjcpjbaaDoor
