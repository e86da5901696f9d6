import Derived.Test.YtipbbmbkjcpjbaaDoorPb9
namespace Go.Proofs.YtipbbmbkjcpjbaaDoor
set_option linter.unusedVariables false
set_option linter.unusedSimpArgs false
open Go.RowKit
attribute [local go_sem ↓] Go.wp_at_zero Go.wp_at_succ

set_option maxRecDepth 100000 in
set_option maxHeartbeats 2000000 in
theorem xnumber_any (w : World) (t : List Int) (hy : Bys t) (a : Nat) (h4 : a + 4 ≤ t.length) (ha : a ≤ 1000) (sp : Option Addr) (cap : Nat) (hS : Src w sp cap t) :
    Calls Tryd.prog 37 #[.slice sp t.length cap, .int .i64 a] w fun e w' => e = .returned (.int .i64 (numP t a)) ∧ Below w.heap.size w w' := by
  obtain ⟨hc, hm, b, o, hb, hsp, hsrc⟩ := hS
  obtain rfl := hsp (by omega)
  have c0 := hsrc a (by omega)
  have c1 := hsrc (a + 1) (by omega)
  have c2 := hsrc (a + 2) (by omega)
  have c3 := hsrc (a + 3) (by omega)
  have b0 := hy.at a (by omega)
  have b1 := hy.at (a + 1) (by omega)
  have b2 := hy.at (a + 2) (by omega)
  have b3 := hy.at (a + 3) (by omega)
  have HE := hid (show numP t a = t.getD a 0 + 256 * t.getD (a + 1) 0 + 65536 * t.getD (a + 2) 0 + 16777216 * t.getD (a + 3) 0 from rfl)
  clear hsrc
  generalize t.getD a 0 = x0 at *
  generalize t.getD (a + 1) 0 = x1 at *
  generalize t.getD (a + 2) 0 = x2 at *
  generalize t.getD (a + 3) 0 = x3 at *
  have i4 : (a : Int) + 3 < (t.length : Int) := by omega
  have i5 : (a : Int) ≤ 1000 := by omega
  have i6 : (a : Int) < (t.length : Int) := by omega
  have i7 : (a : Int) + 1 < (t.length : Int) := by omega
  have i8 : (a : Int) + 2 < (t.length : Int) := by omega
  generalize t.length = n at *
  go_enter Tryd.func37, Tryd.ntmps37
  go_wp2
  go_quiet (fail)
  go_wp2
  go_ret
  refine ⟨?_, below_drewN (Below.refl _ _) _⟩
  rw [HE.out]
  rfl
theorem mid_set9 (A B C : List Value) (m j : Nat) (hm : A.length = m) (v : Value) (hj : j < B.length) : (A ++ (B ++ C)).set (m + j) v = A ++ (B.set j v ++ C) := by
  subst hm
  rw [List.set_append_right _ _ (by omega), show A.length + j - A.length = j by omega, List.set_append_left _ _ hj]
theorem ints_lset (zs : List Int) (j : Nat) (y : Int) : (ints .u8 zs).set j (.int .u8 y) = ints .u8 (zs.set j y) := by simp [ints, List.map_set]
theorem ndC_setls {n : Nd} (h : NdOk n) (v : Value) (j : Nat) (y : Int) (hj : j < 32) : (ndC n v).set (5 + j) (.int .u8 y) = ndC { n with ls := n.ls.set j y } v := by
  have := mid_set9 [.int .i64 n.kd, .int .i64 n.l, .int .i64 n.r, .int .i64 n.lc, .int .i64 n.rc] (ints .u8 n.ls) (ints .u8 n.rs ++ (ints .u8 n.k ++ [v])) 5 j rfl (.int .u8 y) (by rw [ints_len, h.ls]; exact hj)
  rw [ints_lset] at this; exact this
theorem ndC_setrs {n : Nd} (h : NdOk n) (v : Value) (j : Nat) (y : Int) (hj : j < 32) : (ndC n v).set (37 + j) (.int .u8 y) = ndC { n with rs := n.rs.set j y } v := by
  have := mid_set9 ([.int .i64 n.kd, .int .i64 n.l, .int .i64 n.r, .int .i64 n.lc, .int .i64 n.rc] ++ ints .u8 n.ls) (ints .u8 n.rs) (ints .u8 n.k ++ [v]) 37 j (by simp [ints_len, h.ls]) (.int .u8 y) (by rw [ints_len, h.rs]; exact hj)
  rw [ints_lset, List.append_assoc, List.append_assoc] at this; exact this
theorem ndC_setk {n : Nd} (h : NdOk n) (v : Value) (j : Nat) (y : Int) (hj : j < 32) : (ndC n v).set (69 + j) (.int .u8 y) = ndC { n with k := n.k.set j y } v := by
  have := mid_set9 ([.int .i64 n.kd, .int .i64 n.l, .int .i64 n.r, .int .i64 n.lc, .int .i64 n.rc] ++ (ints .u8 n.ls ++ ints .u8 n.rs)) (ints .u8 n.k) [v] 69 j (by simp [ints_len, h.ls, h.rs]) (.int .u8 y) (by rw [ints_len, h.k]; exact hj)
  rw [ints_lset, List.append_assoc, List.append_assoc, List.append_assoc, List.append_assoc] at this; exact this
theorem ndC_setv {n : Nd} (h : NdOk n) (v u : Value) : (ndC n v).set 101 u = ndC n u := by
  have := mid_set9 ([.int .i64 n.kd, .int .i64 n.l, .int .i64 n.r, .int .i64 n.lc, .int .i64 n.rc] ++ (ints .u8 n.ls ++ (ints .u8 n.rs ++ ints .u8 n.k))) [v] [] 101 0 (by simp [ints_len, h.ls, h.rs, h.k]) u (by simp)
  rw [List.append_nil, List.append_assoc, List.append_assoc, List.append_assoc, List.append_assoc] at this
  simpa [ndC] using this
theorem bk_setc {w0 w : World} {b g t : Nat} {D C : List Value} {u : Nat} (h : BK w0 w [(g, C, u), (b, D, t)]) (hb : w0.heap.size ≤ b) (hne : g ≠ b) (j : Nat) (x : Value) : BK w0 (w.setCell ⟨b, j, none⟩ x) [(g, C, u), (b, D.set j x, t)] := by
  refine ⟨h.1.setCell (p := ⟨b, j, none⟩) hb _, fun y hy => ?_⟩
  rcases List.mem_cons.1 hy with rfl | hy
  · exact heap_set_far (h.row (.head _)) _ _ hne
  · rcases List.mem_cons.1 hy with rfl | hy
    · show (w.setCell ⟨b, j, none⟩ x).heap[b]? = _
      rw [heap_setCell_same _ _ _ _ _ _ (h.row (.tail _ (.head _)))]
      simp
    · cases hy
theorem BK.up2 {w0 w w' : World} {B b c t u : Nat} {zs ys : List Value} (h : BK w0 w [(b, zs, t), (c, ys, u)]) (hb : Below B w w') (hg : b < B) (hc : c < B) (hB : w0.heap.size ≤ B) : BK w0 w' [(b, zs, t), (c, ys, u)] :=
  ⟨h.1.trans (hb.mono hB), fun x hx => by
    rcases List.mem_cons.1 hx with rfl | hx
    · exact hbel hb (h.row (.head _)) hg
    · rcases List.mem_cons.1 hx with rfl | hx
      · exact hbel hb (h.row (.tail _ (.head _))) hc
      · cases hx⟩
theorem built_ndK (k : Int) : Tryd.prog.built 30 [(0, .int .i64 k)] = some (ndC { nd0 with kd := k } (.slice none 0 0)).toArray := by kernel_rfl
def kN (t : List Int) (i : Nat) : Nd := { nd0 with kd := 1, k := overTo (t.take 32) zD i }
theorem kN_ok (t : List Int) (h : 32 ≤ t.length) (i : Nat) (hi : i ≤ 32) : NdOk (kN t i) := ⟨rfl, rfl, by unfold kN; simp only; rw [overTo_len _ _ _ (by rw [zD_len]; simp; omega) (by rw [zD_len]; exact hi)]; rfl⟩
theorem kN_set (t : List Int) (h : 32 ≤ t.length) (i : Nat) (hi : i < 32) : { kN t i with k := (kN t i).k.set i (t.getD i 0) } = kN t (i + 1) := by
  have e : t.getD i 0 = (t.take 32)[i]?.getD 0 := by rw [List.getElem?_take, if_pos hi, List.getD_eq_getElem?_getD]
  unfold kN
  simp only
  rw [e, overTo_set _ _ _ (by rw [zD_len]; simp; omega) (by rw [zD_len]; exact hi)]
theorem kN_end (t : List Int) (h : 32 ≤ t.length) : kN t 32 = ⟨1, 0, 0, 0, 0, zD, zD, t.take 32, []⟩ := by
  have := overTo_all (t.take 32) zD (by rw [zD_len]; simp; omega)
  rw [zD_len] at this
  unfold kN; rw [this]; rfl
def bN (t : List Int) (i : Nat) : Nd := ⟨2, numP t 0, numP t 4, numP t 8, numP t 12, overTo ((t.drop 16).take 32) zD i, overTo ((t.drop 48).take 32) zD i, zD, []⟩
theorem bN_ok (t : List Int) (h : t.length = 80) (i : Nat) (hi : i ≤ 32) : NdOk (bN t i) :=
  ⟨by unfold bN; simp only; rw [overTo_len _ _ _ (by rw [zD_len]; simp; omega) (by rw [zD_len]; exact hi)]; rfl, by unfold bN; simp only; rw [overTo_len _ _ _ (by rw [zD_len]; simp; omega) (by rw [zD_len]; exact hi)]; rfl, rfl⟩
theorem bN_set (t : List Int) (h : t.length = 80) (i : Nat) (hi : i < 32) : { bN t i with ls := (bN t i).ls.set i (t.getD (16 + i) 0), rs := (bN t i).rs.set i (t.getD (48 + i) 0) } = bN t (i + 1) := by
  have e1 : t.getD (16 + i) 0 = ((t.drop 16).take 32)[i]?.getD 0 := by rw [List.getElem?_take, if_pos hi, List.getElem?_drop, List.getD_eq_getElem?_getD]
  have e2 : t.getD (48 + i) 0 = ((t.drop 48).take 32)[i]?.getD 0 := by rw [List.getElem?_take, if_pos hi, List.getElem?_drop, List.getD_eq_getElem?_getD]
  unfold bN
  simp only
  rw [e1, e2, overTo_set _ _ _ (by rw [zD_len]; simp; omega) (by rw [zD_len]; exact hi), overTo_set _ _ _ (by rw [zD_len]; simp; omega) (by rw [zD_len]; exact hi)]
theorem bN_end (t : List Int) (h : t.length = 80) : bN t 32 = readB t := by
  have h1 := overTo_all ((t.drop 16).take 32) zD (by rw [zD_len]; simp; omega)
  have h2 := overTo_all ((t.drop 48).take 32) zD (by rw [zD_len]; simp; omega)
  rw [zD_len] at h1 h2
  unfold bN readB; rw [h1, h2]
set_option maxRecDepth 100000 in
set_option maxHeartbeats 2000000 in
theorem xdec_s (w : World) (t : List Int) (sp : Option Addr) (cap : Nat) (hm : t.length ≤ 9223372036854775807) (h : t.length < 32) :
    Calls Tryd.prog 17 #[.int .i64 1, .slice sp t.length cap] w (DecP w 1 t) := by
  have AN := hid allocNd
  have BZ := hid built_nd0
  have L0 := hid (show (ndC nd0 (.slice none 0 0)).length = 102 from rfl)
  have O0 := hid (ndC_one nd0 (.slice none 0 0) rfl)
  have FB := hid (fun w' (hb : Below w.heap.size w w') => show DecP w 1 t (.returned (.tuple #[.agg (ndC nd0 (.slice none 0 0)).toArray, .int .i64 90])) w' from
    have e1 : decN 1 t = none := by unfold decN; rw [if_neg (by rintro ⟨_, q, _⟩; omega), if_neg (by rintro ⟨q, _⟩; omega)]
    have e2 : decV 1 t = nd0 := by unfold decV; rw [e1]; rfl
    have e3 : decE 1 t = 90 := by unfold decE; rw [e1]; rfl
    ⟨none, 0, by rw [e2, e3]; rfl, by rw [e2]; exact Own.nil _ _, hb⟩)
  have BN := hid (built_ndK 1)
  have LN := hid (ndC_len (n := { nd0 with kd := 1 }) ⟨rfl, rfl, rfl⟩ (.slice none 0 0))
  have ON := hid (ndC_one { nd0 with kd := 1 } (.slice none 0 0) rfl)
  have d0 := ((BK.nil w).alloc (ndC nd0 (.slice none 0 0)) 30).alloc (ndC { nd0 with kd := 1 } (.slice none 0 0)) 30
  rw [show (w.alloc (.cells (ndC nd0 (.slice none 0 0)).toArray 30)).heap.size = w.heap.size + 1 by simp] at d0
  have hz2 : ((w.alloc (.cells (ndC nd0 (.slice none 0 0)).toArray 30)).alloc (.cells (ndC { nd0 with kd := 1 } (.slice none 0 0)).toArray 30)).heap.size = w.heap.size + 2 := by simp
  replace d0 : BK w _ [(w.heap.size, ndC nd0 (.slice none 0 0), 30), (w.heap.size + 1, ndC { nd0 with kd := 1 } (.slice none 0 0), 30)] := ⟨d0.1, fun x hx => d0.2 x (by simp only [List.mem_cons, List.not_mem_nil, or_false] at hx ⊢; exact hx.symm)⟩
  have i1 : (t.length : Int) < 32 := by omega
  generalize ndC { nd0 with kd := 1 } (.slice none 0 0) = NK at *
  generalize ndC nd0 (.slice none 0 0) = N0 at *
  go_enter Tryd.func17, Tryd.ntmps17
  have g0 := d0.row (.head _)
  go_wp2_with (first
    | refine wpList_new AN.out L0.out Tryd.sizeNd rfl rfl rfl _ _ rfl rfl NK rfl rfl LN.out ON.out ?_
    | refine wpList_allocV AN.out rfl rfl ?_
    | refine wpList_built (by rfl) 30 _ rfl _ rfl _ BN.out ?_
    | refine wpList_built (by rfl) 30 _ rfl _ rfl _ BZ.out ?_
    | refine wpList_store_row rfl 30 _ _ rfl w.heap.size N0.toArray rfl rfl 30 _ g0 (by rw [Tryd.sizeNd, List.size_toArray, L0.out]) rfl (all_oneCell_toArray O0.out) ?_)
  have d9 := d0.set (Nat.le_refl _) (by intro x hx; simp only [List.mem_cons, List.not_mem_nil, or_false] at hx; subst hx; simp) N0
  exact bodyPost_ret (v := .tuple #[.agg N0.toArray, .int .i64 90]) (results_c2 Tryd.results17 _ _ w.heap.size 30 _ _ _ rfl (d9.row (.head _)) Tryd.underlying30 rfl (by rw [Tryd.sizeNd, List.size_toArray, L0.out])) rfl (FB.out _ d9.1)
set_option maxRecDepth 100000 in
set_option maxHeartbeats 2000000 in
theorem xdec_l (w : World) (t : List Int) (sp : Option Addr) (cap : Nat) (hm : t.length ≤ 9223372036854775807) (h : 160 < t.length) :
    Calls Tryd.prog 17 #[.int .i64 1, .slice sp t.length cap] w (DecP w 1 t) := by
  have AN := hid allocNd
  have BZ := hid built_nd0
  have L0 := hid (show (ndC nd0 (.slice none 0 0)).length = 102 from rfl)
  have O0 := hid (ndC_one nd0 (.slice none 0 0) rfl)
  have FB := hid (fun w' (hb : Below w.heap.size w w') => show DecP w 1 t (.returned (.tuple #[.agg (ndC nd0 (.slice none 0 0)).toArray, .int .i64 90])) w' from
    have e1 : decN 1 t = none := by unfold decN; rw [if_neg (by rintro ⟨_, _, q⟩; omega), if_neg (by rintro ⟨q, _⟩; omega)]
    have e2 : decV 1 t = nd0 := by unfold decV; rw [e1]; rfl
    have e3 : decE 1 t = 90 := by unfold decE; rw [e1]; rfl
    ⟨none, 0, by rw [e2, e3]; rfl, by rw [e2]; exact Own.nil _ _, hb⟩)
  have BN := hid (built_ndK 1)
  have LN := hid (ndC_len (n := { nd0 with kd := 1 }) ⟨rfl, rfl, rfl⟩ (.slice none 0 0))
  have ON := hid (ndC_one { nd0 with kd := 1 } (.slice none 0 0) rfl)
  have d0 := ((BK.nil w).alloc (ndC nd0 (.slice none 0 0)) 30).alloc (ndC { nd0 with kd := 1 } (.slice none 0 0)) 30
  rw [show (w.alloc (.cells (ndC nd0 (.slice none 0 0)).toArray 30)).heap.size = w.heap.size + 1 by simp] at d0
  have hz2 : ((w.alloc (.cells (ndC nd0 (.slice none 0 0)).toArray 30)).alloc (.cells (ndC { nd0 with kd := 1 } (.slice none 0 0)).toArray 30)).heap.size = w.heap.size + 2 := by simp
  replace d0 : BK w _ [(w.heap.size, ndC nd0 (.slice none 0 0), 30), (w.heap.size + 1, ndC { nd0 with kd := 1 } (.slice none 0 0), 30)] := ⟨d0.1, fun x hx => d0.2 x (by simp only [List.mem_cons, List.not_mem_nil, or_false] at hx ⊢; exact hx.symm)⟩
  have i1 : (160 : Int) < (t.length : Int) := by omega
  have i2 : ¬ ((t.length : Int) < 32) := by omega
  have i3 : (t.length : Int) ≤ 9223372036854775807 := by omega
  generalize ndC { nd0 with kd := 1 } (.slice none 0 0) = NK at *
  generalize ndC nd0 (.slice none 0 0) = N0 at *
  go_enter Tryd.func17, Tryd.ntmps17
  have g0 := d0.row (.head _)
  go_wp2_with (first
    | refine wpList_new AN.out L0.out Tryd.sizeNd rfl rfl rfl _ _ rfl rfl NK rfl rfl LN.out ON.out ?_
    | refine wpList_allocV AN.out rfl rfl ?_
    | refine wpList_built (by rfl) 30 _ rfl _ rfl _ BN.out ?_
    | refine wpList_built (by rfl) 30 _ rfl _ rfl _ BZ.out ?_
    | refine wpList_store_row rfl 30 _ _ rfl w.heap.size N0.toArray rfl rfl 30 _ g0 (by rw [Tryd.sizeNd, List.size_toArray, L0.out]) rfl (all_oneCell_toArray O0.out) ?_)
  have d9 := d0.set (Nat.le_refl _) (by intro x hx; simp only [List.mem_cons, List.not_mem_nil, or_false] at hx; subst hx; simp) N0
  exact bodyPost_ret (v := .tuple #[.agg N0.toArray, .int .i64 90]) (results_c2 Tryd.results17 _ _ w.heap.size 30 _ _ _ rfl (d9.row (.head _)) Tryd.underlying30 rfl (by rw [Tryd.sizeNd, List.size_toArray, L0.out])) rfl (FB.out _ d9.1)
set_option maxRecDepth 100000 in
set_option maxHeartbeats 2000000 in
theorem xdec_n (w : World) (t : List Int) (sp : Option Addr) (cap : Nat) (hm : t.length ≤ 9223372036854775807) (h : ¬ t.length = 80) :
    Calls Tryd.prog 17 #[.int .i64 2, .slice sp t.length cap] w (DecP w 2 t) := by
  have AN := hid allocNd
  have BZ := hid built_nd0
  have L0 := hid (show (ndC nd0 (.slice none 0 0)).length = 102 from rfl)
  have O0 := hid (ndC_one nd0 (.slice none 0 0) rfl)
  have FB := hid (fun w' (hb : Below w.heap.size w w') => show DecP w 2 t (.returned (.tuple #[.agg (ndC nd0 (.slice none 0 0)).toArray, .int .i64 90])) w' from
    have e1 : decN 2 t = none := by unfold decN; rw [if_neg (by rintro ⟨q, _⟩; omega), if_neg (by rintro ⟨_, q, _⟩; omega)]
    have e2 : decV 2 t = nd0 := by unfold decV; rw [e1]; rfl
    have e3 : decE 2 t = 90 := by unfold decE; rw [e1]; rfl
    ⟨none, 0, by rw [e2, e3]; rfl, by rw [e2]; exact Own.nil _ _, hb⟩)
  have BN := hid (built_ndK 2)
  have LN := hid (ndC_len (n := { nd0 with kd := 2 }) ⟨rfl, rfl, rfl⟩ (.slice none 0 0))
  have ON := hid (ndC_one { nd0 with kd := 2 } (.slice none 0 0) rfl)
  have d0 := ((BK.nil w).alloc (ndC nd0 (.slice none 0 0)) 30).alloc (ndC { nd0 with kd := 2 } (.slice none 0 0)) 30
  rw [show (w.alloc (.cells (ndC nd0 (.slice none 0 0)).toArray 30)).heap.size = w.heap.size + 1 by simp] at d0
  have hz2 : ((w.alloc (.cells (ndC nd0 (.slice none 0 0)).toArray 30)).alloc (.cells (ndC { nd0 with kd := 2 } (.slice none 0 0)).toArray 30)).heap.size = w.heap.size + 2 := by simp
  replace d0 : BK w _ [(w.heap.size, ndC nd0 (.slice none 0 0), 30), (w.heap.size + 1, ndC { nd0 with kd := 2 } (.slice none 0 0), 30)] := ⟨d0.1, fun x hx => d0.2 x (by simp only [List.mem_cons, List.not_mem_nil, or_false] at hx ⊢; exact hx.symm)⟩
  have i1 : ¬ (t.length : Int) = 80 := by omega
  have i3 : (t.length : Int) ≤ 9223372036854775807 := by omega
  generalize ndC { nd0 with kd := 2 } (.slice none 0 0) = NK at *
  generalize ndC nd0 (.slice none 0 0) = N0 at *
  go_enter Tryd.func17, Tryd.ntmps17
  have g0 := d0.row (.head _)
  go_wp2_with (first
    | refine wpList_new AN.out L0.out Tryd.sizeNd rfl rfl rfl _ _ rfl rfl NK rfl rfl LN.out ON.out ?_
    | refine wpList_allocV AN.out rfl rfl ?_
    | refine wpList_built (by rfl) 30 _ rfl _ rfl _ BN.out ?_
    | refine wpList_built (by rfl) 30 _ rfl _ rfl _ BZ.out ?_
    | refine wpList_store_row rfl 30 _ _ rfl w.heap.size N0.toArray rfl rfl 30 _ g0 (by rw [Tryd.sizeNd, List.size_toArray, L0.out]) rfl (all_oneCell_toArray O0.out) ?_)
  have d9 := d0.set (Nat.le_refl _) (by intro x hx; simp only [List.mem_cons, List.not_mem_nil, or_false] at hx; subst hx; simp) N0
  exact bodyPost_ret (v := .tuple #[.agg N0.toArray, .int .i64 90]) (results_c2 Tryd.results17 _ _ w.heap.size 30 _ _ _ rfl (d9.row (.head _)) Tryd.underlying30 rfl (by rw [Tryd.sizeNd, List.size_toArray, L0.out])) rfl (FB.out _ d9.1)
set_option maxRecDepth 100000 in
set_option maxHeartbeats 2000000 in
theorem xdec_o (w : World) (k : Int) (t : List Int) (sp : Option Addr) (cap : Nat) (hm : t.length ≤ 9223372036854775807) (h1 : ¬ k = 1) (h2 : ¬ k = 2) :
    Calls Tryd.prog 17 #[.int .i64 k, .slice sp t.length cap] w (DecP w k t) := by
  have AN := hid allocNd
  have BZ := hid built_nd0
  have L0 := hid (show (ndC nd0 (.slice none 0 0)).length = 102 from rfl)
  have O0 := hid (ndC_one nd0 (.slice none 0 0) rfl)
  have FB := hid (fun w' (hb : Below w.heap.size w w') => show DecP w k t (.returned (.tuple #[.agg (ndC nd0 (.slice none 0 0)).toArray, .int .i64 90])) w' from
    have e1 : decN k t = none := by unfold decN; rw [if_neg (by rintro ⟨q, _⟩; exact h1 q), if_neg (by rintro ⟨q, _⟩; exact h2 q)]
    have e2 : decV k t = nd0 := by unfold decV; rw [e1]; rfl
    have e3 : decE k t = 90 := by unfold decE; rw [e1]; rfl
    ⟨none, 0, by rw [e2, e3]; rfl, by rw [e2]; exact Own.nil _ _, hb⟩)
  have BN := hid (built_ndK k)
  have LN := hid (ndC_len (n := { nd0 with kd := k }) ⟨rfl, rfl, rfl⟩ (.slice none 0 0))
  have ON := hid (ndC_one { nd0 with kd := k } (.slice none 0 0) rfl)
  have d0 := ((BK.nil w).alloc (ndC nd0 (.slice none 0 0)) 30).alloc (ndC { nd0 with kd := k } (.slice none 0 0)) 30
  rw [show (w.alloc (.cells (ndC nd0 (.slice none 0 0)).toArray 30)).heap.size = w.heap.size + 1 by simp] at d0
  have hz2 : ((w.alloc (.cells (ndC nd0 (.slice none 0 0)).toArray 30)).alloc (.cells (ndC { nd0 with kd := k } (.slice none 0 0)).toArray 30)).heap.size = w.heap.size + 2 := by simp
  replace d0 : BK w _ [(w.heap.size, ndC nd0 (.slice none 0 0), 30), (w.heap.size + 1, ndC { nd0 with kd := k } (.slice none 0 0), 30)] := ⟨d0.1, fun x hx => d0.2 x (by simp only [List.mem_cons, List.not_mem_nil, or_false] at hx ⊢; exact hx.symm)⟩
  generalize ndC { nd0 with kd := k } (.slice none 0 0) = NK at *
  generalize ndC nd0 (.slice none 0 0) = N0 at *
  go_enter Tryd.func17, Tryd.ntmps17
  have g0 := d0.row (.head _)
  go_wp2_with (first
    | refine wpList_new AN.out L0.out Tryd.sizeNd rfl rfl rfl _ _ rfl rfl NK rfl rfl LN.out ON.out ?_
    | refine wpList_allocV AN.out rfl rfl ?_
    | refine wpList_built (by rfl) 30 _ rfl _ rfl _ BN.out ?_
    | refine wpList_built (by rfl) 30 _ rfl _ rfl _ BZ.out ?_
    | refine wpList_store_row rfl 30 _ _ rfl w.heap.size N0.toArray rfl rfl 30 _ g0 (by rw [Tryd.sizeNd, List.size_toArray, L0.out]) rfl (all_oneCell_toArray O0.out) ?_)
  have d9 := d0.set (Nat.le_refl _) (by intro x hx; simp only [List.mem_cons, List.not_mem_nil, or_false] at hx; subst hx; simp) N0
  exact bodyPost_ret (v := .tuple #[.agg N0.toArray, .int .i64 90]) (results_c2 Tryd.results17 _ _ w.heap.size 30 _ _ _ rfl (d9.row (.head _)) Tryd.underlying30 rfl (by rw [Tryd.sizeNd, List.size_toArray, L0.out])) rfl (FB.out _ d9.1)
set_option maxRecDepth 100000 in
set_option maxHeartbeats 2000000 in
theorem xdec_leaf (w : World) (t : List Int) (hl : 32 ≤ t.length) (h5 : t.length ≤ 160) (b o cap : Nat) (hS : Src w (some ⟨b, o, none⟩) cap t) :
    Calls Tryd.prog 17 #[.int .i64 1, .slice (some ⟨b, o, none⟩) t.length cap] w (DecP w 1 t) := by
  have AN := hid allocNd
  have BZ := hid built_nd0
  have L0 := hid (show (ndC nd0 (.slice none 0 0)).length = 102 from rfl)
  have O0 := hid (ndC_one nd0 (.slice none 0 0) rfl)
  have FG := hid (fun w' (hb : Below w.heap.size w w') v (hO : Own w' w.heap.size v (t.drop 32)) => show DecP w 1 t (.returned (.tuple #[.agg (ndC (kN t 32) v).toArray, .int .i64 0])) w' from by
    obtain ⟨s, c, rfl, _, _⟩ := hO.form
    have e1 : decN 1 t = some (readL t) := by unfold decN; rw [if_pos ⟨rfl, by omega, by omega⟩]
    have e2 : decV 1 t = readL t := by unfold decV; rw [e1]; rfl
    have e3 : decE 1 t = 0 := by unfold decE; rw [e1]; rfl
    refine ⟨s, c, ?_, by rw [e2]; exact hO, hb⟩
    rw [e2, e3, kN_end t hl]
    rfl)
  have BN := hid (built_ndK 1)
  have LN := hid (ndC_len (n := { nd0 with kd := 1 }) ⟨rfl, rfl, rfl⟩ (.slice none 0 0))
  have ON := hid (ndC_one { nd0 with kd := 1 } (.slice none 0 0) rfl)
  have d0 := ((BK.nil w).alloc (ndC nd0 (.slice none 0 0)) 30).alloc (ndC { nd0 with kd := 1 } (.slice none 0 0)) 30
  rw [show (w.alloc (.cells (ndC nd0 (.slice none 0 0)).toArray 30)).heap.size = w.heap.size + 1 by simp] at d0
  have hz2 : ((w.alloc (.cells (ndC nd0 (.slice none 0 0)).toArray 30)).alloc (.cells (ndC { nd0 with kd := 1 } (.slice none 0 0)).toArray 30)).heap.size = w.heap.size + 2 := by simp
  replace d0 : BK w _ [(w.heap.size, ndC nd0 (.slice none 0 0), 30), (w.heap.size + 1, ndC { nd0 with kd := 1 } (.slice none 0 0), 30)] := ⟨d0.1, fun x hx => d0.2 x (by simp only [List.mem_cons, List.not_mem_nil, or_false] at hx ⊢; exact hx.symm)⟩
  have hb := hS.lt (by omega)
  have hsrc : ∀ j, j < t.length → w.cell? ⟨b, o + j, none⟩ = some (.int .u8 (t.getD j 0)) := by
    obtain ⟨_, _, b', o', _, h4, h5⟩ := hS
    have he := h4 (by omega)
    cases he
    exact h5
  have okk : ∀ k, k ≤ 32 → NdOk (kN t k) := fun k hk => kN_ok t hl k hk
  have sets : ∀ k, k < 32 → (ndC (kN t k) (.slice none 0 0)).set (69 + k) (.int .u8 (t.getD k 0)) = ndC (kN t (k + 1)) (.slice none 0 0) := fun k hk => by
    rw [ndC_setk (okk k (by omega)) _ k _ hk, kN_set t hl k hk]
  have LM := hid (fun v => ndC_len (okk 32 (by omega)) v)
  have OM := hid (fun v (hv : v.oneCell' = true) => ndC_one (kN t 32) v hv)
  have i1 : ¬ ((t.length : Int) < 32) := by omega
  have i2 : ¬ ((160 : Int) < (t.length : Int)) := by omega
  have d0' : BK w _ [(w.heap.size, ndC nd0 (.slice none 0 0), 30), (w.heap.size + 1, ndC (kN t 0) (.slice none 0 0), 30)] := d0
  clear d0
  have HD := hid (show (t.drop 32).take (t.length - 32) = t.drop 32 from List.take_of_length_le (by simp))
  have HTk := hid (fun k (h1 : 32 ≤ k) (h2 : k < t.length) => show (t.drop 32).take (k + 1 - 32) = (t.drop 32).take (k - 32) ++ [t.getD k 0] by
    rw [show k + 1 - 32 = (k - 32) + 1 by omega, List.take_succ_eq_append_getElem (by simp; omega), List.getElem_drop, List.getD_eq_getElem?_getD, List.getElem?_eq_getElem h2]
    congr 2
    simp only [show 32 + (k - 32) = k by omega]
    rfl)
  generalize ndC { nd0 with kd := 1 } (.slice none 0 0) = NK at *
  generalize ndC nd0 (.slice none 0 0) = N0 at *
  go_enter Tryd.func17, Tryd.ntmps17
  go_wp2_with (first
    | refine wpList_new AN.out L0.out Tryd.sizeNd rfl rfl rfl _ _ rfl rfl NK rfl rfl LN.out ON.out ?_
    | refine wpList_allocV AN.out rfl rfl ?_
    | refine wpList_built (by rfl) 30 _ rfl _ rfl _ BN.out ?_)
  generalize (w.alloc (.cells N0.toArray 30)).alloc (.cells NK.toArray 30) = w1 at *
  go_loopw [7] (fun i wr => ∃ k : Nat, k ≤ 32 ∧ i = .int .i64 k ∧ w.heap.size + 2 ≤ wr.heap.size ∧ BK w wr [(w.heap.size, N0, 30), (w.heap.size + 1, ndC (kN t k) (.slice none 0 0), 30)]) (fun i _ => 32 - (intOf i).toNat)
  case atStart => exact ⟨0, by omega, rfl, by omega, d0'⟩
  case round =>
    clear d0'
    obtain ⟨k, hk, rfl, hs, dr⟩ := hrel
    by_cases hlt : k < 32
    · have i3 : (k : Int) < 32 := by omega
      have i4 : (k : Int) < (t.length : Int) := by omega
      have cs := (dr.1.cell (p := ⟨b, o + k, none⟩) hb).trans (hsrc k (by omega))
      have cx := dr.cell (.tail _ (.head _)) (ndC_k (okk k hk) (.slice none 0 0) k _ (ints_get .u8 (kN t k).k k (by rw [(okk k hk).k]; exact hlt)))
      have fx : wr.frozen? ⟨w.heap.size + 1, 69 + k, none⟩ = false := frozen_of_row _ _ _ _ _ (dr.row (.tail _ (.head _)))
      have d2 := bk_setc dr (by omega) (by omega) (69 + k) (.int .u8 (t.getD k 0))
      rw [sets k hlt] at d2
      have hs2 : w.heap.size + 2 ≤ (wr.setCell ⟨w.heap.size + 1, 69 + k, none⟩ (.int .u8 (t.getD k 0))).heap.size := by rw [World.size_setCell]; exact hs
      generalize t.getD k 0 = x at *
      generalize (kN t k).k.getD k 0 = y at *
      go_wp2
      go_roundw
      case rel => exact ⟨k + 1, by omega, by go_num, hs2, d2⟩
      case measure => simp [intOf]; omega
    · have hk32 : k = 32 := by omega
      have i3 : ¬ ((k : Int) < 32) := by omega
      rw [hk32] at dr
      clear hlt hk32 hk
      have okN := okk 32 (by omega)
      go_wp2
      generalize hm : t.length = m at *
      have HM := hid hm
      clear hm
      go_loopw [8] (fun i wr => ∃ (k : Nat) (v : Value), 32 ≤ k ∧ k ≤ m ∧ i = .int .i64 k ∧ Own wr (w.heap.size + 2) v ((t.drop 32).take (k - 32)) ∧ w.heap.size + 2 ≤ wr.heap.size ∧ BK w wr [(w.heap.size, N0, 30), (w.heap.size + 1, ndC (kN t 32) v, 30)]) (fun i _ => m - (intOf i).toNat)
      case atStart => exact ⟨32, .slice none 0 0, by omega, by omega, rfl, Own.nil _ _, hs, dr⟩
      case round =>
        clear dr hs
        obtain ⟨k, v, hk1, hk, rfl, hO, hs, dr⟩ := hrel
        by_cases hlt : k < m
        · have i5 : (k : Int) < (m : Int) := by omega
          have cx := hsrc k hlt
          have HT := hid (HTk.out k hk1 hlt)
          have KL := hid (show ((t.drop 32).take (k - 32)).length + 1 ≤ 140737488351232 by rw [List.length_take, List.length_drop]; omega)
          generalize t.getD k 0 = x at *
          generalize (t.drop 32).take (k - 32) = Z at *
          have SX := hid (src_new wr.drew [x] 5 (0, 0) (by simp [maxLen]))
          have HB := hid (show w.heap.size + 2 ≤ (wr.drew.alloc (.cells #[.int .u8 x] 5)).heap.size by rw [World.size_alloc]; show w.heap.size + 2 ≤ wr.heap.size + 1; omega)
          have dd := dr.drew
          replace hO : Own wr.drew (w.heap.size + 2) v Z := hO
          go_wp2_with fail
          refine wp_region_noPanic ?_
          refine wp_region_held_drew (S := (fun w' => ∃ C, BK w w' [(w.heap.size, N0, 30), (w.heap.size + 1, ndC (kN t 32) C, 30)])) (by kernel_rfl) ⟨v, dr.drew⟩ (fun hHeld => ?_)
          refine wpAnyH_take (i := 0) (oi := { dst := some 41, op := Op.fieldAddr 30 (Operand.tmp 6) 8, type := 0, pos := "ref.go:215", after := #[], guard := none }) (v := .pointer (some ⟨(w.heap.size + 1), 101, none⟩)) rfl (by kernel_rfl) (by kernel_rfl) (by kernel_rfl) (fun _ _ _ h => h) (Or.inl ⟨by rfl, by intro w hS; go_simp⟩) hHeld ?_
          try simp only [Act.put, List.setIfInBounds_toArray, List.set_cons_zero, List.set_cons_succ]
          refine wpAnyH_take (i := 2) (oi := { dst := some 43, op := Op.move (Operand.tmp 1), type := 28, pos := "ref.go:215", after := #[], guard := none }) (v := .slice (some ⟨b, o, none⟩) m cap) rfl (by kernel_rfl) (by kernel_rfl) (by kernel_rfl) (fun _ _ _ h => h) (Or.inl ⟨by rfl, by intro w hS; go_simp⟩) hHeld ?_
          try simp only [Act.put, List.setIfInBounds_toArray, List.set_cons_zero, List.set_cons_succ]
          refine wpAnyH_take (i := 3) (oi := { dst := some 44, op := Op.move (Operand.tmp 8), type := 3, pos := "ref.go:215", after := #[], guard := none }) (v := .int .i64 k) rfl (by kernel_rfl) (by kernel_rfl) (by kernel_rfl) (fun _ _ _ h => h) (Or.inl ⟨by rfl, by intro w hS; go_simp⟩) hHeld ?_
          try simp only [Act.put, List.setIfInBounds_toArray, List.set_cons_zero, List.set_cons_succ]
          refine wpAnyH_take (i := 4) (oi := { dst := some 45, op := Op.indexAddr 28 (Operand.tmp 43) (Operand.tmp 44), type := 0, pos := "ref.go:215", after := #[{ on := 2, ground := Ground.data }, { on := 3, ground := Ground.data }], guard := none }) (v := .pointer (some ⟨b, o + k, none⟩)) rfl (by kernel_rfl) (by kernel_rfl) (by kernel_rfl) (fun _ _ _ h => h) (Or.inl ⟨by rfl, by intro w hS; go_simp⟩) hHeld ?_
          try simp only [Act.put, List.setIfInBounds_toArray, List.set_cons_zero, List.set_cons_succ]
          refine wpAnyH_take (i := 5) (oi := { dst := some 46, op := Op.load 5 (Operand.tmp 45), type := 5, pos := "ref.go:215", after := #[{ on := 4, ground := Ground.data }], guard := none }) (v := .int .u8 x) rfl (by kernel_rfl) (by kernel_rfl) (by kernel_rfl) (fun _ _ _ h => h) (Or.inl ⟨by rfl, by intro w hS; have hc := (hS.choose_spec.1.cell (p := ⟨b, o + k, none⟩) hb).trans cx; go_simp⟩) hHeld ?_
          try simp only [Act.put, List.setIfInBounds_toArray, List.set_cons_zero, List.set_cons_succ]
          refine wpAnyH_ready (rs := [1, 6]) (by kernel_rfl) (by simp) ?_
          refine (AllReadyH.cons (o := { dst := some 42, op := Op.load 28 (Operand.tmp 41), type := 28, pos := "ref.go:215", after := #[{ on := 0, ground := Ground.data }], guard := none }) rfl (fun K hK => ?_) (AllReadyH.cons (o := { dst := some 47, op := Op.buildSlice 28 1 #[(0, Operand.tmp 46)], type := 28, pos := "ref.go:215", after := #[{ on := 5, ground := Ground.data }], guard := none }) rfl (fun K hK => ?_) AllReadyH.nil))
          · skip
            rw [if_pos (by rfl)]
            have c9 := dd.cell (.tail _ (.head _)) (ndC_v okN v)
            try have c9b : (wr.alloc (.cells #[.int .u8 x] 5)).cell? ⟨w.heap.size + 1, 101, none⟩ = some v := c9
            go_simp
            refine hK.out _ _ (⟨v, dd⟩) (fun hHeld2 => ?_)
            clear hK K hHeld
            have hHeld := hHeld2
            clear hHeld2
            try simp only [Act.put, List.setIfInBounds_toArray, List.set_cons_zero, List.set_cons_succ]
            refine wpAnyH_ready (rs := [6]) (by kernel_rfl) (by simp) ?_
            refine (AllReadyH.cons (o := { dst := some 47, op := Op.buildSlice 28 1 #[(0, Operand.tmp 46)], type := 28, pos := "ref.go:215", after := #[{ on := 5, ground := Ground.data }], guard := none }) rfl (fun K hK => ?_) AllReadyH.nil)
            go_simp
            replace dd := dd.other (.cells #[.int .u8 x] 5)
            replace hO := own_pushes hO (.cells #[.int .u8 x] 5)
            refine hK.out _ _ (⟨v, dd⟩) (fun hHeld2 => ?_)
            clear hK K hHeld
            have hHeld := hHeld2
            clear hHeld2
            try simp only [Act.put, List.setIfInBounds_toArray, List.set_cons_zero, List.set_cons_succ]
            refine wpAnyH_ready (rs := [7]) (by kernel_rfl) (by simp) ?_
            refine (AllReadyH.cons (o := { dst := some 48, op := Op.call { callee := Callee.builtin Builtin.append, args := #[Operand.tmp 42, Operand.tmp 47], argTypes := #[28, 28] }, type := 28, pos := "ref.go:215", after := #[{ on := 1, ground := Ground.data }, { on := 6, ground := Ground.data }], guard := none }) rfl (fun K hK => ?_) AllReadyH.nil)
            refine step_appendB rfl (.tmp 42) (.tmp 47) rfl (w.heap.size + 2) v Z [x] rfl hO (some ⟨wr.heap.size, 0, none⟩) 1 rfl (fun h => by cases h) SX.out KL.out HB.out ?_
            intro v6 w6 hO6 hg6 hd6
            obtain ⟨s6, c6, rfl, S6, n6⟩ := hO6.form
            generalize (Z ++ [x]).length = l6 at *
            have hb6 := grown_keeps hg6 (fun k hk => (hO.block k hk).1) HB.out
            have hz6 : w.heap.size + 2 ≤ w6.heap.size := Nat.le_trans HB.out hb6.size
            replace dd := dd.up2 hb6 (by omega) (by omega) (by omega)
            refine hK.out _ _ (⟨v, dd⟩) (fun hHeld2 => ?_)
            clear hK K hHeld
            have hHeld := hHeld2
            clear hHeld2
            try simp only [Act.put, List.setIfInBounds_toArray, List.set_cons_zero, List.set_cons_succ]
            refine wpAnyH_take (i := 8) (oi := { dst := some 49, op := Op.fieldAddr 30 (Operand.tmp 6) 8, type := 0, pos := "ref.go:215", after := #[{ on := 0, ground := Ground.phase }, { on := 1, ground := Ground.phase }, { on := 2, ground := Ground.phase }, { on := 3, ground := Ground.phase }, { on := 4, ground := Ground.phase }, { on := 5, ground := Ground.phase }, { on := 6, ground := Ground.phase }, { on := 7, ground := Ground.phase }], guard := none }) (v := .pointer (some ⟨(w.heap.size + 1), 101, none⟩)) rfl (by kernel_rfl) (by kernel_rfl) (by kernel_rfl) (fun _ _ _ h => h) (Or.inl ⟨by rfl, by intro w hS; go_simp⟩) hHeld ?_
            try simp only [Act.put, List.setIfInBounds_toArray, List.set_cons_zero, List.set_cons_succ]
            refine wpAnyH_ready (rs := [9]) (by kernel_rfl) (by simp) ?_
            refine (AllReadyH.cons (o := { dst := none, op := Op.store 28 (Operand.tmp 49) (Operand.tmp 48), type := 0, pos := "ref.go:215", after := #[{ on := 8, ground := Ground.data }, { on := 7, ground := Ground.data }, { on := 7, ground := Ground.chain }, { on := 0, ground := Ground.phase }, { on := 1, ground := Ground.phase }, { on := 2, ground := Ground.phase }, { on := 3, ground := Ground.phase }, { on := 4, ground := Ground.phase }, { on := 5, ground := Ground.phase }, { on := 6, ground := Ground.phase }, { on := 7, ground := Ground.phase }], guard := none }) rfl (fun K hK => ?_) AllReadyH.nil)
            rw [if_pos (by rfl)]
            have c9 := dd.cell (.tail _ (.head _)) (ndC_v okN v)
            have f9 : w6.frozen? ⟨w.heap.size + 1, 101, none⟩ = false := frozen_of_row _ _ _ _ _ (dd.row (.tail _ (.head _)))
            go_simp
            replace dd := bk_setc dd (by omega) (by omega) 101 (.slice s6 l6 c6)
            rw [ndC_setv okN] at dd
            replace hO6 := hO6.of_heap (w1 := w6.setCell ⟨w.heap.size + 1, 101, none⟩ (.slice s6 l6 c6)) (fun k hk => heap_setCell_other _ _ _ _ (by have := (hO6.block k hk).1; simp only; omega))
            refine hK.out _ _ (⟨_, dd⟩) (fun hHeld2 => ?_)
            clear hK K hHeld
            have hHeld := hHeld2
            clear hHeld2
            try simp only [Act.put, List.setIfInBounds_toArray, List.set_cons_zero, List.set_cons_succ]
            refine wpAnyH_done (by kernel_rfl) ?_ _
            refine NoPanic.normal ?_
            have hsz : w.heap.size + 2 ≤ (w6.setCell ⟨w.heap.size + 1, 101, none⟩ (.slice s6 l6 c6)).heap.size := by rw [World.size_setCell]; exact hz6
            go_wp2
            go_roundw
            case rel => exact ⟨k + 1, _, by omega, by omega, by go_num, (by rw [HT.out]; exact hO6), hsz, dd⟩
            case measure => simp [intOf]; omega
          · skip
            go_simp
            replace dd := dd.other (.cells #[.int .u8 x] 5)
            replace hO := own_pushes hO (.cells #[.int .u8 x] 5)
            refine hK.out _ _ (⟨v, dd⟩) (fun hHeld2 => ?_)
            clear hK K hHeld
            have hHeld := hHeld2
            clear hHeld2
            try simp only [Act.put, List.setIfInBounds_toArray, List.set_cons_zero, List.set_cons_succ]
            refine wpAnyH_ready (rs := [1]) (by kernel_rfl) (by simp) ?_
            refine (AllReadyH.cons (o := { dst := some 42, op := Op.load 28 (Operand.tmp 41), type := 28, pos := "ref.go:215", after := #[{ on := 0, ground := Ground.data }], guard := none }) rfl (fun K hK => ?_) AllReadyH.nil)
            rw [if_pos (by rfl)]
            have c9 := dd.cell (.tail _ (.head _)) (ndC_v okN v)
            try have c9b : (wr.alloc (.cells #[.int .u8 x] 5)).cell? ⟨w.heap.size + 1, 101, none⟩ = some v := c9
            go_simp
            refine hK.out _ _ (⟨v, dd⟩) (fun hHeld2 => ?_)
            clear hK K hHeld
            have hHeld := hHeld2
            clear hHeld2
            try simp only [Act.put, List.setIfInBounds_toArray, List.set_cons_zero, List.set_cons_succ]
            refine wpAnyH_ready (rs := [7]) (by kernel_rfl) (by simp) ?_
            refine (AllReadyH.cons (o := { dst := some 48, op := Op.call { callee := Callee.builtin Builtin.append, args := #[Operand.tmp 42, Operand.tmp 47], argTypes := #[28, 28] }, type := 28, pos := "ref.go:215", after := #[{ on := 1, ground := Ground.data }, { on := 6, ground := Ground.data }], guard := none }) rfl (fun K hK => ?_) AllReadyH.nil)
            refine step_appendB rfl (.tmp 42) (.tmp 47) rfl (w.heap.size + 2) v Z [x] rfl hO (some ⟨wr.heap.size, 0, none⟩) 1 rfl (fun h => by cases h) SX.out KL.out HB.out ?_
            intro v6 w6 hO6 hg6 hd6
            obtain ⟨s6, c6, rfl, S6, n6⟩ := hO6.form
            generalize (Z ++ [x]).length = l6 at *
            have hb6 := grown_keeps hg6 (fun k hk => (hO.block k hk).1) HB.out
            have hz6 : w.heap.size + 2 ≤ w6.heap.size := Nat.le_trans HB.out hb6.size
            replace dd := dd.up2 hb6 (by omega) (by omega) (by omega)
            refine hK.out _ _ (⟨v, dd⟩) (fun hHeld2 => ?_)
            clear hK K hHeld
            have hHeld := hHeld2
            clear hHeld2
            try simp only [Act.put, List.setIfInBounds_toArray, List.set_cons_zero, List.set_cons_succ]
            refine wpAnyH_take (i := 8) (oi := { dst := some 49, op := Op.fieldAddr 30 (Operand.tmp 6) 8, type := 0, pos := "ref.go:215", after := #[{ on := 0, ground := Ground.phase }, { on := 1, ground := Ground.phase }, { on := 2, ground := Ground.phase }, { on := 3, ground := Ground.phase }, { on := 4, ground := Ground.phase }, { on := 5, ground := Ground.phase }, { on := 6, ground := Ground.phase }, { on := 7, ground := Ground.phase }], guard := none }) (v := .pointer (some ⟨(w.heap.size + 1), 101, none⟩)) rfl (by kernel_rfl) (by kernel_rfl) (by kernel_rfl) (fun _ _ _ h => h) (Or.inl ⟨by rfl, by intro w hS; go_simp⟩) hHeld ?_
            try simp only [Act.put, List.setIfInBounds_toArray, List.set_cons_zero, List.set_cons_succ]
            refine wpAnyH_ready (rs := [9]) (by kernel_rfl) (by simp) ?_
            refine (AllReadyH.cons (o := { dst := none, op := Op.store 28 (Operand.tmp 49) (Operand.tmp 48), type := 0, pos := "ref.go:215", after := #[{ on := 8, ground := Ground.data }, { on := 7, ground := Ground.data }, { on := 7, ground := Ground.chain }, { on := 0, ground := Ground.phase }, { on := 1, ground := Ground.phase }, { on := 2, ground := Ground.phase }, { on := 3, ground := Ground.phase }, { on := 4, ground := Ground.phase }, { on := 5, ground := Ground.phase }, { on := 6, ground := Ground.phase }, { on := 7, ground := Ground.phase }], guard := none }) rfl (fun K hK => ?_) AllReadyH.nil)
            rw [if_pos (by rfl)]
            have c9 := dd.cell (.tail _ (.head _)) (ndC_v okN v)
            have f9 : w6.frozen? ⟨w.heap.size + 1, 101, none⟩ = false := frozen_of_row _ _ _ _ _ (dd.row (.tail _ (.head _)))
            go_simp
            replace dd := bk_setc dd (by omega) (by omega) 101 (.slice s6 l6 c6)
            rw [ndC_setv okN] at dd
            replace hO6 := hO6.of_heap (w1 := w6.setCell ⟨w.heap.size + 1, 101, none⟩ (.slice s6 l6 c6)) (fun k hk => heap_setCell_other _ _ _ _ (by have := (hO6.block k hk).1; simp only; omega))
            refine hK.out _ _ (⟨_, dd⟩) (fun hHeld2 => ?_)
            clear hK K hHeld
            have hHeld := hHeld2
            clear hHeld2
            try simp only [Act.put, List.setIfInBounds_toArray, List.set_cons_zero, List.set_cons_succ]
            refine wpAnyH_done (by kernel_rfl) ?_ _
            refine NoPanic.normal ?_
            have hsz : w.heap.size + 2 ≤ (w6.setCell ⟨w.heap.size + 1, 101, none⟩ (.slice s6 l6 c6)).heap.size := by rw [World.size_setCell]; exact hz6
            go_wp2
            go_roundw
            case rel => exact ⟨k + 1, _, by omega, by omega, by go_num, (by rw [HT.out]; exact hO6), hsz, dd⟩
            case measure => simp [intOf]; omega
        · have hkm : k = m := by omega
          have i5 : ¬ ((k : Int) < (m : Int)) := by omega
          rw [hkm, HD.out] at hO
          clear hlt hkm hk
          obtain ⟨s9, c9, rfl, S9, n9⟩ := hO.form
          have r1 := dr.row (.tail _ (.head _))
          have g0 := dr.row (.head _)
          have d9 := dr.set (Nat.le_refl _) (by intro x hx; simp only [List.mem_cons, List.not_mem_nil, or_false] at hx; subst hx; simp) (ndC (kN t 32) (.slice s9 (t.drop 32).length c9))
          have hO9 := own_lower (b0 := w.heap.size) (hO.of_heap (fun k hk => setRow_other _ w.heap.size k (ndC (kN t 32) (.slice s9 (t.drop 32).length c9)).toArray (by have h1 := (hO.block k hk).1; omega))) (by omega)
          have F9 := hid (FG.out _ d9.1 _ hO9)
          have SM := hid (show (Tryd.prog.info? 30).map (·.size) = some (ndC (kN t 32) (.slice s9 (t.drop 32).length c9)).toArray.size by rw [Tryd.sizeNd, List.size_toArray, LM.out])
          have E9 := hid (show N0.toArray.size = (ndC (kN t 32) (.slice s9 (t.drop 32).length c9)).toArray.size by rw [List.size_toArray, List.size_toArray, L0.out, LM.out])
          have O9 := hid (all_oneCell_toArray (OM.out (.slice s9 (t.drop 32).length c9) rfl))
          generalize ndC (kN t 32) (.slice s9 (t.drop 32).length c9) = NF at *
          go_wp2_with (first
            | refine wpList_load_row_w (by rfl) 30 _ (by rfl) _ (by rfl) 30 _ _ _ r1 Tryd.underlying30 rfl SM.out ?_
            | refine wpList_store_row rfl 30 _ _ rfl w.heap.size NF.toArray rfl rfl 30 _ g0 SM.out E9.out O9.out ?_)
          exact bodyPost_ret (v := .tuple #[.agg NF.toArray, .int .i64 0]) (results_c2 Tryd.results17 _ _ w.heap.size 30 _ _ _ rfl (d9.row (.head _)) Tryd.underlying30 rfl SM.out) rfl F9.out
set_option maxRecDepth 100000 in
set_option maxHeartbeats 2000000 in
theorem xdec_branch (w : World) (t : List Int) (hy : Bys t) (hl : t.length = 80) (b o cap : Nat) (hS : Src w (some ⟨b, o, none⟩) cap t) (hr : BranchP (readB t)) :
    Calls Tryd.prog 17 #[.int .i64 2, .slice (some ⟨b, o, none⟩) 80 cap] w (DecP w 2 t) := by
  have AN := hid allocNd
  have BZ := hid built_nd0
  have L0 := hid (show (ndC nd0 (.slice none 0 0)).length = 102 from rfl)
  have O0 := hid (ndC_one nd0 (.slice none 0 0) rfl)
  have hb := hS.lt (by omega)
  have hsrc : ∀ j, j < t.length → w.cell? ⟨b, o + j, none⟩ = some (.int .u8 (t.getD j 0)) := by
    obtain ⟨_, _, b', o', _, h4, h5⟩ := hS
    have he := h4 (by omega)
    cases he
    exact h5
  have okk : ∀ k, k ≤ 32 → NdOk (bN t k) := fun k hk => bN_ok t hl k hk
  have sets1 : ∀ k, k < 32 → (ndC (bN t k) (.slice none 0 0)).set (5 + k) (.int .u8 (t.getD (16 + k) 0)) = ndC { bN t k with ls := (bN t k).ls.set k (t.getD (16 + k) 0) } (.slice none 0 0) := fun k hk => ndC_setls (okk k (by omega)) _ k _ hk
  have okk2 : ∀ k, k < 32 → NdOk { bN t k with ls := (bN t k).ls.set k (t.getD (16 + k) 0) } := fun k hk => ⟨by simp only [List.length_set]; exact (okk k (by omega)).ls, (okk k (by omega)).rs, rfl⟩
  have sets2 : ∀ k, k < 32 → (ndC { bN t k with ls := (bN t k).ls.set k (t.getD (16 + k) 0) } (.slice none 0 0)).set (37 + k) (.int .u8 (t.getD (48 + k) 0)) = ndC (bN t (k + 1)) (.slice none 0 0) := fun k hk => by
    rw [ndC_setrs (okk2 k hk) _ k _ hk, ← bN_set t hl k hk]
  have K0 : Hid (∀ w1, Below w.heap.size w w1 → Calls Tryd.prog 37 #[.slice (some ⟨b, o, none⟩) 80 cap, .int .i64 0] w1 fun e w' => e = .returned (.int .i64 (numP t 0)) ∧ Below w1.heap.size w1 w') := hid (fun w1 hb => by
    have := xnumber_any w1 t hy 0 (by omega) (by omega) (some ⟨b, o, none⟩) cap (hS.below hb (Nat.le_refl _))
    rw [hl] at this; exact this)
  have K4 : Hid (∀ w1, Below w.heap.size w w1 → Calls Tryd.prog 37 #[.slice (some ⟨b, o, none⟩) 80 cap, .int .i64 4] w1 fun e w' => e = .returned (.int .i64 (numP t 4)) ∧ Below w1.heap.size w1 w') := hid (fun w1 hb => by
    have := xnumber_any w1 t hy 4 (by omega) (by omega) (some ⟨b, o, none⟩) cap (hS.below hb (Nat.le_refl _))
    rw [hl] at this; exact this)
  have K8 : Hid (∀ w1, Below w.heap.size w w1 → Calls Tryd.prog 37 #[.slice (some ⟨b, o, none⟩) 80 cap, .int .i64 8] w1 fun e w' => e = .returned (.int .i64 (numP t 8)) ∧ Below w1.heap.size w1 w') := hid (fun w1 hb => by
    have := xnumber_any w1 t hy 8 (by omega) (by omega) (some ⟨b, o, none⟩) cap (hS.below hb (Nat.le_refl _))
    rw [hl] at this; exact this)
  have K12 : Hid (∀ w1, Below w.heap.size w w1 → Calls Tryd.prog 37 #[.slice (some ⟨b, o, none⟩) 80 cap, .int .i64 12] w1 fun e w' => e = .returned (.int .i64 (numP t 12)) ∧ Below w1.heap.size w1 w') := hid (fun w1 hb => by
    have := xnumber_any w1 t hy 12 (by omega) (by omega) (some ⟨b, o, none⟩) cap (hS.below hb (Nat.le_refl _))
    rw [hl] at this; exact this)
  have ok := readB_ok hl
  have KR := hid (fun w1 => xright_any w1 (readB t) ok none 0 (by simp [readB]))
  have EB := hid (bN_end t hl)
  have LM := hid (ndC_len ok (.slice none 0 0))
  have OM := hid (ndC_one (readB t) (.slice none 0 0) rfl)
  rw [decide_eq_true (show RightP (readB t) from Or.inr hr)] at KR
  have FG := hid (fun w' (hb : Below w.heap.size w w') => show DecP w 2 t (.returned (.tuple #[.agg (ndC (readB t) (.slice none 0 0)).toArray, .int .i64 0])) w' from
    have e1 : decN 2 t = some (readB t) := by unfold decN; rw [if_neg (by rintro ⟨h, _⟩; omega), if_pos ⟨rfl, hl, hr⟩]
    have e2 : decV 2 t = readB t := by unfold decV; rw [e1]; rfl
    have e3 : decE 2 t = 0 := by unfold decE; rw [e1]; rfl
    ⟨none, 0, by rw [e2, e3]; rfl, by rw [e2]; exact Own.nil _ _, hb⟩)
  have BN := hid (built_ndK 2)
  have LN := hid (ndC_len (n := { nd0 with kd := 2 }) ⟨rfl, rfl, rfl⟩ (.slice none 0 0))
  have ON := hid (ndC_one { nd0 with kd := 2 } (.slice none 0 0) rfl)
  have d0 := ((BK.nil w).alloc (ndC nd0 (.slice none 0 0)) 30).alloc (ndC { nd0 with kd := 2 } (.slice none 0 0)) 30
  rw [show (w.alloc (.cells (ndC nd0 (.slice none 0 0)).toArray 30)).heap.size = w.heap.size + 1 by simp] at d0
  have d00 : True := trivial
  have hz2 : ((w.alloc (.cells (ndC nd0 (.slice none 0 0)).toArray 30)).alloc (.cells (ndC { nd0 with kd := 2 } (.slice none 0 0)).toArray 30)).heap.size = w.heap.size + 2 := by simp
  replace d0 : BK w _ [(w.heap.size, ndC nd0 (.slice none 0 0), 30), (w.heap.size + 1, ndC { nd0 with kd := 2 } (.slice none 0 0), 30)] := ⟨d0.1, fun x hx => d0.2 x (by simp only [List.mem_cons, List.not_mem_nil, or_false] at hx ⊢; exact hx.symm)⟩
  have z0 : w.heap.size + 2 ≤ ((w.alloc (.cells (ndC nd0 (.slice none 0 0)).toArray 30)).alloc (.cells (ndC { nd0 with kd := 2 } (.slice none 0 0)).toArray 30)).heap.size := by omega
  obtain ⟨NK, hNK⟩ : ∃ NK, NK = ndC { nd0 with kd := 2 } (.slice none 0 0) := ⟨_, rfl⟩
  have HNK := hid hNK
  rw [← hNK] at BN LN ON d0 z0
  clear hNK hz2
  generalize ndC nd0 (.slice none 0 0) = N0 at *
  go_enter Tryd.func17, Tryd.ntmps17
  go_wp2_with (first
    | refine wpList_new AN.out L0.out Tryd.sizeNd rfl rfl rfl _ _ rfl rfl NK rfl rfl LN.out ON.out ?_
    | refine wpList_allocV AN.out rfl rfl ?_
    | refine wpList_built (by rfl) 30 _ rfl _ rfl _ BN.out ?_)
  refine (K0.out _ d0.1).mono ?_
  rintro e w1 ⟨rfl, hb1⟩
  have e1 := d0.call hb1
  have z1 : w.heap.size + 2 ≤ w1.heap.size := Nat.le_trans z0 hb1.size
  rw [HNK.out] at e1
  have cx := e1.cell (.tail _ (.head _)) (j := 1) (v := .int .i64 0) rfl
  have fx : w1.frozen? ⟨w.heap.size + 1, 1, none⟩ = false := frozen_of_row _ _ _ _ _ (e1.row (.tail _ (.head _)))
  have d1' := bk_setc e1 (by omega) (by omega) 1 (.int .i64 (numP t 0))
  have d1 : BK w (w1.setCell ⟨w.heap.size + 1, 1, none⟩ (.int .i64 (numP t 0))) [(w.heap.size, N0, 30), (w.heap.size + 1, ndC { nd0 with kd := 2, l := numP t 0 } (.slice none 0 0), 30)] := d1'
  replace z1 : w.heap.size + 2 ≤ (w1.setCell ⟨w.heap.size + 1, 1, none⟩ (.int .i64 (numP t 0))).heap.size := by rw [World.size_setCell]; exact z1
  clear d1' e1 hb1 d0
  go_wp2_with fail
  refine (K4.out _ d1.1).mono ?_
  rintro e w2 ⟨rfl, hb2⟩
  have e2 := d1.call hb2
  have z2 : w.heap.size + 2 ≤ w2.heap.size := Nat.le_trans z1 hb2.size
  have cx := e2.cell (.tail _ (.head _)) (j := 2) (v := .int .i64 0) rfl
  have fx : w2.frozen? ⟨w.heap.size + 1, 2, none⟩ = false := frozen_of_row _ _ _ _ _ (e2.row (.tail _ (.head _)))
  have d2' := bk_setc e2 (by omega) (by omega) 2 (.int .i64 (numP t 4))
  have d2 : BK w (w2.setCell ⟨w.heap.size + 1, 2, none⟩ (.int .i64 (numP t 4))) [(w.heap.size, N0, 30), (w.heap.size + 1, ndC { nd0 with kd := 2, l := numP t 0, r := numP t 4 } (.slice none 0 0), 30)] := d2'
  replace z2 : w.heap.size + 2 ≤ (w2.setCell ⟨w.heap.size + 1, 2, none⟩ (.int .i64 (numP t 4))).heap.size := by rw [World.size_setCell]; exact z2
  clear d2' e2 hb2
  go_wp2_with fail
  refine (K8.out _ d2.1).mono ?_
  rintro e w3 ⟨rfl, hb3⟩
  have e3 := d2.call hb3
  have z3 : w.heap.size + 2 ≤ w3.heap.size := Nat.le_trans z2 hb3.size
  have cx := e3.cell (.tail _ (.head _)) (j := 3) (v := .int .i64 0) rfl
  have fx : w3.frozen? ⟨w.heap.size + 1, 3, none⟩ = false := frozen_of_row _ _ _ _ _ (e3.row (.tail _ (.head _)))
  have d3' := bk_setc e3 (by omega) (by omega) 3 (.int .i64 (numP t 8))
  have d3 : BK w (w3.setCell ⟨w.heap.size + 1, 3, none⟩ (.int .i64 (numP t 8))) [(w.heap.size, N0, 30), (w.heap.size + 1, ndC { nd0 with kd := 2, l := numP t 0, r := numP t 4, lc := numP t 8 } (.slice none 0 0), 30)] := d3'
  replace z3 : w.heap.size + 2 ≤ (w3.setCell ⟨w.heap.size + 1, 3, none⟩ (.int .i64 (numP t 8))).heap.size := by rw [World.size_setCell]; exact z3
  clear d3' e3 hb3
  go_wp2_with fail
  refine (K12.out _ d3.1).mono ?_
  rintro e w4 ⟨rfl, hb4⟩
  have e4 := d3.call hb4
  have z4 : w.heap.size + 2 ≤ w4.heap.size := Nat.le_trans z3 hb4.size
  have cx := e4.cell (.tail _ (.head _)) (j := 4) (v := .int .i64 0) rfl
  have fx : w4.frozen? ⟨w.heap.size + 1, 4, none⟩ = false := frozen_of_row _ _ _ _ _ (e4.row (.tail _ (.head _)))
  have d4' := bk_setc e4 (by omega) (by omega) 4 (.int .i64 (numP t 12))
  have d4 : BK w (w4.setCell ⟨w.heap.size + 1, 4, none⟩ (.int .i64 (numP t 12))) [(w.heap.size, N0, 30), (w.heap.size + 1, ndC (bN t 0) (.slice none 0 0), 30)] := d4'
  replace z4 : w.heap.size + 2 ≤ (w4.setCell ⟨w.heap.size + 1, 4, none⟩ (.int .i64 (numP t 12))).heap.size := by rw [World.size_setCell]; exact z4
  clear d4' e4 hb4
  go_wp2
  go_loopw [9] (fun i wr => ∃ k : Nat, k ≤ 32 ∧ i = .int .i64 k ∧ w.heap.size + 2 ≤ wr.heap.size ∧ BK w wr [(w.heap.size, N0, 30), (w.heap.size + 1, ndC (bN t k) (.slice none 0 0), 30)]) (fun i _ => 32 - (intOf i).toNat)
  case atStart => exact ⟨0, by omega, rfl, z4, d4⟩
  case round =>
    clear d1 d2 d3 d4 cx fx
    obtain ⟨k, hk, rfl, hs, dr⟩ := hrel
    by_cases hlt : k < 32
    · have i3 : (k : Int) < 32 := by omega
      have cs := (dr.1.cell (p := ⟨b, o + (16 + k), none⟩) hb).trans (hsrc (16 + k) (by omega))
      have cx := dr.cell (.tail _ (.head _)) (ndC_ls (okk k hk) (.slice none 0 0) k _ (ints_get .u8 (bN t k).ls k (by rw [(okk k hk).ls]; exact hlt)))
      have fx : wr.frozen? ⟨w.heap.size + 1, 5 + k, none⟩ = false := frozen_of_row _ _ _ _ _ (dr.row (.tail _ (.head _)))
      have d2 := bk_setc dr (by omega) (by omega) (5 + k) (.int .u8 (t.getD (16 + k) 0))
      rw [sets1 k hlt] at d2
      have cs2 := (d2.1.cell (p := ⟨b, o + (48 + k), none⟩) hb).trans (hsrc (48 + k) (by omega))
      have cx2 := d2.cell (.tail _ (.head _)) (ndC_rs (okk2 k hlt) (.slice none 0 0) k _ (ints_get .u8 (bN t k).rs k (by rw [(okk k hk).rs]; exact hlt)))
      have fx2 : (wr.setCell ⟨w.heap.size + 1, 5 + k, none⟩ (.int .u8 (t.getD (16 + k) 0))).frozen? ⟨w.heap.size + 1, 37 + k, none⟩ = false := frozen_of_row _ _ _ _ _ (d2.row (.tail _ (.head _)))
      have d3 := bk_setc d2 (by omega) (by omega) (37 + k) (.int .u8 (t.getD (48 + k) 0))
      rw [sets2 k hlt] at d3
      have hs2 : w.heap.size + 2 ≤ ((wr.setCell ⟨w.heap.size + 1, 5 + k, none⟩ (.int .u8 (t.getD (16 + k) 0))).setCell ⟨w.heap.size + 1, 37 + k, none⟩ (.int .u8 (t.getD (48 + k) 0))).heap.size := by rw [World.size_setCell, World.size_setCell]; exact hs
      clear d2
      generalize t.getD (16 + k) 0 = x at *
      generalize t.getD (48 + k) 0 = x2 at *
      generalize (bN t k).ls.getD k 0 = y at *
      generalize (bN t k).rs.getD k 0 = y2 at *
      go_wp2
      go_roundw
      case rel => exact ⟨k + 1, by omega, by go_num, hs2, d3⟩
      case measure => simp [intOf]; omega
    · have hk32 : k = 32 := by omega
      have i3 : ¬ ((k : Int) < 32) := by omega
      rw [hk32, EB.out] at dr
      clear hlt hk32 hk
      have r1 := dr.row (.tail _ (.head _))
      have SM := hid (show (Tryd.prog.info? 30).map (·.size) = some (ndC (readB t) (.slice none 0 0)).toArray.size by rw [Tryd.sizeNd, List.size_toArray, LM.out])
      have E9 := hid (show N0.toArray.size = (ndC (readB t) (.slice none 0 0)).toArray.size by rw [List.size_toArray, List.size_toArray, L0.out, LM.out])
      have O9 := hid (all_oneCell_toArray OM.out)
      replace KR : Hid (∀ w1, Calls Tryd.prog 33 #[.agg (ndC (readB t) (.slice none 0 0)).toArray] w1 fun e w' => e = .returned (.bool true) ∧ Below w1.heap.size w1 w') := KR
      generalize ndC (readB t) (.slice none 0 0) = NF at *
      go_wp2_with (first
        | refine wpList_load_row_w (by rfl) 30 _ (by rfl) _ (by rfl) 30 _ _ _ r1 Tryd.underlying30 rfl SM.out ?_)
      refine (KR.out _).mono ?_
      rintro e w7 ⟨rfl, hb7⟩
      have d7 := dr.call hb7
      have r1 := d7.row (.tail _ (.head _))
      have g0 := d7.row (.head _)
      have d9 := d7.set (Nat.le_refl _) (by intro x hx; simp only [List.mem_cons, List.not_mem_nil, or_false] at hx; subst hx; simp) NF
      go_wp2_with (first
        | refine wpList_load_row_w (by rfl) 30 _ (by rfl) _ (by rfl) 30 _ _ _ r1 Tryd.underlying30 rfl SM.out ?_
        | refine wpList_store_row rfl 30 _ _ rfl w.heap.size NF.toArray rfl rfl 30 _ g0 SM.out E9.out O9.out ?_)
      exact bodyPost_ret (v := .tuple #[.agg NF.toArray, .int .i64 0]) (results_c2 Tryd.results17 _ _ w.heap.size 30 _ _ _ rfl (d9.row (.head _)) Tryd.underlying30 rfl SM.out) rfl (FG.out _ d9.1)
set_option maxRecDepth 100000 in
set_option maxHeartbeats 2000000 in
theorem xdec_nobr (w : World) (t : List Int) (hy : Bys t) (hl : t.length = 80) (b o cap : Nat) (hS : Src w (some ⟨b, o, none⟩) cap t) (hr : ¬ BranchP (readB t)) :
    Calls Tryd.prog 17 #[.int .i64 2, .slice (some ⟨b, o, none⟩) 80 cap] w (DecP w 2 t) := by
  have AN := hid allocNd
  have BZ := hid built_nd0
  have L0 := hid (show (ndC nd0 (.slice none 0 0)).length = 102 from rfl)
  have O0 := hid (ndC_one nd0 (.slice none 0 0) rfl)
  have hb := hS.lt (by omega)
  have hsrc : ∀ j, j < t.length → w.cell? ⟨b, o + j, none⟩ = some (.int .u8 (t.getD j 0)) := by
    obtain ⟨_, _, b', o', _, h4, h5⟩ := hS
    have he := h4 (by omega)
    cases he
    exact h5
  have okk : ∀ k, k ≤ 32 → NdOk (bN t k) := fun k hk => bN_ok t hl k hk
  have sets1 : ∀ k, k < 32 → (ndC (bN t k) (.slice none 0 0)).set (5 + k) (.int .u8 (t.getD (16 + k) 0)) = ndC { bN t k with ls := (bN t k).ls.set k (t.getD (16 + k) 0) } (.slice none 0 0) := fun k hk => ndC_setls (okk k (by omega)) _ k _ hk
  have okk2 : ∀ k, k < 32 → NdOk { bN t k with ls := (bN t k).ls.set k (t.getD (16 + k) 0) } := fun k hk => ⟨by simp only [List.length_set]; exact (okk k (by omega)).ls, (okk k (by omega)).rs, rfl⟩
  have sets2 : ∀ k, k < 32 → (ndC { bN t k with ls := (bN t k).ls.set k (t.getD (16 + k) 0) } (.slice none 0 0)).set (37 + k) (.int .u8 (t.getD (48 + k) 0)) = ndC (bN t (k + 1)) (.slice none 0 0) := fun k hk => by
    rw [ndC_setrs (okk2 k hk) _ k _ hk, ← bN_set t hl k hk]
  have K0 : Hid (∀ w1, Below w.heap.size w w1 → Calls Tryd.prog 37 #[.slice (some ⟨b, o, none⟩) 80 cap, .int .i64 0] w1 fun e w' => e = .returned (.int .i64 (numP t 0)) ∧ Below w1.heap.size w1 w') := hid (fun w1 hb => by
    have := xnumber_any w1 t hy 0 (by omega) (by omega) (some ⟨b, o, none⟩) cap (hS.below hb (Nat.le_refl _))
    rw [hl] at this; exact this)
  have K4 : Hid (∀ w1, Below w.heap.size w w1 → Calls Tryd.prog 37 #[.slice (some ⟨b, o, none⟩) 80 cap, .int .i64 4] w1 fun e w' => e = .returned (.int .i64 (numP t 4)) ∧ Below w1.heap.size w1 w') := hid (fun w1 hb => by
    have := xnumber_any w1 t hy 4 (by omega) (by omega) (some ⟨b, o, none⟩) cap (hS.below hb (Nat.le_refl _))
    rw [hl] at this; exact this)
  have K8 : Hid (∀ w1, Below w.heap.size w w1 → Calls Tryd.prog 37 #[.slice (some ⟨b, o, none⟩) 80 cap, .int .i64 8] w1 fun e w' => e = .returned (.int .i64 (numP t 8)) ∧ Below w1.heap.size w1 w') := hid (fun w1 hb => by
    have := xnumber_any w1 t hy 8 (by omega) (by omega) (some ⟨b, o, none⟩) cap (hS.below hb (Nat.le_refl _))
    rw [hl] at this; exact this)
  have K12 : Hid (∀ w1, Below w.heap.size w w1 → Calls Tryd.prog 37 #[.slice (some ⟨b, o, none⟩) 80 cap, .int .i64 12] w1 fun e w' => e = .returned (.int .i64 (numP t 12)) ∧ Below w1.heap.size w1 w') := hid (fun w1 hb => by
    have := xnumber_any w1 t hy 12 (by omega) (by omega) (some ⟨b, o, none⟩) cap (hS.below hb (Nat.le_refl _))
    rw [hl] at this; exact this)
  have ok := readB_ok hl
  have KR := hid (fun w1 => xright_any w1 (readB t) ok none 0 (by simp [readB]))
  have EB := hid (bN_end t hl)
  have LM := hid (ndC_len ok (.slice none 0 0))
  have OM := hid (ndC_one (readB t) (.slice none 0 0) rfl)
  rw [decide_eq_false (show ¬ RightP (readB t) from fun h => h.elim (fun h => by have h := h.1; simp [readB] at h) hr)] at KR
  have FB := hid (fun w' (hb : Below w.heap.size w w') => show DecP w 2 t (.returned (.tuple #[.agg (ndC nd0 (.slice none 0 0)).toArray, .int .i64 90])) w' from
    have e1 : decN 2 t = none := by unfold decN; rw [if_neg (by rintro ⟨h, _⟩; omega), if_neg (by rintro ⟨_, _, h⟩; exact hr h)]
    have e2 : decV 2 t = nd0 := by unfold decV; rw [e1]; rfl
    have e3 : decE 2 t = 90 := by unfold decE; rw [e1]; rfl
    ⟨none, 0, by rw [e2, e3]; rfl, by rw [e2]; exact Own.nil _ _, hb⟩)
  have BN := hid (built_ndK 2)
  have LN := hid (ndC_len (n := { nd0 with kd := 2 }) ⟨rfl, rfl, rfl⟩ (.slice none 0 0))
  have ON := hid (ndC_one { nd0 with kd := 2 } (.slice none 0 0) rfl)
  have d0 := ((BK.nil w).alloc (ndC nd0 (.slice none 0 0)) 30).alloc (ndC { nd0 with kd := 2 } (.slice none 0 0)) 30
  rw [show (w.alloc (.cells (ndC nd0 (.slice none 0 0)).toArray 30)).heap.size = w.heap.size + 1 by simp] at d0
  have d00 : True := trivial
  have hz2 : ((w.alloc (.cells (ndC nd0 (.slice none 0 0)).toArray 30)).alloc (.cells (ndC { nd0 with kd := 2 } (.slice none 0 0)).toArray 30)).heap.size = w.heap.size + 2 := by simp
  replace d0 : BK w _ [(w.heap.size, ndC nd0 (.slice none 0 0), 30), (w.heap.size + 1, ndC { nd0 with kd := 2 } (.slice none 0 0), 30)] := ⟨d0.1, fun x hx => d0.2 x (by simp only [List.mem_cons, List.not_mem_nil, or_false] at hx ⊢; exact hx.symm)⟩
  have z0 : w.heap.size + 2 ≤ ((w.alloc (.cells (ndC nd0 (.slice none 0 0)).toArray 30)).alloc (.cells (ndC { nd0 with kd := 2 } (.slice none 0 0)).toArray 30)).heap.size := by omega
  obtain ⟨NK, hNK⟩ : ∃ NK, NK = ndC { nd0 with kd := 2 } (.slice none 0 0) := ⟨_, rfl⟩
  have HNK := hid hNK
  rw [← hNK] at BN LN ON d0 z0
  clear hNK hz2
  generalize ndC nd0 (.slice none 0 0) = N0 at *
  go_enter Tryd.func17, Tryd.ntmps17
  go_wp2_with (first
    | refine wpList_new AN.out L0.out Tryd.sizeNd rfl rfl rfl _ _ rfl rfl NK rfl rfl LN.out ON.out ?_
    | refine wpList_allocV AN.out rfl rfl ?_
    | refine wpList_built (by rfl) 30 _ rfl _ rfl _ BN.out ?_)
  refine (K0.out _ d0.1).mono ?_
  rintro e w1 ⟨rfl, hb1⟩
  have e1 := d0.call hb1
  have z1 : w.heap.size + 2 ≤ w1.heap.size := Nat.le_trans z0 hb1.size
  rw [HNK.out] at e1
  have cx := e1.cell (.tail _ (.head _)) (j := 1) (v := .int .i64 0) rfl
  have fx : w1.frozen? ⟨w.heap.size + 1, 1, none⟩ = false := frozen_of_row _ _ _ _ _ (e1.row (.tail _ (.head _)))
  have d1' := bk_setc e1 (by omega) (by omega) 1 (.int .i64 (numP t 0))
  have d1 : BK w (w1.setCell ⟨w.heap.size + 1, 1, none⟩ (.int .i64 (numP t 0))) [(w.heap.size, N0, 30), (w.heap.size + 1, ndC { nd0 with kd := 2, l := numP t 0 } (.slice none 0 0), 30)] := d1'
  replace z1 : w.heap.size + 2 ≤ (w1.setCell ⟨w.heap.size + 1, 1, none⟩ (.int .i64 (numP t 0))).heap.size := by rw [World.size_setCell]; exact z1
  clear d1' e1 hb1 d0
  go_wp2_with fail
  refine (K4.out _ d1.1).mono ?_
  rintro e w2 ⟨rfl, hb2⟩
  have e2 := d1.call hb2
  have z2 : w.heap.size + 2 ≤ w2.heap.size := Nat.le_trans z1 hb2.size
  have cx := e2.cell (.tail _ (.head _)) (j := 2) (v := .int .i64 0) rfl
  have fx : w2.frozen? ⟨w.heap.size + 1, 2, none⟩ = false := frozen_of_row _ _ _ _ _ (e2.row (.tail _ (.head _)))
  have d2' := bk_setc e2 (by omega) (by omega) 2 (.int .i64 (numP t 4))
  have d2 : BK w (w2.setCell ⟨w.heap.size + 1, 2, none⟩ (.int .i64 (numP t 4))) [(w.heap.size, N0, 30), (w.heap.size + 1, ndC { nd0 with kd := 2, l := numP t 0, r := numP t 4 } (.slice none 0 0), 30)] := d2'
  replace z2 : w.heap.size + 2 ≤ (w2.setCell ⟨w.heap.size + 1, 2, none⟩ (.int .i64 (numP t 4))).heap.size := by rw [World.size_setCell]; exact z2
  clear d2' e2 hb2
  go_wp2_with fail
  refine (K8.out _ d2.1).mono ?_
  rintro e w3 ⟨rfl, hb3⟩
  have e3 := d2.call hb3
  have z3 : w.heap.size + 2 ≤ w3.heap.size := Nat.le_trans z2 hb3.size
  have cx := e3.cell (.tail _ (.head _)) (j := 3) (v := .int .i64 0) rfl
  have fx : w3.frozen? ⟨w.heap.size + 1, 3, none⟩ = false := frozen_of_row _ _ _ _ _ (e3.row (.tail _ (.head _)))
  have d3' := bk_setc e3 (by omega) (by omega) 3 (.int .i64 (numP t 8))
  have d3 : BK w (w3.setCell ⟨w.heap.size + 1, 3, none⟩ (.int .i64 (numP t 8))) [(w.heap.size, N0, 30), (w.heap.size + 1, ndC { nd0 with kd := 2, l := numP t 0, r := numP t 4, lc := numP t 8 } (.slice none 0 0), 30)] := d3'
  replace z3 : w.heap.size + 2 ≤ (w3.setCell ⟨w.heap.size + 1, 3, none⟩ (.int .i64 (numP t 8))).heap.size := by rw [World.size_setCell]; exact z3
  clear d3' e3 hb3
  go_wp2_with fail
  refine (K12.out _ d3.1).mono ?_
  rintro e w4 ⟨rfl, hb4⟩
  have e4 := d3.call hb4
  have z4 : w.heap.size + 2 ≤ w4.heap.size := Nat.le_trans z3 hb4.size
  have cx := e4.cell (.tail _ (.head _)) (j := 4) (v := .int .i64 0) rfl
  have fx : w4.frozen? ⟨w.heap.size + 1, 4, none⟩ = false := frozen_of_row _ _ _ _ _ (e4.row (.tail _ (.head _)))
  have d4' := bk_setc e4 (by omega) (by omega) 4 (.int .i64 (numP t 12))
  have d4 : BK w (w4.setCell ⟨w.heap.size + 1, 4, none⟩ (.int .i64 (numP t 12))) [(w.heap.size, N0, 30), (w.heap.size + 1, ndC (bN t 0) (.slice none 0 0), 30)] := d4'
  replace z4 : w.heap.size + 2 ≤ (w4.setCell ⟨w.heap.size + 1, 4, none⟩ (.int .i64 (numP t 12))).heap.size := by rw [World.size_setCell]; exact z4
  clear d4' e4 hb4
  go_wp2
  go_loopw [9] (fun i wr => ∃ k : Nat, k ≤ 32 ∧ i = .int .i64 k ∧ w.heap.size + 2 ≤ wr.heap.size ∧ BK w wr [(w.heap.size, N0, 30), (w.heap.size + 1, ndC (bN t k) (.slice none 0 0), 30)]) (fun i _ => 32 - (intOf i).toNat)
  case atStart => exact ⟨0, by omega, rfl, z4, d4⟩
  case round =>
    clear d1 d2 d3 d4 cx fx
    obtain ⟨k, hk, rfl, hs, dr⟩ := hrel
    by_cases hlt : k < 32
    · have i3 : (k : Int) < 32 := by omega
      have cs := (dr.1.cell (p := ⟨b, o + (16 + k), none⟩) hb).trans (hsrc (16 + k) (by omega))
      have cx := dr.cell (.tail _ (.head _)) (ndC_ls (okk k hk) (.slice none 0 0) k _ (ints_get .u8 (bN t k).ls k (by rw [(okk k hk).ls]; exact hlt)))
      have fx : wr.frozen? ⟨w.heap.size + 1, 5 + k, none⟩ = false := frozen_of_row _ _ _ _ _ (dr.row (.tail _ (.head _)))
      have d2 := bk_setc dr (by omega) (by omega) (5 + k) (.int .u8 (t.getD (16 + k) 0))
      rw [sets1 k hlt] at d2
      have cs2 := (d2.1.cell (p := ⟨b, o + (48 + k), none⟩) hb).trans (hsrc (48 + k) (by omega))
      have cx2 := d2.cell (.tail _ (.head _)) (ndC_rs (okk2 k hlt) (.slice none 0 0) k _ (ints_get .u8 (bN t k).rs k (by rw [(okk k hk).rs]; exact hlt)))
      have fx2 : (wr.setCell ⟨w.heap.size + 1, 5 + k, none⟩ (.int .u8 (t.getD (16 + k) 0))).frozen? ⟨w.heap.size + 1, 37 + k, none⟩ = false := frozen_of_row _ _ _ _ _ (d2.row (.tail _ (.head _)))
      have d3 := bk_setc d2 (by omega) (by omega) (37 + k) (.int .u8 (t.getD (48 + k) 0))
      rw [sets2 k hlt] at d3
      have hs2 : w.heap.size + 2 ≤ ((wr.setCell ⟨w.heap.size + 1, 5 + k, none⟩ (.int .u8 (t.getD (16 + k) 0))).setCell ⟨w.heap.size + 1, 37 + k, none⟩ (.int .u8 (t.getD (48 + k) 0))).heap.size := by rw [World.size_setCell, World.size_setCell]; exact hs
      clear d2
      generalize t.getD (16 + k) 0 = x at *
      generalize t.getD (48 + k) 0 = x2 at *
      generalize (bN t k).ls.getD k 0 = y at *
      generalize (bN t k).rs.getD k 0 = y2 at *
      go_wp2
      go_roundw
      case rel => exact ⟨k + 1, by omega, by go_num, hs2, d3⟩
      case measure => simp [intOf]; omega
    · have hk32 : k = 32 := by omega
      have i3 : ¬ ((k : Int) < 32) := by omega
      rw [hk32, EB.out] at dr
      clear hlt hk32 hk
      have r1 := dr.row (.tail _ (.head _))
      have SM := hid (show (Tryd.prog.info? 30).map (·.size) = some (ndC (readB t) (.slice none 0 0)).toArray.size by rw [Tryd.sizeNd, List.size_toArray, LM.out])
      have E9 := hid (show N0.toArray.size = (ndC (readB t) (.slice none 0 0)).toArray.size by rw [List.size_toArray, List.size_toArray, L0.out, LM.out])
      have O9 := hid (all_oneCell_toArray OM.out)
      replace KR : Hid (∀ w1, Calls Tryd.prog 33 #[.agg (ndC (readB t) (.slice none 0 0)).toArray] w1 fun e w' => e = .returned (.bool false) ∧ Below w1.heap.size w1 w') := KR
      generalize ndC (readB t) (.slice none 0 0) = NF at *
      go_wp2_with (first
        | refine wpList_load_row_w (by rfl) 30 _ (by rfl) _ (by rfl) 30 _ _ _ r1 Tryd.underlying30 rfl SM.out ?_)
      refine (KR.out _).mono ?_
      rintro e w7 ⟨rfl, hb7⟩
      have d7 := dr.call hb7
      have r1 := d7.row (.tail _ (.head _))
      have g0 := d7.row (.head _)
      go_wp2_with (first
        | refine wpList_built (by rfl) 30 _ rfl _ rfl _ BZ.out ?_
        | refine wpList_store_row rfl 30 _ _ rfl w.heap.size N0.toArray rfl rfl 30 _ g0 (by rw [Tryd.sizeNd, List.size_toArray, L0.out]) rfl (all_oneCell_toArray O0.out) ?_)
      have d9 := d7.set (Nat.le_refl _) (by intro x hx; simp only [List.mem_cons, List.not_mem_nil, or_false] at hx; subst hx; simp) N0
      exact bodyPost_ret (v := .tuple #[.agg N0.toArray, .int .i64 90]) (results_c2 Tryd.results17 _ _ w.heap.size 30 _ _ _ rfl (d9.row (.head _)) Tryd.underlying30 rfl (by rw [Tryd.sizeNd, List.size_toArray, L0.out])) rfl (FB.out _ d9.1)
theorem xdecode_any (w : World) (kd : Int) (t : List Int) (hy : Bys t) (sp : Option Addr) (cap : Nat) (hS : Src w sp cap t) :
    Calls Tryd.prog 17 #[.int .i64 kd, .slice sp t.length cap] w (DecP w kd t) := by
  have hm : t.length ≤ 9223372036854775807 := by have h1 := hS.1; have h2 := hS.2.1; unfold maxLen at h2; omega
  by_cases h1 : kd = 1
  · subst h1
    by_cases h2 : t.length < 32
    · exact xdec_s w t sp cap hm h2
    · by_cases h3 : 160 < t.length
      · exact xdec_l w t sp cap hm h3
      · obtain ⟨b, o, rfl⟩ : ∃ b o, sp = some ⟨b, o, none⟩ := by obtain ⟨_, _, b, o, h3, h4, _⟩ := hS; exact ⟨b, o, h4 (by omega)⟩
        exact xdec_leaf w t (by omega) (by omega) b o cap hS
  · by_cases h2 : kd = 2
    · subst h2
      by_cases h3 : t.length = 80
      · obtain ⟨b, o, rfl⟩ : ∃ b o, sp = some ⟨b, o, none⟩ := by obtain ⟨_, _, b, o, h3, h4, _⟩ := hS; exact ⟨b, o, h4 (by omega)⟩
        rw [h3]
        by_cases h4 : BranchP (readB t)
        · exact xdec_branch w t hy h3 b o cap hS h4
        · exact xdec_nobr w t hy h3 b o cap hS h4
      · exact xdec_n w t sp cap hm h3
    · exact xdec_o w kd t sp cap hm h1 h2
end Go.Proofs.YtipbbmbkjcpjbaaDoor
