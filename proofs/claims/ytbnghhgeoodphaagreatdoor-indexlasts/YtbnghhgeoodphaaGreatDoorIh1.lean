import Derived.Maps.RangeWalk
import Derived.Test.YtbnghhgeoodphaaGreatDoorIg1
import Derived.Test.YtbnghhgeoodphaaGreatDoorVx1
import Derived.Test.YtbnghhgeoodphaaGreatDoorIf1
namespace Go.Proofs.YtbnghhgeoodphaaGreatDoor
set_option maxRecDepth 100000
set_option maxHeartbeats 40000000
set_option linter.unusedVariables false
set_option linter.unusedSimpArgs false
open Go.RowKit
open Go.Proofs.YtbnghhgeoodphaaGreatDoor.Ca (Ct ct0 ctC argV AS)
attribute [local go_sem ↓] Go.wp_at_zero Go.wp_at_succ
def recE (k : Int) : Rc := ⟨0, 0, 0, 0, 0, 0, emptyD k 256⟩
theorem recE_ok (k : Int) : RcOk (recE k) := ⟨emptyD_len k 256⟩
theorem built_rcS' (l : List Value) (hl : l.length = 32) : Tryz.prog.built 49 [(6, .agg l.toArray)] = some ([Value.int .i64 0, .int .i64 0, .int .i64 0, .int .i64 0, .int .i64 0, .int .i64 0] ++ l).toArray := by
 obtain ⟨x0, x1, x2, x3, x4, x5, x6, x7, x8, x9, x10, x11, x12, x13, x14, x15, x16, x17, x18, x19, x20, x21, x22, x23, x24, x25, x26, x27, x28, x29, x30, x31, rfl⟩ := list32 hl
 kernel_rfl
theorem built_rcE (k : Int) : Tryz.prog.built 49 [(6, .agg (ints .u8 (emptyD k 256)).toArray)] = some (rcC (recE k)).toArray := built_rcS' _ (by rw [ints_len, emptyD_len])
theorem wpList_fieldS0 {ops : Array Oper} {rest : List Oper} {o : Oper} {a : Act} {w : World} {Q : Exit -> Act -> World -> Prop} (hg : o.guard = none) (x : Operand) (ho : o.op = .field 65 x 0) (s2 : Sup) (y : Int) (hy : s2.wd = y) (hx : a.eval x = .agg (supC s2))
   (h : wpList Tryz.prog ops Q rest (a.put o.dst (.int .i64 y)) w) : wpList Tryz.prog ops Q (o :: rest) a w := by
 refine wpList_plain hg fun K hK => ?_
 unfold Oper.wp
 have e : (execOp a.eval o).run Tryz.prog w = .ok (.value (.int .i64 y)) w := by
   subst hy
   unfold execOp
   simp only [ho, hx]
   kernel_rfl
 rw [e]
 exact hK _ _ h
theorem iempty_any (w : World) (base : Nat) (S : Sto) (h : SK w base S) (hG : Glob w) :
   Calls Tryz.prog 37 #[.pointer (some ⟨S.st, 0, none⟩)] w fun e w' => e = .returned (.agg (rcC (recE S.s.wd)).toArray) /\ Below w.heap.size w w' := by
 have hb0 := below_new w (.cells (rcC rc0).toArray 49)
 have hr0 := hnew w (.cells (rcC rc0).toArray 49)
 have KS := hid (oSuper_any _ base S (h.below hb0))
 have KE := hid (fun w1 (hb : Below w.heap.size w w1) => empty_any w1 (hG.below hb hG.1) S.s.wd 256)
 rw [show hgt 256 = 256 from rfl] at KE
 have BE := hid (built_rcE S.s.wd)
 have hN := hid (show (Tryz.prog.info? 49).map (·.size) = some (rcC (recE S.s.wd)).toArray.size by rw [Tryz.sizeRc, List.size_toArray, rcC_len (recE_ok _)])
 have hL := hid (show (rcC rc0).toArray.size = (rcC (recE S.s.wd)).toArray.size by rw [List.size_toArray, List.size_toArray, rcC_len (recE_ok _), rcC_len rc0_ok])
 have hO := hid (all_oneCell_toArray (rcC_one (recE S.s.wd)))
 have AL := hid (fun (w : World) (ops : Array Oper) (rest : List Oper) (o : Oper) (a : Act) (Q : Exit -> Act -> World -> Prop) => @wpList_allocRc w ops rest o a Q)
 generalize (rcC rc0).toArray = C at *
 generalize (rcC (recE S.s.wd)).toArray = CE at *
 generalize emptyD S.s.wd 256 = D at *
 generalize hwd : S.s.wd = wd at *
 have HWD := hid hwd
 clear hwd
 generalize S.s = s at *
 have HR0 := hid hr0
 have HB0 := hid hb0
 clear h hG hb0 hr0
 go_enter Tryz.func37, Tryz.ntmps37
 go_wp2_with (first | refine AL.out _ _ _ _ _ _ rfl rfl ?_)
 refine KS.out.mono ?_
 rintro e w1 ⟨rfl, hb1⟩
 have HB1 := hid (HB0.out.trans (hb1.mono HB0.out.size))
 have R1 := hid ((hb1.block _ (hlt HR0.out)).trans HR0.out)
 clear hb1 KS HR0 HB0
 go_wp2_with (first | refine wpList_fieldS0 rfl _ rfl s wd HWD.out rfl ?_)
 refine (KE.out w1 HB1.out).mono ?_
 rintro e w2 ⟨rfl, hb2⟩
 have HB2 := hid (HB1.out.trans (hb2.mono HB1.out.size))
 have R2 := hid ((hb2.block _ (hlt R1.out)).trans R1.out)
 clear hb2 KE R1 HB1
 have r3 : (w2.setRow w.heap.size CE).heap[w.heap.size]? = _ := setRow_heap w2 _ _ _ _ _ R2.out
 have HB3 := hid (below_setRow HB2.out (Nat.le_refl _) CE)
 have R3 := hid r3
 clear r3
 go_wp2_with (first
   | refine wpList_built (by rfl) 49 _ rfl _ rfl _ BE.out ?_
   | refine wpList_store_row (by rfl) 49 (.tmp 2) (.tmp 7) (by rfl) w.heap.size CE (by rfl) (by rfl) 49 C R2.out hN.out hL.out hO.out ?_)
 exact bodyPost_ret (v := .agg CE) (results_c1 Tryz.results37 _ _ w.heap.size 49 _ _ _ rfl R3.out Tryz.underlying49 rfl hN.out) rfl ⟨rfl, HB3.out⟩
def FindP (w : World) (base : Nat) (S : Sto) (P : List (Int × List Int)) (b : Nat) (C : List Value) (n c : Int) (e : Ending) (w' : World) : Prop := ∃ S', e = .returned (.tuple #[.agg C.toArray, .int .i64 n, .int .i64 c]) /\ Ls w' base S' P b /\ Stp w S w' S'
theorem find_ver (w : World) (base : Nat) (S : Sto) (P : List (Int × List Int)) (b : Nat) (h : Ls w base S P b) (hb : b <= 100000000000000000) (q : Int) (r : Rc) (hst : Stands P q r) (v : Int) (hv0 : 0 <= v) (hv : r.v < v) :
   Calls Tryz.prog 15 #[.pointer (some ⟨S.st, 0, none⟩), .int .i64 q, .int .i64 v] w (FindP w base S P (b + 1) (rcC rc0) 0 151) := by
 have hrb := hst.right.1
 have hb0 := below_new w (.cells (rcC rc0).toArray 49)
 have KR := hid (h.ready q (Or.inr ⟨hst.lo, hst.hi⟩) _ hb0)
 have AS2 := hid allocSp
 have LC0 := hid (spC_len 0 rc0_ok)
 have LQ := hid (spC_len q hst.ok)
 have OQ := hid (spC_one q r)
 have q1 := hid (show (spC q r)[1]? = some (.int .i64 r.v) from rfl)
 have q2 := hid (show (spC q r)[2]? = some (.int .i64 r.f) from rfl)
 have hq0 : (q == 0) = false := by have := hst.lo; simp; omega
 have KL := hid (fun (w1 : World) (hl : Ls w1 base S P b) => look_any w1 base S P b hl (by omega) q ⟨hst.lo, hst.hi⟩)
 have EV := hid (show lookS P q = spC q r by unfold lookS; rw [hst.lk])
 have EE := hid (show lookE P q = 0 by unfold lookE; rw [hst.lk])
 have BR := hid built_rc0
 have hN := hid (show (Tryz.prog.info? 49).map (·.size) = some (rcC rc0).toArray.size by rw [Tryz.sizeRc, List.size_toArray, rcC_len rc0_ok])
 have hO := hid (all_oneCell_toArray (rcC_one rc0))
 have AL := hid (fun (w : World) (ops : Array Oper) (rest : List Oper) (o : Oper) (a : Act) (Q : Exit -> Act -> World -> Prop) => @wpList_allocRc w ops rest o a Q)
 have HL1 := hid ((Lc.start h).alloc (rcC rc0) 49)
 have LZ0 := hid (rcC_len rc0_ok)
 generalize hZ : spC q r = Z at *
 generalize spC 0 rc0 = Z0 at *
 generalize hC : rcC rc0 = C at *
 generalize r.v = rv at *
 generalize r.f = rf at *
 have HSTS := hid hst
 have HZ := hid hZ
 have HC := hid hC
 clear h hst hb0 hZ hC
 go_enter Tryz.func15, Tryz.ntmps15
 go_wp2_with (first | (refine AL.out _ _ _ _ _ _ rfl rfl ?_))
 refine KR.out.mono ?_
 rintro e W1 ⟨rfl, hb1⟩
 have HL1' := hid (HL1.out.call hb1)
 clear HL1 KR hb1
 go_wp2_with fail
 refine (KL.out W1 HL1'.out.ls).mono ?_
 rintro e W2 ⟨S2, rfl, hl2, hs2⟩
 have HL2 := hid (HL1'.out.store hl2 hs2)
 have ST2 := hid hs2.st
 have SS2 := hid hs2.s
 clear hl2 hs2 HL1' KL
 rw [EV.out, EE.out]
 go_wp2_with (first
   | (refine wpList_new AS2.out LC0.out Tryz.sizeSp rfl rfl rfl _ _ rfl rfl Z rfl rfl LQ.out OQ.out ?_; refine Hid.out ?_))
 refine hid ?_
 have HL3 := hid (HL2.out.alloc Z 91)
 generalize hG10 : W2.heap.size = G10 at *
 have NE := hid (show w.heap.size ≠ G10 by have := HL2.out.lt (k := w.heap.size) (C := C) (t := 49) (by simp); omega)
 clear HL2 hG10
 generalize W2.alloc (.cells Z.toArray 91) = W3 at *
 have c81 := HL3.out.cell (k := G10) (C := Z) (t := 91) (j := 1) (by simp) q1.out
 have c82 := HL3.out.cell (k := G10) (C := Z) (t := 91) (j := 2) (by simp) q2.out
 have r3 := HL3.out.row (k := w.heap.size) (C := C) (t := 49) (by simp)
 have HL4 := hid (HL3.out.set (k := w.heap.size) (C := C) (t := 49) (by simp) C [] (fun x q => by cases q))
 go_wp2_with (first
   | refine wpList_built (by rfl) 49 _ rfl _ rfl _ BR.out ?_
   | refine wpList_store_row (by rfl) 49 (.tmp 6) (.tmp 49) (by rfl) w.heap.size C.toArray (by rfl) (by rfl) 49 C.toArray (by exact r3) hN.out rfl hO.out ?_)
 exact bodyPost_ret (v := .tuple #[.agg C.toArray, .int .i64 0, .int .i64 151]) (resC3 Tryz.results15 _ _ w.heap.size 49 _ _ _ rfl (HL4.out.row (k := w.heap.size) (C := C) (t := 49) (by simp)) Tryz.underlying49 rfl hN.out) rfl ⟨S2, rfl, HL4.out.ls, HL4.out.sp⟩
theorem find_gone (w : World) (base : Nat) (S : Sto) (P : List (Int × List Int)) (b : Nat) (h : Ls w base S P b) (hb : b <= 100000000000000000) (q : Int) (r : Rc) (hst : Stands P q r) (v : Int) (hv0 : 0 <= v) (hv : v < r.f) :
   Calls Tryz.prog 15 #[.pointer (some ⟨S.st, 0, none⟩), .int .i64 q, .int .i64 v] w (FindP w base S P (b + 1) (rcC rc0) 0 152) := by
 have hrb := hst.right.1
 have hb0 := below_new w (.cells (rcC rc0).toArray 49)
 have KR := hid (h.ready q (Or.inr ⟨hst.lo, hst.hi⟩) _ hb0)
 have AS2 := hid allocSp
 have LC0 := hid (spC_len 0 rc0_ok)
 have LQ := hid (spC_len q hst.ok)
 have OQ := hid (spC_one q r)
 have q1 := hid (show (spC q r)[1]? = some (.int .i64 r.v) from rfl)
 have q2 := hid (show (spC q r)[2]? = some (.int .i64 r.f) from rfl)
 have hq0 : (q == 0) = false := by have := hst.lo; simp; omega
 have KL := hid (fun (w1 : World) (hl : Ls w1 base S P b) => look_any w1 base S P b hl (by omega) q ⟨hst.lo, hst.hi⟩)
 have EV := hid (show lookS P q = spC q r by unfold lookS; rw [hst.lk])
 have EE := hid (show lookE P q = 0 by unfold lookE; rw [hst.lk])
 have BR := hid built_rc0
 have hN := hid (show (Tryz.prog.info? 49).map (·.size) = some (rcC rc0).toArray.size by rw [Tryz.sizeRc, List.size_toArray, rcC_len rc0_ok])
 have hO := hid (all_oneCell_toArray (rcC_one rc0))
 have AL := hid (fun (w : World) (ops : Array Oper) (rest : List Oper) (o : Oper) (a : Act) (Q : Exit -> Act -> World -> Prop) => @wpList_allocRc w ops rest o a Q)
 have HL1 := hid ((Lc.start h).alloc (rcC rc0) 49)
 have hv2 : v <= r.v := by have := hrb.2.1; omega
 have LZ0 := hid (rcC_len rc0_ok)
 generalize hZ : spC q r = Z at *
 generalize spC 0 rc0 = Z0 at *
 generalize hC : rcC rc0 = C at *
 generalize r.v = rv at *
 generalize r.f = rf at *
 have HSTS := hid hst
 have HZ := hid hZ
 have HC := hid hC
 clear h hst hb0 hZ hC
 go_enter Tryz.func15, Tryz.ntmps15
 go_wp2_with (first | (refine AL.out _ _ _ _ _ _ rfl rfl ?_))
 refine KR.out.mono ?_
 rintro e W1 ⟨rfl, hb1⟩
 have HL1' := hid (HL1.out.call hb1)
 clear HL1 KR hb1
 go_wp2_with fail
 refine (KL.out W1 HL1'.out.ls).mono ?_
 rintro e W2 ⟨S2, rfl, hl2, hs2⟩
 have HL2 := hid (HL1'.out.store hl2 hs2)
 have ST2 := hid hs2.st
 have SS2 := hid hs2.s
 clear hl2 hs2 HL1' KL
 rw [EV.out, EE.out]
 go_wp2_with (first
   | (refine wpList_new AS2.out LC0.out Tryz.sizeSp rfl rfl rfl _ _ rfl rfl Z rfl rfl LQ.out OQ.out ?_; refine Hid.out ?_))
 refine hid ?_
 have HL3 := hid (HL2.out.alloc Z 91)
 generalize hG10 : W2.heap.size = G10 at *
 have NE := hid (show w.heap.size ≠ G10 by have := HL2.out.lt (k := w.heap.size) (C := C) (t := 49) (by simp); omega)
 clear HL2 hG10
 generalize W2.alloc (.cells Z.toArray 91) = W3 at *
 have c81 := HL3.out.cell (k := G10) (C := Z) (t := 91) (j := 1) (by simp) q1.out
 have c82 := HL3.out.cell (k := G10) (C := Z) (t := 91) (j := 2) (by simp) q2.out
 have r3 := HL3.out.row (k := w.heap.size) (C := C) (t := 49) (by simp)
 have HL4 := hid (HL3.out.set (k := w.heap.size) (C := C) (t := 49) (by simp) C [] (fun x q => by cases q))
 go_wp2_with (first
   | refine wpList_built (by rfl) 49 _ rfl _ rfl _ BR.out ?_
   | refine wpList_store_row (by rfl) 49 (.tmp 6) (.tmp 56) (by rfl) w.heap.size C.toArray (by rfl) (by rfl) 49 C.toArray (by exact r3) hN.out rfl hO.out ?_)
 exact bodyPost_ret (v := .tuple #[.agg C.toArray, .int .i64 0, .int .i64 152]) (resC3 Tryz.results15 _ _ w.heap.size 49 _ _ _ rfl (HL4.out.row (k := w.heap.size) (C := C) (t := 49) (by simp)) Tryz.underlying49 rfl hN.out) rfl ⟨S2, rfl, HL4.out.ls, HL4.out.sp⟩
theorem find_zero (w : World) (base : Nat) (S : Sto) (P : List (Int × List Int)) (b : Nat) (h : Ls w base S P b) (hb : b <= 100000000000000000) (q : Int) (r : Rc) (hst : Stands P q r) (v : Int) (hv0 : 0 <= v) (hz : v = 0) (hf : r.f = 0) (hG : Glob w) (hB : 2 <= base) :
   Calls Tryz.prog 15 #[.pointer (some ⟨S.st, 0, none⟩), .int .i64 q, .int .i64 v] w (FindP w base S P (b + 1) (rcC (recE S.s.wd)) 1 0) := by
 have hrb := hst.right.1
 have hb0 := below_new w (.cells (rcC rc0).toArray 49)
 have KR := hid (h.ready q (Or.inr ⟨hst.lo, hst.hi⟩) _ hb0)
 have AS2 := hid allocSp
 have LC0 := hid (spC_len 0 rc0_ok)
 have LQ := hid (spC_len q hst.ok)
 have OQ := hid (spC_one q r)
 have q1 := hid (show (spC q r)[1]? = some (.int .i64 r.v) from rfl)
 have q2 := hid (show (spC q r)[2]? = some (.int .i64 r.f) from rfl)
 have hq0 : (q == 0) = false := by have := hst.lo; simp; omega
 have KL := hid (fun (w1 : World) (hl : Ls w1 base S P b) => look_any w1 base S P b hl (by omega) q ⟨hst.lo, hst.hi⟩)
 have EV := hid (show lookS P q = spC q r by unfold lookS; rw [hst.lk])
 have EE := hid (show lookE P q = 0 by unfold lookE; rw [hst.lk])
 have BR := hid built_rc0
 have hN := hid (show (Tryz.prog.info? 49).map (·.size) = some (rcC rc0).toArray.size by rw [Tryz.sizeRc, List.size_toArray, rcC_len rc0_ok])
 have hO := hid (all_oneCell_toArray (rcC_one rc0))
 have AL := hid (fun (w : World) (ops : Array Oper) (rest : List Oper) (o : Oper) (a : Act) (Q : Exit -> Act -> World -> Prop) => @wpList_allocRc w ops rest o a Q)
 have HL1 := hid ((Lc.start h).alloc (rcC rc0) 49)
 have hv2 : 0 <= r.v := by have := hrb.2.2.1; omega
 have HGL := hid hG
 have HBB := hid hB
 have HSK := hid h.sk
 have hz1 : (v == 0) = true := by simpa using hz
 clear hG
 subst hz
 have LZ0 := hid (rcC_len rc0_ok)
 generalize hZ : spC q r = Z at *
 generalize spC 0 rc0 = Z0 at *
 generalize hC : rcC rc0 = C at *
 generalize r.v = rv at *
 generalize r.f = rf at *
 have HSTS := hid hst
 have HZ := hid hZ
 have HC := hid hC
 clear h hst hb0 hZ hC
 go_enter Tryz.func15, Tryz.ntmps15
 go_wp2_with (first | (refine AL.out _ _ _ _ _ _ rfl rfl ?_))
 refine KR.out.mono ?_
 rintro e W1 ⟨rfl, hb1⟩
 have HL1' := hid (HL1.out.call hb1)
 clear HL1 KR hb1
 go_wp2_with fail
 refine (KL.out W1 HL1'.out.ls).mono ?_
 rintro e W2 ⟨S2, rfl, hl2, hs2⟩
 have HL2 := hid (HL1'.out.store hl2 hs2)
 have ST2 := hid hs2.st
 have SS2 := hid hs2.s
 clear hl2 hs2 HL1' KL
 rw [EV.out, EE.out]
 go_wp2_with (first
   | (refine wpList_new AS2.out LC0.out Tryz.sizeSp rfl rfl rfl _ _ rfl rfl Z rfl rfl LQ.out OQ.out ?_; refine Hid.out ?_))
 refine hid ?_
 have HL3 := hid (HL2.out.alloc Z 91)
 generalize hG10 : W2.heap.size = G10 at *
 have NE := hid (show w.heap.size ≠ G10 by have := HL2.out.lt (k := w.heap.size) (C := C) (t := 49) (by simp); omega)
 clear HL2 hG10
 generalize W2.alloc (.cells Z.toArray 91) = W3 at *
 have c81 := HL3.out.cell (k := G10) (C := Z) (t := 91) (j := 1) (by simp) q1.out
 have c82 := HL3.out.cell (k := G10) (C := Z) (t := 91) (j := 2) (by simp) q2.out
 have KE := hid (iempty_any W3 base S2 HL3.out.ls.sk (HGL.out.below (HL3.out.sp.below HSK.out) HBB.out))
 rw [ST2.out, SS2.out] at KE
 have hNE := hid (show (Tryz.prog.info? 49).map (·.size) = some (rcC (recE S.s.wd)).toArray.size by rw [Tryz.sizeRc, List.size_toArray, rcC_len (recE_ok _)])
 have hLE := hid (show C.toArray.size = (rcC (recE S.s.wd)).toArray.size by rw [List.size_toArray, List.size_toArray, rcC_len (recE_ok _), LZ0.out])
 have hOE := hid (all_oneCell_toArray (rcC_one (recE S.s.wd)))
 generalize rcC (recE S.s.wd) = CE at *
 go_wp2_with fail
 refine KE.out.mono ?_
 rintro e W4 ⟨rfl, hb4⟩
 have HL4 := hid (HL3.out.call hb4)
 clear hb4 KE HL3 c81 c82
 have r3 := HL4.out.row (k := w.heap.size) (C := C) (t := 49) (by simp)
 have HL5 := hid (HL4.out.set (k := w.heap.size) (C := C) (t := 49) (by simp) CE [] (fun x q => by cases q))
 go_wp2_with (first
   | refine wpList_store_row (by rfl) 49 (.tmp 6) (.tmp 61) (by rfl) w.heap.size CE.toArray (by rfl) (by rfl) 49 C.toArray (by exact r3) hNE.out hLE.out hOE.out ?_)
 exact bodyPost_ret (v := .tuple #[.agg CE.toArray, .int .i64 1, .int .i64 0]) (resC3 Tryz.results15 _ _ w.heap.size 49 _ _ _ rfl (HL5.out.row (k := w.heap.size) (C := CE) (t := 49) (by simp)) Tryz.underlying49 rfl hNE.out) rfl ⟨S2, rfl, HL5.out.ls, HL5.out.sp⟩
theorem find_on (w : World) (base : Nat) (S : Sto) (P : List (Int × List Int)) (b : Nat) (h : Ls w base S P b) (hb : b <= 100000000000000000) (q : Int) (r : Rc) (hst : Stands P q r) (v : Int) (hv0 : 0 <= v) (hv1 : 1 <= v) (hvf : r.f <= v) (hvv : v <= r.v) (Y : List Wy) (hY : Way P (numR v r.f) q r Y) (hy0 : ∀ y ∈ Y, y.2.2 = 0) (hYn : Y.length <= 1000000) :
   Calls Tryz.prog 15 #[.pointer (some ⟨S.st, 0, none⟩), .int .i64 q, .int .i64 v] w (FindP w base S P (b + 1 + Y.length) (rcC (lastRc Y)) (Y.length : Int) 0) := by
 have hrb := hst.right.1
 have hb0 := below_new w (.cells (rcC rc0).toArray 49)
 have KR := hid (h.ready q (Or.inr ⟨hst.lo, hst.hi⟩) _ hb0)
 have AS2 := hid allocSp
 have LC0 := hid (spC_len 0 rc0_ok)
 have LQ := hid (spC_len q hst.ok)
 have OQ := hid (spC_one q r)
 have q1 := hid (show (spC q r)[1]? = some (.int .i64 r.v) from rfl)
 have q2 := hid (show (spC q r)[2]? = some (.int .i64 r.f) from rfl)
 have hq0 : (q == 0) = false := by have := hst.lo; simp; omega
 have KL := hid (fun (w1 : World) (hl : Ls w1 base S P b) => look_any w1 base S P b hl (by omega) q ⟨hst.lo, hst.hi⟩)
 have EV := hid (show lookS P q = spC q r by unfold lookS; rw [hst.lk])
 have EE := hid (show lookE P q = 0 by unfold lookE; rw [hst.lk])
 have BR := hid built_rc0
 have hN := hid (show (Tryz.prog.info? 49).map (·.size) = some (rcC rc0).toArray.size by rw [Tryz.sizeRc, List.size_toArray, rcC_len rc0_ok])
 have hO := hid (all_oneCell_toArray (rcC_one rc0))
 have AL := hid (fun (w : World) (ops : Array Oper) (rest : List Oper) (o : Oper) (a : Act) (Q : Exit -> Act -> World -> Prop) => @wpList_allocRc w ops rest o a Q)
 have HL1 := hid ((Lc.start h).alloc (rcC rc0) 49)
 have hnu : 1 <= numR v r.f := by unfold numR; split <;> omega
 have KNU := hid (fun w1 => number_any w1 v r.f (by have := hrb.1; omega) hvf (by have := hrb.2.2.2; omega))
 have hvz : (v == 0) = false := by simp; omega
 have hyl : (Y.length : Int) <= 1000000 := by omega
 have KLA := hid (fun (w1 : World) (S1 : Sto) (hl : Ls w1 base S1 P (b + 1)) (hs : S1.st = S.st) => by
   have := last_way w1 base S1 P (b + 1) hl q r hst (numR v r.f) hnu Y hY (by omega) hy0
   rw [hs] at this
   exact this)
 have hNL := hid (show (Tryz.prog.info? 49).map (·.size) = some (rcC (lastRc Y)).toArray.size by rw [Tryz.sizeRc, List.size_toArray, rcC_len (lastRc_ok _)])
 have hLL := hid (show (rcC rc0).toArray.size = (rcC (lastRc Y)).toArray.size by rw [List.size_toArray, List.size_toArray, rcC_len (lastRc_ok _), rcC_len rc0_ok])
 have hOL := hid (all_oneCell_toArray (rcC_one (lastRc Y)))
 have SZ := hid (show (Tryz.prog.info? 91).map (·.size) = some (spC q r).length by rw [Tryz.sizeSp, spC_len q hst.ok])
 generalize hbY : b + 1 + Y.length = bY at *
 generalize rcC (lastRc Y) = CL at *
 generalize (Y.length : Int) = n at *
 clear hY hy0 hYn
 generalize numR v r.f = nu at *
 have LZ0 := hid (rcC_len rc0_ok)
 generalize hZ : spC q r = Z at *
 generalize spC 0 rc0 = Z0 at *
 generalize hC : rcC rc0 = C at *
 generalize r.v = rv at *
 generalize r.f = rf at *
 have HSTS := hid hst
 have HZ := hid hZ
 have HC := hid hC
 clear h hst hb0 hZ hC
 go_enter Tryz.func15, Tryz.ntmps15
 go_wp2_with (first | (refine AL.out _ _ _ _ _ _ rfl rfl ?_))
 refine KR.out.mono ?_
 rintro e W1 ⟨rfl, hb1⟩
 have HL1' := hid (HL1.out.call hb1)
 clear HL1 KR hb1
 go_wp2_with fail
 refine (KL.out W1 HL1'.out.ls).mono ?_
 rintro e W2 ⟨S2, rfl, hl2, hs2⟩
 have HL2 := hid (HL1'.out.store hl2 hs2)
 have ST2 := hid hs2.st
 have SS2 := hid hs2.s
 clear hl2 hs2 HL1' KL
 rw [EV.out, EE.out]
 go_wp2_with (first
   | (refine wpList_new AS2.out LC0.out Tryz.sizeSp rfl rfl rfl _ _ rfl rfl Z rfl rfl LQ.out OQ.out ?_; refine Hid.out ?_))
 refine hid ?_
 have HL3 := hid (HL2.out.alloc Z 91)
 generalize hG10 : W2.heap.size = G10 at *
 have NE := hid (show w.heap.size ≠ G10 by have := HL2.out.lt (k := w.heap.size) (C := C) (t := 49) (by simp); omega)
 clear HL2 hG10
 generalize W2.alloc (.cells Z.toArray 91) = W3 at *
 have c81 := HL3.out.cell (k := G10) (C := Z) (t := 91) (j := 1) (by simp) q1.out
 have c82 := HL3.out.cell (k := G10) (C := Z) (t := 91) (j := 2) (by simp) q2.out
 have HLD := hid HL3.out.drew
 have RG : Hid (W3.drew.rangeAt G10 0 Z) := hid (fun j x hv => by rw [Nat.zero_add]; exact HLD.out.cell (k := G10) (C := Z) (t := 91) (by simp) hv)
 have c82d := hid (HLD.out.cell (k := G10) (C := Z) (t := 91) (j := 2) (by simp) q2.out)
 go_upto_region 19 with fail
 refine wp_region_noPanic ?_
 refine wp_region_held_drew (S := fun w' => w'.rangeAt G10 0 Z /\ w'.cell? ⟨G10, 2, none⟩ = some (.int .i64 rf)) (by kernel_rfl) ⟨RG.out, c82d.out⟩ (fun hHeld => ?_)
 refine tkA 0 (.pointer (some ⟨S.st, 0, none⟩)) rfl hHeld ?_
 try go_frame
 refine tqA 1 (.agg Z.toArray) rfl (yieldsIf_load_mid (by rfl) 91 _ rfl G10 0 rfl Z _ (fun w hS => hS.1) Tryz.underlying91 rfl SZ.out) hHeld ?_
 try go_frame
 refine tkA 2 (.int .i64 v) rfl hHeld ?_
 try go_frame
 refine tkA 3 (.pointer (some ⟨G10, 1, none⟩)) rfl hHeld ?_
 try go_frame
 refine tkA 4 (.pointer (some ⟨G10, 2, none⟩)) rfl hHeld ?_
 try go_frame
 refine tqA 5 (.int .i64 rf) rfl (yA (by intro w hS; have hc := hS.2; go_simp)) hHeld ?_
 try go_frame
 refine rdA 6 rfl (fun K hK => ?_)
 go_simp
 go_at_call 40
 refine (KNU.out _).mono ?_
 rintro e W4 ⟨rfl, hb4⟩
 have HL4 := hid (HLD.out.call hb4)
 clear hb4
 go_wp2_with fail
 refine hK.out _ _ (⟨fun j x hv => by rw [Nat.zero_add]; exact HL4.out.cell (k := G10) (C := Z) (t := 91) (by simp) hv, HL4.out.cell (k := G10) (C := Z) (t := 91) (j := 2) (by simp) q2.out⟩) ?_
 clear hK K hHeld
 intro hHeld
 try go_frame
 refine rdA 7 rfl (fun K hK => ?_)
 go_simp
 go_at_call 39
 refine (KLA.out W4 S2 HL4.out.ls ST2.out).mono ?_
 rintro e W5 ⟨S5, rfl, hl5, hs5⟩
 have HL5 := hid (HL4.out.store hl5 hs5)
 clear hl5 hs5
 go_wp2_with fail
 refine hK.out _ _ (⟨fun j x hv => by rw [Nat.zero_add]; exact HL5.out.cell (k := G10) (C := Z) (t := 91) (by simp) hv, HL5.out.cell (k := G10) (C := Z) (t := 91) (j := 2) (by simp) q2.out⟩) ?_
 clear hK K hHeld
 intro hHeld
 try go_frame
 refine tkA 8 (.agg CL.toArray) rfl hHeld ?_
 try go_frame
 refine tkA 9 (.int .i64 n) rfl hHeld ?_
 try go_frame
 refine tkA 10 (.int .i64 0) rfl hHeld ?_
 try go_frame
 refine rdA 11 rfl (fun K hK => ?_)
 refine step_storeRowC rfl 49 (.tmp 6) (.tmp 70) rfl w.heap.size CL.toArray rfl rfl 49 C.toArray (HL5.out.row (k := w.heap.size) (C := C) (t := 49) (by simp)) hNL.out hLL.out hOL.out ?_
 have HL6 := hid (HL5.out.set (k := w.heap.size) (C := C) (t := 49) (by simp) CL [(G10, Z, 91)] (fun x q => by
   obtain rfl := List.mem_singleton.1 q
   exact ⟨by simp, fun z => NE.out z.symm⟩))
 refine hK.out _ _ (⟨fun j x hv => by rw [Nat.zero_add]; exact HL6.out.cell (k := G10) (C := Z) (t := 91) (by simp) hv, HL6.out.cell (k := G10) (C := Z) (t := 91) (j := 2) (by simp) q2.out⟩) ?_
 clear hK K hHeld
 intro hHeld
 try go_frame
 refine tkA 12 (.int .i64 n) rfl hHeld ?_
 try go_frame
 refine tkA 13 (.int .i64 0) rfl hHeld ?_
 try go_frame
 refine wdA ?_
 clear hHeld
 go_wp2_with fail
 exact bodyPost_ret (v := .tuple #[.agg CL.toArray, .int .i64 n, .int .i64 0]) (resC3 Tryz.results15 _ _ w.heap.size 49 _ _ _ rfl (HL6.out.row (k := w.heap.size) (C := CL) (t := 49) (by simp)) Tryz.underlying49 rfl hNL.out) rfl ⟨S5, rfl, HL6.out.ls, HL6.out.sp⟩
end Go.Proofs.YtbnghhgeoodphaaGreatDoor
namespace Go.Proofs.YtbnghhgeoodphaaGreatDoor
set_option maxRecDepth 100000
set_option maxHeartbeats 40000000
set_option linter.unusedVariables false
set_option linter.unusedSimpArgs false
open Go.RowKit
theorem verN_pos {first : Int} (f0 : 0 <= first) (k : Nat) (h : 1 <= k) : 1 <= verN first k /\ first <= verN first k := by
 unfold verN
 split <;> omega
theorem verN_num {first : Int} (f0 : 0 <= first) (k : Nat) (h : 1 <= k) : numR (verN first k) first = (k : Int) := by
 unfold numR verN
 split <;> omega
theorem verN_le {first : Int} {j k : Nat} (h : j <= k) : verN first j <= verN first k := by
 unfold verN
 split <;> omega
theorem FindP.wide {w : World} {base : Nat} {S : Sto} {P : List (Int × List Int)} {b b1 : Nat} {C : List Value} {n c : Int} {e : Ending} {w' : World} (h : FindP w base S P b C n c e w') (hb : b <= b1) : FindP w base S P b1 C n c e w' := by
 obtain ⟨S', h1, h2, h3⟩ := h
 exact ⟨S', h1, h2.more _ hb, h3⟩
theorem find_chain {first : Int} {T : Nat} {xs : List IR} (hok : ChOk first T xs) (i j : Nat) (hij : j <= i) (hi : i < xs.length) : ∃ n : Nat, 1 <= n /\ (j < i -> 2 <= n) /\ (∀ d, i + 1 < 2 ^ d -> 2 * n <= d * (d + 1)) /\ n <= 78 ∧
   ∀ (w : World) (base : Nat) (S : Sto) (b : Nat), Ls w base S (chP first T xs) b -> b <= 100000000000000000 -> Calls Tryz.prog 15 #[.pointer (some ⟨S.st, 0, none⟩), .int .i64 (pgN T (i + 1)), .int .i64 (verN first (j + 1))] w (FindP w base S (chP first T xs) (b + 79) (rcC (recN first T (j + 1) (xs.getD j dIR))) n 0) := by
 have hn4 := hok.n4
 obtain ⟨Y, hY, y1, y2, y3⟩ := hok.wayB (j + 1) (by omega) (i + 1) i (by omega) hi (by omega)
 have few := fun d hd => Wl.few (by omega) d (i + 1) Y.length (by omega) hd y3
 have h78 : Y.length <= 78 := by
   have := few 12 (by omega)
   omega
 have pos := y3.pos
 have hst := hok.stands i hi
 have hrok : RcOk (recN first T (j + 1) (xs.getD j dIR)) := ⟨(hok.at j (by omega)).sm⟩
 have el : lastRc Y = recN first T (j + 1) (xs.getD j dIR) := by
   unfold lastRc
   rw [y2]
   show fxR (recN first T (j + 1) (xs.getD (j + 1 - 1) dIR)) = _
   rw [show j + 1 - 1 = j by omega]
   exact fxR_ok hrok
 obtain ⟨v1, v2⟩ := verN_pos hok.f0 (j + 1) (by omega)
 have v3 : verN first (j + 1) <= verN first (i + 1) := verN_le (by omega)
 refine ⟨Y.length, pos.1, fun q => pos.2 (by omega), few, h78, fun w base S b hl hb => ?_⟩
 have hY2 : Way (chP first T xs) (numR (verN first (j + 1)) first) (pgN T (i + 1)) (recN first T (i + 1) (xs.getD i dIR)) Y := by rw [verN_num hok.f0 _ (by omega)]; exact hY
 have := find_on w base S (chP first T xs) b hl hb (pgN T (i + 1)) _ hst (verN first (j + 1)) (by omega) v1 v2 v3 Y hY2 y1 (by omega)
 rw [el] at this
 exact this.mono fun e w' q => q.wide (by omega)
theorem find_above {first : Int} {T : Nat} {xs : List IR} (hok : ChOk first T xs) (i : Nat) (hi : i < xs.length) (w : World) (base : Nat) (S : Sto) (b : Nat) (hl : Ls w base S (chP first T xs) b) (hb : b <= 100000000000000000) :
   Calls Tryz.prog 15 #[.pointer (some ⟨S.st, 0, none⟩), .int .i64 (pgN T (i + 1)), .int .i64 (verN first (i + 1) + 1)] w (FindP w base S (chP first T xs) (b + 79) (rcC rc0) 0 151) := by
 obtain ⟨v1, v2⟩ := verN_pos hok.f0 (i + 1) (by omega)
 refine (find_ver w base S (chP first T xs) b hl hb (pgN T (i + 1)) _ (hok.stands i hi) (verN first (i + 1) + 1) (by omega) ?_).mono fun e w' q => q.wide (by omega)
 show verN first (i + 1) < verN first (i + 1) + 1
 omega
theorem find_below {first : Int} {T : Nat} {xs : List IR} (hok : ChOk first T xs) (i : Nat) (hi : i < xs.length) (v : Int) (h0 : 0 <= v) (hv : v < first) (w : World) (base : Nat) (S : Sto) (b : Nat) (hl : Ls w base S (chP first T xs) b) (hb : b <= 100000000000000000) :
   Calls Tryz.prog 15 #[.pointer (some ⟨S.st, 0, none⟩), .int .i64 (pgN T (i + 1)), .int .i64 v] w (FindP w base S (chP first T xs) (b + 79) (rcC rc0) 0 152) :=
 (find_gone w base S (chP first T xs) b hl hb (pgN T (i + 1)) _ (hok.stands i hi) v h0 hv).mono fun e w' q => q.wide (by omega)
theorem find_null {first : Int} {T : Nat} {xs : List IR} (hok : ChOk first T xs) (i : Nat) (hi : i < xs.length) (hf : first = 0) (w : World) (hG : Glob w) (base : Nat) (hB : 2 <= base) (S : Sto) (b : Nat) (hl : Ls w base S (chP first T xs) b) (hb : b <= 100000000000000000) :
   Calls Tryz.prog 15 #[.pointer (some ⟨S.st, 0, none⟩), .int .i64 (pgN T (i + 1)), .int .i64 0] w (FindP w base S (chP first T xs) (b + 79) (rcC (recE S.s.wd)) 1 0) :=
 (find_zero w base S (chP first T xs) b hl hb (pgN T (i + 1)) _ (hok.stands i hi) 0 (by omega) rfl hf hG hB).mono fun e w' q => q.wide (by omega)
structure RZ (w0 : World) (base : Nat) (S0 S : Sto) (P : List (Int × List Int)) (b c : Nat) (rv pv : Value) (recs : List Rc) (pgs : List Int) (L : List (Nat × List Value × Nat)) (wx : World) : Prop where
 lc : Lc w0 base S0 P b wx S L
 cn : Cn wx base S P b c rv pv recs pgs
 old : ∀ i, i = c \/ rv.ownBlock = some i \/ pv.ownBlock = some i -> i < w0.heap.size
section
variable {w0 wx w1 : World} {base b c : Nat} {S0 S : Sto} {P : List (Int × List Int)} {rv pv : Value} {recs : List Rc} {pgs : List Int} {L : List (Nat × List Value × Nat)}
theorem RZ.start (h : Cn wx base S P b c rv pv recs pgs) : RZ wx base S S P b c rv pv recs pgs [] wx := ⟨Lc.start h.ls, h, fun i q => (h.lt (Or.inr q)).2⟩
theorem RZ.call (h : RZ w0 base S0 S P b c rv pv recs pgs L wx) (hb : Below wx.heap.size wx w1) : RZ w0 base S0 S P b c rv pv recs pgs L w1 := ⟨h.lc.call hb, h.cn.below hb, h.old⟩
theorem RZ.drew (h : RZ w0 base S0 S P b c rv pv recs pgs L wx) : RZ w0 base S0 S P b c rv pv recs pgs L wx.drew := h.call (Below.refl _ _).drew
theorem RZ.alloc (h : RZ w0 base S0 S P b c rv pv recs pgs L wx) (C : List Value) (t : Nat) : RZ w0 base S0 S P b c rv pv recs pgs ((wx.heap.size, C, t) :: L) (wx.alloc (.cells C.toArray t)) := ⟨h.lc.alloc C t, h.cn.below (below_new wx _), h.old⟩
theorem RZ.store {S1 : Sto} {b1 : Nat} (h : RZ w0 base S0 S P b c rv pv recs pgs L wx) (hl : Ls w1 base S1 P b1) (hs : Stp wx S w1 S1) : RZ w0 base S0 S1 P b1 c rv pv recs pgs L w1 := ⟨h.lc.store hl hs, h.cn.store hl hs, h.old⟩
theorem RZ.set (h : RZ w0 base S0 S P b c rv pv recs pgs L wx) {k t : Nat} {C : List Value} (hm : (k, C, t) ∈ L) (D : List Value) (L1 : List (Nat × List Value × Nat)) (hL : ∀ x ∈ L1, x ∈ L /\ x.1 ≠ k) : RZ w0 base S0 S P b c rv pv recs pgs ((k, D, t) :: L1) (wx.setRow k D.toArray) := by
 obtain ⟨r1, r2, r3⟩ := h.lc.rows _ hm
 refine ⟨h.lc.set hm D L1 hL, h.cn.keep (fun i q => setRow_other wx _ _ _ fun e => ?_) (by simp), h.old⟩
 rcases q with q | q
 · exact r3 (e ▸ q)
 · have := h.old i q
   have r2' : w0.heap.size <= k := r2
   omega
theorem RZ.sub {L1 : List (Nat × List Value × Nat)} (h : RZ w0 base S0 S P b c rv pv recs pgs L wx) (hs : ∀ x ∈ L1, x ∈ L) : RZ w0 base S0 S P b c rv pv recs pgs L1 wx := ⟨h.lc.sub hs, h.cn, h.old⟩
theorem RZ.rg (h : RZ w0 base S0 S P b c rv pv recs pgs L wx) {k t : Nat} {C : List Value} (hm : (k, C, t) ∈ L) : wx.rangeAt k 0 C := fun j v hv => by rw [Nat.zero_add]; exact h.lc.cell hm hv
theorem Cn.cellP {w : World} {gp n pc : Nat} (h : Cn w base S P b c rv (.slice (some ⟨gp, 0, none⟩) n pc) recs pgs) (j : Nat) (hj : j < pgs.length) : w.cell? ⟨gp, j, none⟩ = some (.int .i64 (pgs.getD j 0)) := by
 obtain ⟨g, cap, e, h1, _⟩ := h.page j hj
 obtain ⟨e1, _, _⟩ := Value.slice.inj e
 cases e1
 exact h1
theorem Cn.rowR {w : World} {gr n rc : Nat} (h : Cn w base S P b c (.slice (some ⟨gr, 0, none⟩) n rc) pv recs pgs) (hok : ∀ r ∈ recs, RcOk r) (j : Nat) (hj : j < recs.length) : w.rangeAt gr (j * 38) (rcC (recs.getD j rc0)) := by
 obtain ⟨g, cap, e, h1, _⟩ := h.rec' hok j hj
 obtain ⟨e1, _, _⟩ := Value.slice.inj e
 cases e1
 exact h1
end
def Sx (c st gr gp n rc pc i j : Nat) (pq ver : Int) (C : List Value) (w : World) : Prop :=
 w.cell? ⟨c, 0, none⟩ = some (.pointer (some ⟨st, 0, none⟩)) /\ w.cell? ⟨c, 1, none⟩ = some (.slice (some ⟨gr, 0, none⟩) n rc) /\ w.cell? ⟨c, 2, none⟩ = some (.slice (some ⟨gp, 0, none⟩) n pc) /\ w.cell? ⟨gp, i, none⟩ = some (.int .i64 pq) /\ w.cell? ⟨gr, j * 38, none⟩ = some (.int .i64 ver) /\ w.rangeAt gr (j * 38) C
theorem RZ.sx {w0 wx : World} {base b c : Nat} {S0 S : Sto} {L : List (Nat × List Value × Nat)} {first : Int} {T : Nat} {xs : List IR} (hok : ChOk first T xs) {gr gp rc pc st : Nat} (h : RZ w0 base S0 S (chP first T xs) b c (.slice (some ⟨gr, 0, none⟩) xs.length rc) (.slice (some ⟨gp, 0, none⟩) xs.length pc) (recsOf first T xs) (pgsOf T xs.length) L wx) (hst : S0.st = st) (i j : Nat) (hi : i < xs.length) (hj : j < xs.length) :
   Sx c st gr gp xs.length rc pc i j (pgN T (i + 1)) (verN first (j + 1)) (rcC (recN first T (j + 1) (xs.getD j dIR))) wx := by
 have r := h.cn.rowR (recsOf_ok hok) j (by rw [recsOf_len]; exact hj)
 rw [recsOf_at first T xs j hj] at r
 refine ⟨by rw [<- hst, <- h.lc.sp.st]; exact h.cn.c0, h.cn.c1, h.cn.c2, ?_, ?_, r⟩
 · have := h.cn.cellP i (by rw [pgsOf_len]; exact hi)
   rwa [pgsOf_at T xs.length i hi] at this
 · exact r 0 _ rfl
structure Ak where
 h : Int
 v : Int
def dAk : Ak := ⟨0, 0⟩
structure AkOk (x : Ak) : Prop where
 h : -9223372036854775808 <= x.h /\ x.h <= 9223372036854775807
 v : -9223372036854775808 <= x.v /\ x.v <= 9223372036854775807
def akC (x : Ak) : List Value := [.int .i64 x.h, .int .i64 x.v]
def SrcA (base : Nat) (w : World) (sp : Option Addr) (l : List Ak) : Prop := ∃ b o, (0 < l.length -> b < base) /\ (0 < l.length -> sp = some ⟨b, o, none⟩) /\ ∀ j, j < l.length -> w.rangeAt b (o + j * 2) (akC (l.getD j dAk))
theorem SrcA.below {base : Nat} {w w1 : World} {sp : Option Addr} {l : List Ak} (h : SrcA base w sp l) (hb : Below base w w1) : SrcA base w1 sp l := by
 obtain ⟨b, o, h1, h2, h3⟩ := h
 exact ⟨b, o, h1, h2, fun j hj => rng_below (h3 j hj) hb (h1 (by omega))⟩
end Go.Proofs.YtbnghhgeoodphaaGreatDoor
