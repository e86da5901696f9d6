import Derived.Test.YtfcogkjmjpgncaaNlz9
namespace Go.Proofs.Ytfcogkjmjpgncaa
set_option linter.unusedVariables false
set_option linter.unusedSimpArgs false
open Go.RowKit
attribute [local go_sem ↓] Go.wp_at_zero Go.wp_at_succ

set_option maxRecDepth 100000 in
set_option maxHeartbeats 4000000 in
theorem sameNode_self (w : World) (n : Nd) (ok : NdOk n) (s1 s2 : Option Addr) (c1 c2 : Nat) (h1 : Src w s1 c1 n.vs) (h2 : Src w s2 c2 n.vs) :
    Calls Try.prog 9 #[.agg (ndC n (.slice s1 n.vs.length c1)).toArray, .agg (ndC n (.slice s2 n.vs.length c2)).toArray] w fun e w' => e = .returned (.bool true) ∧ Below w.heap.size w w' := by
  have d0 := ((BK.nil w).alloc (ndC n (.slice s1 n.vs.length c1)) 32).alloc (ndC n (.slice s2 n.vs.length c2)) 32
  rw [show (w.alloc (.cells (ndC n (.slice s1 n.vs.length c1)).toArray 32)).heap.size = w.heap.size + 1 by simp] at d0
  have SL := hid (show (Try.prog.info? 24).map (·.size) = some (ints .u8 n.ls).length by rw [Try.sizeD, ints_len, ok.ls])
  have SR := hid (show (Try.prog.info? 24).map (·.size) = some (ints .u8 n.rs).length by rw [Try.sizeD, ints_len, ok.rs])
  have SK := hid (show (Try.prog.info? 29).map (·.size) = some (ints .u8 n.k).length by rw [Try.sizeKy, ints_len, ok.k])
  have qL := eqDg_self n.ls ok.ls
  have qR := eqDg_self n.rs ok.rs
  have qK := eqKy_self n.k ok.k
  have gD := Try.guardDg
  have gK := Try.guardK
  have KS := hid (fun w1 (h1 : Src w1 s1 c1 n.vs) (h2 : Src w1 s2 c2 n.vs) => same_self w1 n.vs s1 s2 c1 c2 h1 h2)
  have x0 := d0.cell (.tail _ (.head _)) (v := .int .i64 n.kd) (j := 0) rfl
  have x1 := d0.cell (.tail _ (.head _)) (v := .int .i64 n.l) (j := 1) rfl
  have x2 := d0.cell (.tail _ (.head _)) (v := .int .i64 n.r) (j := 2) rfl
  have x3 := d0.cell (.tail _ (.head _)) (v := .int .i64 n.lc) (j := 3) rfl
  have x4 := d0.cell (.tail _ (.head _)) (v := .int .i64 n.rc) (j := 4) rfl
  have x101 := d0.cell (.tail _ (.head _)) (ndC_v ok (.slice s1 n.vs.length c1))
  have xls := d0.rng (.tail _ (.head _)) (ndC_ls ok (.slice s1 n.vs.length c1))
  have xrs := d0.rng (.tail _ (.head _)) (ndC_rs ok (.slice s1 n.vs.length c1))
  have xk := d0.rng (.tail _ (.head _)) (ndC_k ok (.slice s1 n.vs.length c1))
  have y0 := d0.cell (.head _) (v := .int .i64 n.kd) (j := 0) rfl
  have y1 := d0.cell (.head _) (v := .int .i64 n.l) (j := 1) rfl
  have y2 := d0.cell (.head _) (v := .int .i64 n.r) (j := 2) rfl
  have y3 := d0.cell (.head _) (v := .int .i64 n.lc) (j := 3) rfl
  have y4 := d0.cell (.head _) (v := .int .i64 n.rc) (j := 4) rfl
  have y101 := d0.cell (.head _) (ndC_v ok (.slice s2 n.vs.length c2))
  have yls := d0.rng (.head _) (ndC_ls ok (.slice s2 n.vs.length c2))
  have yrs := d0.rng (.head _) (ndC_rs ok (.slice s2 n.vs.length c2))
  have yk := d0.rng (.head _) (ndC_k ok (.slice s2 n.vs.length c2))
  have S1 := hid (h1.below d0.1 (Nat.le_refl _))
  have S2 := hid (h2.below d0.1 (Nat.le_refl _))
  generalize ndC n (.slice s1 n.vs.length c1) = N1 at *
  generalize ndC n (.slice s2 n.vs.length c2) = N2 at *
  generalize ints .u8 n.ls = IL at *
  generalize ints .u8 n.rs = IR at *
  generalize ints .u8 n.k = IK at *
  generalize n.kd = vk at *
  generalize n.l = vl at *
  generalize n.r = vr at *
  generalize n.lc = vlc at *
  generalize n.rc = vrc at *
  go_enter Try.func9, Try.ntmps9
  go_wp2_with (first
    | refine wpList_load_mid_w (by rfl) 24 _ (by rfl) w.heap.size 5 (by rfl) _ _ xls Try.underlying24 rfl SL.out ?_
    | refine wpList_load_mid_w (by rfl) 24 _ (by rfl) w.heap.size 37 (by rfl) _ _ xrs Try.underlying24 rfl SR.out ?_
    | refine wpList_load_mid_w (by rfl) 29 _ (by rfl) w.heap.size 69 (by rfl) _ _ xk Try.underlying29 rfl SK.out ?_
    | refine wpList_load_mid_w (by rfl) 24 _ (by rfl) (w.heap.size + 1) 5 (by rfl) _ _ yls Try.underlying24 rfl SL.out ?_
    | refine wpList_load_mid_w (by rfl) 24 _ (by rfl) (w.heap.size + 1) 37 (by rfl) _ _ yrs Try.underlying24 rfl SR.out ?_
    | refine wpList_load_mid_w (by rfl) 29 _ (by rfl) (w.heap.size + 1) 69 (by rfl) _ _ yk Try.underlying29 rfl SK.out ?_)
  refine (KS.out _ S1.out S2.out).mono ?_
  rintro e w1 ⟨rfl, hb1⟩
  have d1 := d0.call hb1
  go_wp2
  go_ret
  exact ⟨rfl, d1.1⟩
theorem four_bys (x : Int) : Bys (four x) := fun y hy => by
  simp only [four, List.mem_cons, List.not_mem_nil, or_false] at hy
  rcases hy with rfl | rfl | rfl | rfl <;> omega
theorem Bys.app {a b : List Int} (ha : Bys a) (hb : Bys b) : Bys (a ++ b) := fun x hx => (List.mem_append.1 hx).elim (ha x) (hb x)
structure NdY (n : Nd) : Prop where
  ls : Bys n.ls
  rs : Bys n.rs
  k : Bys n.k
  vs : Bys n.vs
theorem loadP_bys {n : Nd} (h : NdY n) : Bys (loadP n) := by
  unfold loadP
  split
  · exact h.k.app h.vs
  · exact (four_bys _).app ((four_bys _).app ((four_bys _).app ((four_bys _).app (h.ls.app h.rs))))
end Go.Proofs.Ytfcogkjmjpgncaa
