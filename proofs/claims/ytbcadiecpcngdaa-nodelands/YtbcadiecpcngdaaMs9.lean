import Derived.Test.YtbcadiecpcngdaaNla9
import Derived.Test.YtbcadiecpcngdaaNlb9
import Derived.Test.YtbcadiecpcngdaaNlc9
namespace Go.Proofs.Ytbcadiecpcngdaa
set_option linter.unusedVariables false
set_option linter.unusedSimpArgs false
open Go.RowKit
attribute [local go_sem ↓] Go.wp_at_zero Go.wp_at_succ

theorem right_any (w : World) (n : Nd) (ok : NdOk n) (sp : Option Addr) (cap : Nat) (hn : n.vs.length ≤ 9223372036854775807) :
    Calls Try.prog 8 #[.agg (ndC n (.slice sp n.vs.length cap)).toArray] w fun e w' => e = .returned (.bool (decide (RightP n))) ∧ Below w.heap.size w w' := by
  by_cases h1 : n.kd = 1
  · have nb : ¬ BranchP n := fun h => by have := h.1; omega
    by_cases h2 : n.ls = zD
    · by_cases h3 : n.rs = zD
      · by_cases h4 : n.l = 0
        · by_cases h5 : n.r = 0
          · by_cases h6 : n.lc = 0
            · by_cases h7 : n.rc = 0
              · have e : decide (RightP n) = decide (n.vs.length ≤ 128) := by
                  rw [decide_eq_decide]
                  exact ⟨fun h => h.elim (fun h => h.2.2.2.2.2.2.2) (fun h => absurd h nb), fun h => Or.inl ⟨h1, h4, h6, h2, h5, h7, h3, h⟩⟩
                rw [e]; exact right_l7 w n ok sp cap hn h1 h2 h3 h4 h5 h6 h7
              · rw [decide_eq_false (fun h => h.elim (fun h => h7 h.2.2.2.2.2.1) nb)]; exact right_l6 w n ok sp cap hn h1 h2 h3 h4 h5 h6 h7
            · rw [decide_eq_false (fun h => h.elim (fun h => h6 h.2.2.1) nb)]; exact right_l5 w n ok sp cap hn h1 h2 h3 h4 h5 h6
          · rw [decide_eq_false (fun h => h.elim (fun h => h5 h.2.2.2.2.1) nb)]; exact right_l4 w n ok sp cap hn h1 h2 h3 h4 h5
        · rw [decide_eq_false (fun h => h.elim (fun h => h4 h.2.1) nb)]; exact right_l3 w n ok sp cap hn h1 h2 h3 h4
      · rw [decide_eq_false (fun h => h.elim (fun h => h3 h.2.2.2.2.2.2.1) nb)]; exact right_l2 w n ok sp cap hn h1 h2 h3
    · rw [decide_eq_false (fun h => h.elim (fun h => h2 h.2.2.2.1) nb)]; exact right_l1 w n ok sp cap hn h1 h2
  · have nl : ¬ LeafP n := fun h => h1 h.1
    have zz : ¬ n.ls = zD ∨ (n.ls = zD ∧ ¬ n.rs = zD) ∨ (n.ls = zD ∧ n.rs = zD) := by
      by_cases a : n.ls = zD
      · by_cases b : n.rs = zD
        · exact Or.inr (Or.inr ⟨a, b⟩)
        · exact Or.inr (Or.inl ⟨a, b⟩)
      · exact Or.inl a
    by_cases h2 : n.kd = 2
    · by_cases s1 : SideP n.l n.lc n.ls
      · by_cases s2 : SideP n.r n.rc n.rs
        · by_cases s3 : n.l = n.r
          · rw [decide_eq_false (fun h => h.elim nl (fun h => h.2.2.2.2.2.1 s3))]
            rcases zz with z | z | z
            · exact right_ra w n ok sp cap hn h2 z s1 s2 s3
            · exact right_rb w n ok sp cap hn h2 z.1 z.2 s1 s2 s3
            · exact right_rc w n ok sp cap hn h2 z.1 z.2 s1 s2 s3
          · by_cases s4 : n.k = zD
            · by_cases s5 : n.vs.length = 0
              · by_cases s6 : n.lc + n.rc < 2
                · rw [decide_eq_false (fun h => h.elim nl (fun h => by have := h.2.2.2.2.2.2.1; omega))]
                  rcases zz with z | z | z
                  · exact right_ua w n ok sp cap hn h2 z s1 s2 s3 s4 s5 s6
                  · exact right_ub w n ok sp cap hn h2 z.1 z.2 s1 s2 s3 s4 s5 s6
                  · exact right_uc w n ok sp cap hn h2 z.1 z.2 s1 s2 s3 s4 s5 s6
                · have e : decide (RightP n) = decide (n.lc + n.rc ≤ 4096) := by
                    rw [decide_eq_decide]
                    exact ⟨fun h => h.elim (fun h => absurd h nl) (fun h => h.2.2.2.2.2.2.2), fun h => Or.inr ⟨h2, s4, List.eq_nil_of_length_eq_zero s5, s1, s2, s3, by omega, h⟩⟩
                  rw [e]
                  rcases zz with z | z | z
                  · exact right_va w n ok sp cap hn h2 z s1 s2 s3 s4 s5 (by omega)
                  · exact right_vb w n ok sp cap hn h2 z.1 z.2 s1 s2 s3 s4 s5 (by omega)
                  · exact right_vc w n ok sp cap hn h2 z.1 z.2 s1 s2 s3 s4 s5 (by omega)
              · rw [decide_eq_false (fun h => h.elim nl (fun h => s5 (by rw [h.2.2.1]; rfl)))]
                rcases zz with z | z | z
                · exact right_ta w n ok sp cap hn h2 z s1 s2 s3 s4 s5
                · exact right_tb w n ok sp cap hn h2 z.1 z.2 s1 s2 s3 s4 s5
                · exact right_tc w n ok sp cap hn h2 z.1 z.2 s1 s2 s3 s4 s5
            · rw [decide_eq_false (fun h => h.elim nl (fun h => s4 h.2.1))]
              rcases zz with z | z | z
              · exact right_sa w n ok sp cap hn h2 z s1 s2 s3 s4
              · exact right_sb w n ok sp cap hn h2 z.1 z.2 s1 s2 s3 s4
              · exact right_sc w n ok sp cap hn h2 z.1 z.2 s1 s2 s3 s4
        · rw [decide_eq_false (fun h => h.elim nl (fun h => s2 h.2.2.2.2.1))]
          rcases zz with z | z | z
          · exact right_qa w n ok sp cap hn h2 z s1 s2
          · exact right_qb w n ok sp cap hn h2 z.1 z.2 s1 s2
          · exact right_qc w n ok sp cap hn h2 z.1 z.2 s1 s2
      · rw [decide_eq_false (fun h => h.elim nl (fun h => s1 h.2.2.2.1))]
        rcases zz with z | z | z
        · exact right_pa w n ok sp cap hn h2 z s1
        · exact right_pb w n ok sp cap hn h2 z.1 z.2 s1
        · exact right_pc w n ok sp cap hn h2 z.1 z.2 s1
    · rw [decide_eq_false (fun h => h.elim nl (fun h => h2 h.1))]
      rcases zz with z | z | z
      · exact right_oa w n ok sp cap hn h1 h2 z
      · exact right_ob w n ok sp cap hn h1 h2 z.1 z.2
      · exact right_oc w n ok sp cap hn h1 h2 z.1 z.2
end Go.Proofs.Ytbcadiecpcngdaa
namespace Go.Proofs.Ytbcadiecpcngdaa
set_option linter.unusedVariables false
set_option linter.unusedSimpArgs false
open Go.RowKit
attribute [local go_sem ↓] Go.wp_at_zero Go.wp_at_succ

set_option maxRecDepth 100000 in
set_option maxHeartbeats 4000000 in
theorem sameNode_self (w : World) (n : Nd) (ok : NdOk n) (s1 s2 : Option Addr) (c1 c2 : Nat) (h1 : Src w s1 c1 n.vs) (h2 : Src w s2 c2 n.vs) :
    Calls Try.prog 14 #[.agg (ndC n (.slice s1 n.vs.length c1)).toArray, .agg (ndC n (.slice s2 n.vs.length c2)).toArray] w fun e w' => e = .returned (.bool true) ∧ Below w.heap.size w w' := by
  have d0 := ((BK.nil w).alloc (ndC n (.slice s1 n.vs.length c1)) 39).alloc (ndC n (.slice s2 n.vs.length c2)) 39
  rw [show (w.alloc (.cells (ndC n (.slice s1 n.vs.length c1)).toArray 39)).heap.size = w.heap.size + 1 by simp] at d0
  have SL := hid (show (Try.prog.info? 36).map (·.size) = some (ints .u8 n.ls).length by rw [Try.sizeD, ints_len, ok.ls])
  have SR := hid (show (Try.prog.info? 36).map (·.size) = some (ints .u8 n.rs).length by rw [Try.sizeD, ints_len, ok.rs])
  have SK := hid (show (Try.prog.info? 37).map (·.size) = some (ints .u8 n.k).length by rw [Try.sizeKy, ints_len, ok.k])
  have qL := eqDg_self n.ls ok.ls
  have qR := eqDg_self n.rs ok.rs
  have qK := eqKy_self n.k ok.k
  have gD := Try.guardDg
  have gK := Try.guardK
  have KS := hid (fun w1 (h1 : Src w1 s1 c1 n.vs) (h2 : Src w1 s2 c2 n.vs) => same_self w1 n.vs s1 s2 c1 c2 h1 h2)
  have x0 := d0.cell (.tail _ (.head _)) (v := .int .i64 n.kd) (j := 0) rfl
  have x1 := d0.cell (.tail _ (.head _)) (v := .int .i64 n.l) (j := 1) rfl
  have x2 := d0.cell (.tail _ (.head _)) (v := .int .i64 n.r) (j := 2) rfl
  have x3 := d0.cell (.tail _ (.head _)) (v := .int .i64 n.lc) (j := 3) rfl
  have x4 := d0.cell (.tail _ (.head _)) (v := .int .i64 n.rc) (j := 4) rfl
  have x101 := d0.cell (.tail _ (.head _)) (ndC_v ok (.slice s1 n.vs.length c1))
  have xls := d0.rng (.tail _ (.head _)) (ndC_ls ok (.slice s1 n.vs.length c1))
  have xrs := d0.rng (.tail _ (.head _)) (ndC_rs ok (.slice s1 n.vs.length c1))
  have xk := d0.rng (.tail _ (.head _)) (ndC_k ok (.slice s1 n.vs.length c1))
  have y0 := d0.cell (.head _) (v := .int .i64 n.kd) (j := 0) rfl
  have y1 := d0.cell (.head _) (v := .int .i64 n.l) (j := 1) rfl
  have y2 := d0.cell (.head _) (v := .int .i64 n.r) (j := 2) rfl
  have y3 := d0.cell (.head _) (v := .int .i64 n.lc) (j := 3) rfl
  have y4 := d0.cell (.head _) (v := .int .i64 n.rc) (j := 4) rfl
  have y101 := d0.cell (.head _) (ndC_v ok (.slice s2 n.vs.length c2))
  have yls := d0.rng (.head _) (ndC_ls ok (.slice s2 n.vs.length c2))
  have yrs := d0.rng (.head _) (ndC_rs ok (.slice s2 n.vs.length c2))
  have yk := d0.rng (.head _) (ndC_k ok (.slice s2 n.vs.length c2))
  have S1 := hid (h1.below d0.1 (Nat.le_refl _))
  have S2 := hid (h2.below d0.1 (Nat.le_refl _))
  generalize ndC n (.slice s1 n.vs.length c1) = N1 at *
  generalize ndC n (.slice s2 n.vs.length c2) = N2 at *
  generalize ints .u8 n.ls = IL at *
  generalize ints .u8 n.rs = IR at *
  generalize ints .u8 n.k = IK at *
  generalize n.kd = vk at *
  generalize n.l = vl at *
  generalize n.r = vr at *
  generalize n.lc = vlc at *
  generalize n.rc = vrc at *
  go_enter Try.func14, Try.ntmps14
  go_wp2_with (first
    | refine wpList_load_mid_w (by rfl) 36 _ (by rfl) w.heap.size 5 (by rfl) _ _ xls Try.underlying36 rfl SL.out ?_
    | refine wpList_load_mid_w (by rfl) 36 _ (by rfl) w.heap.size 37 (by rfl) _ _ xrs Try.underlying36 rfl SR.out ?_
    | refine wpList_load_mid_w (by rfl) 37 _ (by rfl) w.heap.size 69 (by rfl) _ _ xk Try.underlying37 rfl SK.out ?_
    | refine wpList_load_mid_w (by rfl) 36 _ (by rfl) (w.heap.size + 1) 5 (by rfl) _ _ yls Try.underlying36 rfl SL.out ?_
    | refine wpList_load_mid_w (by rfl) 36 _ (by rfl) (w.heap.size + 1) 37 (by rfl) _ _ yrs Try.underlying36 rfl SR.out ?_
    | refine wpList_load_mid_w (by rfl) 37 _ (by rfl) (w.heap.size + 1) 69 (by rfl) _ _ yk Try.underlying37 rfl SK.out ?_)
  refine (KS.out _ S1.out S2.out).mono ?_
  rintro e w1 ⟨rfl, hb1⟩
  have d1 := d0.call hb1
  go_wp2
  go_ret
  exact ⟨rfl, d1.1⟩
theorem four_bys (x : Int) : Bys (four x) := fun y hy => by
  simp only [four, List.mem_cons, List.not_mem_nil, or_false] at hy
  rcases hy with rfl | rfl | rfl | rfl <;> omega
theorem Bys.app {a b : List Int} (ha : Bys a) (hb : Bys b) : Bys (a ++ b) := fun x hx => (List.mem_append.1 hx).elim (ha x) (hb x)
structure NdY (n : Nd) : Prop where
  ls : Bys n.ls
  rs : Bys n.rs
  k : Bys n.k
  vs : Bys n.vs
theorem loadP_bys {n : Nd} (h : NdY n) : Bys (loadP n) := by
  unfold loadP
  split
  · exact h.k.app h.vs
  · exact (four_bys _).app ((four_bys _).app ((four_bys _).app ((four_bys _).app (h.ls.app h.rs))))
end Go.Proofs.Ytbcadiecpcngdaa
