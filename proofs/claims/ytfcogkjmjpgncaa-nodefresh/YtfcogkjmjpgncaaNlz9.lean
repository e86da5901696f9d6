import Derived.Test.YtfcogkjmjpgncaaNla9
import Derived.Test.YtfcogkjmjpgncaaNlb9
import Derived.Test.YtfcogkjmjpgncaaNlc9
namespace Go.Proofs.Ytfcogkjmjpgncaa
set_option linter.unusedVariables false
set_option linter.unusedSimpArgs false
open Go.RowKit
attribute [local go_sem ↓] Go.wp_at_zero Go.wp_at_succ

theorem right_any (w : World) (n : Nd) (ok : NdOk n) (sp : Option Addr) (cap : Nat) (hn : n.vs.length ≤ 9223372036854775807) :
    Calls Try.prog 8 #[.agg (ndC n (.slice sp n.vs.length cap)).toArray] w fun e w' => e = .returned (.bool (decide (RightP n))) ∧ Below w.heap.size w w' := by
  by_cases h1 : n.kd = 1
  · have nb : ¬ BranchP n := fun h => by have := h.1; omega
    by_cases h2 : n.ls = zD
    · by_cases h3 : n.rs = zD
      · by_cases h4 : n.l = 0
        · by_cases h5 : n.r = 0
          · by_cases h6 : n.lc = 0
            · by_cases h7 : n.rc = 0
              · have e : decide (RightP n) = decide (n.vs.length ≤ 128) := by
                  rw [decide_eq_decide]
                  exact ⟨fun h => h.elim (fun h => h.2.2.2.2.2.2.2) (fun h => absurd h nb), fun h => Or.inl ⟨h1, h4, h6, h2, h5, h7, h3, h⟩⟩
                rw [e]; exact right_l7 w n ok sp cap hn h1 h2 h3 h4 h5 h6 h7
              · rw [decide_eq_false (fun h => h.elim (fun h => h7 h.2.2.2.2.2.1) nb)]; exact right_l6 w n ok sp cap hn h1 h2 h3 h4 h5 h6 h7
            · rw [decide_eq_false (fun h => h.elim (fun h => h6 h.2.2.1) nb)]; exact right_l5 w n ok sp cap hn h1 h2 h3 h4 h5 h6
          · rw [decide_eq_false (fun h => h.elim (fun h => h5 h.2.2.2.2.1) nb)]; exact right_l4 w n ok sp cap hn h1 h2 h3 h4 h5
        · rw [decide_eq_false (fun h => h.elim (fun h => h4 h.2.1) nb)]; exact right_l3 w n ok sp cap hn h1 h2 h3 h4
      · rw [decide_eq_false (fun h => h.elim (fun h => h3 h.2.2.2.2.2.2.1) nb)]; exact right_l2 w n ok sp cap hn h1 h2 h3
    · rw [decide_eq_false (fun h => h.elim (fun h => h2 h.2.2.2.1) nb)]; exact right_l1 w n ok sp cap hn h1 h2
  · have nl : ¬ LeafP n := fun h => h1 h.1
    have zz : ¬ n.ls = zD ∨ (n.ls = zD ∧ ¬ n.rs = zD) ∨ (n.ls = zD ∧ n.rs = zD) := by
      by_cases a : n.ls = zD
      · by_cases b : n.rs = zD
        · exact Or.inr (Or.inr ⟨a, b⟩)
        · exact Or.inr (Or.inl ⟨a, b⟩)
      · exact Or.inl a
    by_cases h2 : n.kd = 2
    · by_cases s1 : SideP n.l n.lc n.ls
      · by_cases s2 : SideP n.r n.rc n.rs
        · by_cases s3 : n.l = n.r
          · rw [decide_eq_false (fun h => h.elim nl (fun h => h.2.2.2.2.2.1 s3))]
            rcases zz with z | z | z
            · exact right_ra w n ok sp cap hn h2 z s1 s2 s3
            · exact right_rb w n ok sp cap hn h2 z.1 z.2 s1 s2 s3
            · exact right_rc w n ok sp cap hn h2 z.1 z.2 s1 s2 s3
          · by_cases s4 : n.k = zD
            · by_cases s5 : n.vs.length = 0
              · by_cases s6 : n.lc + n.rc < 2
                · rw [decide_eq_false (fun h => h.elim nl (fun h => by have := h.2.2.2.2.2.2.1; omega))]
                  rcases zz with z | z | z
                  · exact right_ua w n ok sp cap hn h2 z s1 s2 s3 s4 s5 s6
                  · exact right_ub w n ok sp cap hn h2 z.1 z.2 s1 s2 s3 s4 s5 s6
                  · exact right_uc w n ok sp cap hn h2 z.1 z.2 s1 s2 s3 s4 s5 s6
                · have e : decide (RightP n) = decide (n.lc + n.rc ≤ 4096) := by
                    rw [decide_eq_decide]
                    exact ⟨fun h => h.elim (fun h => absurd h nl) (fun h => h.2.2.2.2.2.2.2), fun h => Or.inr ⟨h2, s4, List.eq_nil_of_length_eq_zero s5, s1, s2, s3, by omega, h⟩⟩
                  rw [e]
                  rcases zz with z | z | z
                  · exact right_va w n ok sp cap hn h2 z s1 s2 s3 s4 s5 (by omega)
                  · exact right_vb w n ok sp cap hn h2 z.1 z.2 s1 s2 s3 s4 s5 (by omega)
                  · exact right_vc w n ok sp cap hn h2 z.1 z.2 s1 s2 s3 s4 s5 (by omega)
              · rw [decide_eq_false (fun h => h.elim nl (fun h => s5 (by rw [h.2.2.1]; rfl)))]
                rcases zz with z | z | z
                · exact right_ta w n ok sp cap hn h2 z s1 s2 s3 s4 s5
                · exact right_tb w n ok sp cap hn h2 z.1 z.2 s1 s2 s3 s4 s5
                · exact right_tc w n ok sp cap hn h2 z.1 z.2 s1 s2 s3 s4 s5
            · rw [decide_eq_false (fun h => h.elim nl (fun h => s4 h.2.1))]
              rcases zz with z | z | z
              · exact right_sa w n ok sp cap hn h2 z s1 s2 s3 s4
              · exact right_sb w n ok sp cap hn h2 z.1 z.2 s1 s2 s3 s4
              · exact right_sc w n ok sp cap hn h2 z.1 z.2 s1 s2 s3 s4
        · rw [decide_eq_false (fun h => h.elim nl (fun h => s2 h.2.2.2.2.1))]
          rcases zz with z | z | z
          · exact right_qa w n ok sp cap hn h2 z s1 s2
          · exact right_qb w n ok sp cap hn h2 z.1 z.2 s1 s2
          · exact right_qc w n ok sp cap hn h2 z.1 z.2 s1 s2
      · rw [decide_eq_false (fun h => h.elim nl (fun h => s1 h.2.2.2.1))]
        rcases zz with z | z | z
        · exact right_pa w n ok sp cap hn h2 z s1
        · exact right_pb w n ok sp cap hn h2 z.1 z.2 s1
        · exact right_pc w n ok sp cap hn h2 z.1 z.2 s1
    · rw [decide_eq_false (fun h => h.elim nl (fun h => h2 h.1))]
      rcases zz with z | z | z
      · exact right_oa w n ok sp cap hn h1 h2 z
      · exact right_ob w n ok sp cap hn h1 h2 z.1 z.2
      · exact right_oc w n ok sp cap hn h1 h2 z.1 z.2
end Go.Proofs.Ytfcogkjmjpgncaa
