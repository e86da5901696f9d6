import Derived.Test.YtenfklcgkfaajaaDi
import Derived.Test.YtenfklcgkfaajaaDj
namespace Go.Proofs.Ytenfklcgkfaajaa
set_option linter.unusedVariables false
set_option linter.unusedSimpArgs false
open Go.RowKit

theorem enR_no (op : Int) (r : Rp) (h : knO op = false ∨ ryF op r = false) : enR op r = none := by
  unfold enR
  rcases h with h | h <;> rw [h] <;> simp
theorem enR_yes (op : Int) (r : Rp) (h : knO op = true) (h2 : ryF op r = true) : enR op r = some (ryB op r) := by
  unfold enR; rw [h, h2]; rfl
theorem refReply_any (w : World) (op : Int) (o0 : -9223372036854775808 ≤ op) (o1 : op ≤ 9223372036854775807) (r : Rp) (hB : RpB r) (vs rs ls cs : Option Addr) (vc rc lc cc : Nat) (hI : RpI w r vs rs ls cs vc rc lc cc) :
    Calls Try.prog 23 #[.int .i64 op, .agg (rpV r vs rs ls cs vc rc lc cc).toArray] w fun e w' => ∃ v, e = .returned (.tuple #[v, .int .i64 (ecode (enR op r))]) ∧ Own w' w.heap.size v ((enR op r).getD []) ∧ Below w.heap.size w w' := by
  cases hk : knO op with
  | false => rw [enR_no op r (Or.inl hk)]; exact refRep_k w op o0 o1 r hB vs rs ls cs vc rc lc cc hI hk
  | true =>
    by_cases he : r.err = 0
    · cases hF : fdF op r with
      | false =>
        rw [enR_no op r (Or.inr (by unfold ryF; rw [if_pos he]; exact hF))]
        exact refRep_f w op o0 o1 r hB vs rs ls cs vc rc lc cc hI hk he hF
      | true =>
        rw [enR_yes op r hk (by unfold ryF; rw [if_pos he]; exact hF)]
        have hx : 1 ≤ op ∧ op ≤ 9 := by unfold knO at hk; simpa using hk
        have hx9 : op = 1 ∨ op = 2 ∨ op = 3 ∨ op = 4 ∨ op = 5 ∨ op = 6 ∨ op = 7 ∨ op = 8 ∨ op = 9 := by omega
        rcases hx9 with e | e | e | e | e | e | e | e | e <;> subst e
        · exact refRep_1 w r hB vs rs ls cs vc rc lc cc hI he hF
        · cases hf : r.found with
          | true => exact refRep_2y w r hB vs rs ls cs vc rc lc cc hI he hF hf
          | false => exact refRep_2n w r hB vs rs ls cs vc rc lc cc hI he hF hf
        · exact refRep_3 w r hB vs rs ls cs vc rc lc cc hI he hF
        · exact refRep_4 w r hB vs rs ls cs vc rc lc cc hI he hF
        · exact refRep_5 w r hB vs rs ls cs vc rc lc cc hI he hF
        · exact refRep_6 w r hB vs rs ls cs vc rc lc cc hI he hF
        · exact refRep_7 w r hB vs rs ls cs vc rc lc cc hI he hF
        · exact refRep_8 w r hB vs rs ls cs vc rc lc cc hI he hF
        · exact refRep_9 w r hB vs rs ls cs vc rc lc cc hI he hF
    · by_cases h0 : r.err < 0
      · rw [enR_no op r (Or.inr (by unfold ryF; rw [if_neg he]; exact decide_eq_false (by omega)))]
        exact refRep_en w op o0 o1 r hB vs rs ls cs vc rc lc cc hI hk h0
      · by_cases h1 : 65535 < r.err
        · rw [enR_no op r (Or.inr (by unfold ryF; rw [if_neg he]; exact decide_eq_false (by omega)))]
          exact refRep_ep w op o0 o1 r hB vs rs ls cs vc rc lc cc hI hk h1
        · rw [enR_yes op r hk (by unfold ryF; rw [if_neg he]; exact decide_eq_true (by omega))]
          have := refRep_er w op o0 o1 r hB vs rs ls cs vc rc lc cc hI hk he (by omega) (by omega)
          unfold ryB
          rw [if_neg he, List.append_nil]
          exact this
end Go.Proofs.Ytenfklcgkfaajaa
