import Derived.Test.YtenfklcgkfaajaaDv
namespace Go.Proofs.Ytenfklcgkfaajaa
set_option linter.unusedVariables false
set_option linter.unusedSimpArgs false
open Go.RowKit
attribute [local go_sem ↓] Go.wp_at_zero Go.wp_at_succ

/-- The document's Reply midway: the reply, boxed. -/
structure YR (w wc : World) (cs : List Value) : Prop where
  rr : wc.heap[w.heap.size]? = some (.cells cs.toArray 32 (0, 0))
  bel : Below w.heap.size w wc
  sz : w.heap.size + 1 ≤ wc.heap.size
theorem YR.call {w wc w1 : World} {cs : List Value} (l : YR w wc cs) (hb : Below (w.heap.size + 1) wc w1) : YR w w1 cs :=
  ⟨hbel hb l.rr (by omega), l.bel.trans (hb.mono (by omega)), Nat.le_trans l.sz hb.size⟩
theorem YR.of (w : World) (cs : List Value) : YR w (w.alloc (.cells cs.toArray 32)) cs := ⟨hnew w _, (Below.refl w.heap.size w).alloc (Nat.le_refl _) _, by simp⟩
theorem prt_kn {op : Int} (hk : knO op = true) : prt op ≠ -2 := fun e => by rw [(prt_shape op).1 e] at hk; cases hk
theorem xflag_to (w : World) (b : Bool) (x : Int) (hx : (if b = true then 1 else 0) = x) :
    Calls Try.prog 39 #[.bool b] w fun e w' => e = .returned (.int .u8 x) ∧ w' = w := by
  subst hx; exact xflag_any w b
end Go.Proofs.Ytenfklcgkfaajaa
