import Derived.Test.YtbgjnihkiolmlaaG2
import Derived.Laws.EntriesVeiled
import Derived.Shelf.Abstract
namespace Go.Proofs.Ytbgjnihkiolmlaa
set_option linter.unusedVariables false
set_option linter.unusedSimpArgs false
open Go.RowKit
attribute [local go_sem ↓] Go.wp_at_zero Go.wp_at_succ

/-! Steps, one behind the other. -/
theorem Nx.pre {base : Nat} {F : List Nat} {p : Nat} {w w1 w2 : World} {D : DS} (hb : Below w.heap.size w w1) (h : Nx base F p w1 D w2) : Nx base F p w D w2 := by
  obtain ⟨F', h1, h2, h3⟩ := h
  exact ⟨F', h1, (Fr.of_below hb).trans h2 (Gr.refl _ _), fun k hk => (h3 k hk).imp id (fun q => Nat.le_trans hb.size q)⟩
theorem Nx.post {base : Nat} {F : List Nat} {p : Nat} {w w1 w2 : World} {D : DS} (h : Nx base F p w D w1) (hb : Below w1.heap.size w1 w2) : Nx base F p w D w2 := by
  obtain ⟨F', h1, h2, h3⟩ := h
  exact ⟨F', h1.below hb, h2.tail (F' := F) hb, h3⟩
theorem Nx.seq {base : Nat} {F F' : List Nat} {p : Nat} {w w1 w2 : World} {D : DS} (h2 : Fr F w w1) (h3 : Gr w F F') (h : Nx base F' p w1 D w2) : Nx base F p w D w2 := by
  obtain ⟨F2, q1, q2, q3⟩ := h
  exact ⟨F2, q1, h2.trans q2 h3, h3.trans q3 h2.size⟩
theorem Nx.of {base : Nat} {F : List Nat} {p : Nat} {w : World} {D : DS} (h : DA w base F p D) : Nx base F p w D w := ⟨F, h, Fr.refl _ _, Gr.refl _ _⟩
/-- Blocks of another kind are none of a disk's. -/
theorem DA.not_in {w : World} {base : Nat} {F : List Nat} {p : Nat} {D : DS} (h : DA w base F p D) {b : Nat} {cs : Array Value} {t : TypeId} {fr : Nat × Nat} (hb : w.heap[b]? = some (.cells cs t fr)) (h1 : t ≠ 59) (h2 : t ≠ 5) (h3 : t ≠ 91) : b ∉ F := by
  obtain ⟨P, rfl, rfl, hk, _⟩ := h
  intro e
  rcases (P.mem b).1 e with rfl | rfl | rfl | q
  · exact ne_ty hb hk.cell h1 rfl
  · exact ne_ty hb hk.im h2 rfl
  · obtain ⟨es, clock, hm, _⟩ := hk.mp
    rw [hb] at hm; cases hm
  · obtain ⟨_, cur, hh⟩ := ownsRow_block hk.opn _ q; exact ne_ty hb hh h3 rfl
theorem Fr.keep {F : List Nat} {w w1 : World} (h : Fr F w w1) {b : Nat} {o : Obj} (hb : w.heap[b]? = some o) (hn : b ∉ F) : w1.heap[b]? = some o := (h.block b (hlt_ hb) hn).trans hb
set_option maxHeartbeats 400000 in
theorem inTurn_any (w : World) (g n : Nat) (hn : n ≤ 100) (fn : Nat → Nat) (first cap : Nat → Array Value) (I : Nat → World → Prop) (E : Int → World → Prop)
    (hent : ∀ k, k < n → ∀ (args : Array Value) (w1 : World), (callFunc (fn k) args).run Try.prog w1 = .ok (.enter (fn k) args) w1)
    (h0 : I 0 w)
    (hcell : ∀ k w1, k < n → I k w1 → w1.cell? ⟨g, k, none⟩ = some (.func (.func (fn k)) (first k) (cap k)))
    (hcall : ∀ k w1, k < n → I k w1 → Calls Try.prog (fn k) (first k ++ cap k) w1 fun e w2 => ∃ x, e = .returned (.int .i64 x) ∧ (x = 0 → I (k + 1) w2) ∧ (x ≠ 0 → E x w2)) :
    Calls Try.prog 39 #[.slice (some ⟨g, 0, none⟩) n n] w fun e w2 => ∃ x, e = .returned (.int .i64 x) ∧ (x = 0 → I n w2) ∧ (x ≠ 0 → E x w2) := by
  have i0 : (n : Int) ≤ 100 := by omega
  go_enter Try.func39, Try.ntmps39
  go_wp2
  go_loopw [4, 5, 8] (fun _ _ iv wr => ∃ k : Nat, k ≤ n ∧ iv = .int .i64 k ∧ I k wr) (fun _ _ iv _ => n - (intOf iv).toNat)
  case atStart => exact ⟨0, by omega, rfl, h0⟩
  case round =>
    obtain ⟨k, hk, rfl, hI⟩ := hrel
    by_cases hlt : k < n
    · have i1 : (k : Int) < (n : Int) := by omega
      have c := hcell k wr hlt hI
      have HC := hid (hcall k wr hlt hI)
      have he := hent k hlt
      clear hcell hcall h0 hent
      generalize fn k = f at *
      generalize first k = fi at *
      generalize cap k = ca at *
      · go_wp2_with (refine HC.out.mono ?_; rintro e w2 ⟨x, rfl, hx0, hx1⟩; by_cases hx : x = 0)
        · subst hx
          go_wp2
          go_roundw
          case rel => exact ⟨k + 1, by omega, by go_num, hx0 rfl⟩
          case measure => simp [intOf]; omega
        · have i2 : (x != 0) = true := by simpa using hx
          go_wp2
          go_ret
          exact ⟨_, rfl, fun q => absurd q hx, fun _ => hx1 hx⟩
    · obtain rfl : k = n := by omega
      go_wp2
      go_ret
      exact ⟨_, rfl, fun _ => hI, fun q => absurd rfl q⟩
end Go.Proofs.Ytbgjnihkiolmlaa
