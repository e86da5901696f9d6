import Derived.Test.YtenfklcgkfaajaaDk8
namespace Go.Proofs.Ytenfklcgkfaajaa
set_option linter.unusedVariables false
set_option linter.unusedSimpArgs false
open Go.RowKit
attribute [local go_sem ↓] Go.wp_at_zero Go.wp_at_succ

/-- A request in memory: its lists can be read. -/
structure RqIn (w : World) (q : Rq) (ks hs bs : Option Addr) (kc hc bc : Nat) : Prop where
  sk : Src w ks kc q.key
  sh : Src w hs hc q.high
  sb : Src w bs bc q.batch
  nk : ks = none → kc = 0
  nh : hs = none → hc = 0
  nb : bs = none → bc = 0
def rqV (q : Rq) (ks hs bs : Option Addr) (kc hc bc : Nat) : List Value := rqC q.op q.ver q.oth q.lim (.slice ks q.key.length kc) (.slice hs q.high.length hc) (.slice bs q.batch.length bc)
theorem RqIn.below {w w1 : World} {q : Rq} {ks hs bs : Option Addr} {kc hc bc : Nat} (h : RqIn w q ks hs bs kc hc bc) (hb : Below w.heap.size w w1) : RqIn w1 q ks hs bs kc hc bc :=
  ⟨h.sk.below hb (Nat.le_refl _), h.sh.below hb (Nat.le_refl _), h.sb.below hb (Nat.le_refl _), h.nk, h.nh, h.nb⟩
theorem RqOwn.open {w : World} {base : Nat} {v : Value} {q : Rq} (h : RqOwn w base v q) : ∃ ks hs bs kc hc bc, v = .agg (rqV q ks hs bs kc hc bc).toArray ∧ RqIn w q ks hs bs kc hc bc := by
  obtain ⟨k, hh, b, rfl, a1, a2, a3⟩ := h
  obtain ⟨ks, kc, rfl, s1, n1⟩ := a1.form
  obtain ⟨hs, hc, rfl, s2, n2⟩ := a2.form
  obtain ⟨bs, bc, rfl, s3, n3⟩ := a3.form
  exact ⟨ks, hs, bs, kc, hc, bc, rfl, s1, s2, s3, n1, n2, n3⟩
structure RqB (q : Rq) : Prop where
  op : -9223372036854775808 ≤ q.op ∧ q.op ≤ 9223372036854775807
  ver : -9223372036854775808 ≤ q.ver ∧ q.ver ≤ 9223372036854775807
  oth : -9223372036854775808 ≤ q.oth ∧ q.oth ≤ 9223372036854775807
  lim : -9223372036854775808 ≤ q.lim ∧ q.lim ≤ 9223372036854775807
theorem pw2 (n : Nat) : (2 : Int) ^ (8 * n) = 256 ^ n := by rw [Int.pow_mul]; rfl
set_option maxRecDepth 100000 in
set_option maxHeartbeats 800000 in
theorem numberFits_any (w : World) (x : Int) (n : Nat) (hn : n ≤ 7) (h0 : -9223372036854775808 ≤ x) (h1 : x ≤ 9223372036854775807) :
    Calls Try.prog 55 #[.int .i64 x, .int .i64 n] w fun e w' => e = .returned (.bool (decide (0 ≤ x ∧ x < 256 ^ n))) ∧ w' = w := by
  have i0 : (n : Int) ≤ 7 := by omega
  have hp : (0 : Int) < 256 ^ n := by rw [← pw256]; exact Int.natCast_pos.2 (Nat.pow_pos (by omega))
  by_cases hx : 0 ≤ x
  · have HE := hid (show ((x / 2 ^ (8 * n) == 0) = decide (0 ≤ x ∧ x < 256 ^ n)) by
      rw [pw2, Bool.eq_iff_iff, beq_iff_eq, decide_eq_true_iff]
      constructor
      · intro h
        refine ⟨hx, ?_⟩
        have := Int.lt_mul_ediv_self_add (x := x) hp
        rw [h] at this
        omega
      · rintro ⟨_, h⟩
        exact Int.ediv_eq_zero_of_lt hx h)
    clear hp
    rw [← HE.out]
    go_enter Try.func55, Try.ntmps55
    go_wp2
    go_ret
    exact ⟨rfl, rfl⟩
  · have e : decide (0 ≤ x ∧ x < 256 ^ n) = false := decide_eq_false (by omega)
    rw [e]
    have i1 : x < 0 := by omega
    clear e hp
    go_enter Try.func55, Try.ntmps55
    go_wp2
    go_ret
    exact ⟨rfl, rfl⟩

end Go.Proofs.Ytenfklcgkfaajaa
namespace Go.Proofs.Ytenfklcgkfaajaa
set_option linter.unusedVariables false
set_option linter.unusedSimpArgs false
open Go.RowKit
attribute [local go_sem ↓] Go.wp_at_zero Go.wp_at_succ

/-- shape.lay midway: the shape and the request, boxed. -/
structure LY (w wc : World) (s : Sh) (q : Rq) (k h b : Value) : Prop where
  rs : wc.heap[w.heap.size]? = some (.cells (shC s).toArray 81 (0, 0))
  rr : wc.heap[w.heap.size + 1]? = some (.cells (rqC q.op q.ver q.oth q.lim k h b).toArray 36 (0, 0))
  bel : Below w.heap.size w wc
  sz : w.heap.size + 2 ≤ wc.heap.size
theorem LY.call {w wc w1 : World} {s : Sh} {q : Rq} {k h b : Value} (l : LY w wc s q k h b) (hb : Below (w.heap.size + 2) wc w1) : LY w w1 s q k h b :=
  ⟨hbel hb l.rs (by omega), hbel hb l.rr (by omega), l.bel.trans (hb.mono (by omega)), Nat.le_trans l.sz hb.size⟩
theorem LY.sc {w wc : World} {s : Sh} {q : Rq} {k h b : Value} (l : LY w wc s q k h b) :
    wc.cell? ⟨w.heap.size, 0, none⟩ = some (.bool s.key) ∧ wc.cell? ⟨w.heap.size, 1, none⟩ = some (.bool s.high) ∧ wc.cell? ⟨w.heap.size, 2, none⟩ = some (.bool s.ver) ∧ wc.cell? ⟨w.heap.size, 3, none⟩ = some (.bool s.oth) ∧ wc.cell? ⟨w.heap.size, 4, none⟩ = some (.bool s.lim) ∧ wc.cell? ⟨w.heap.size, 5, none⟩ = some (.bool s.batch) := by
  refine ⟨?_, ?_, ?_, ?_, ?_, ?_⟩ <;> (rw [cell_of_row _ _ _ _ _ _ l.rs]; rfl)
theorem LY.rc {w wc : World} {s : Sh} {q : Rq} {k h b : Value} (l : LY w wc s q k h b) :
    wc.cell? ⟨w.heap.size + 1, 0, none⟩ = some (.int .i64 q.op) ∧ wc.cell? ⟨w.heap.size + 1, 1, none⟩ = some (.int .i64 q.ver) ∧ wc.cell? ⟨w.heap.size + 1, 2, none⟩ = some (.int .i64 q.oth) ∧ wc.cell? ⟨w.heap.size + 1, 3, none⟩ = some (.int .i64 q.lim) ∧ wc.cell? ⟨w.heap.size + 1, 4, none⟩ = some k ∧ wc.cell? ⟨w.heap.size + 1, 5, none⟩ = some h ∧ wc.cell? ⟨w.heap.size + 1, 6, none⟩ = some b := by
  refine ⟨?_, ?_, ?_, ?_, ?_, ?_, ?_⟩ <;> (rw [cell_of_row _ _ _ _ _ _ l.rr]; rfl)

end Go.Proofs.Ytenfklcgkfaajaa
namespace Go.Proofs.Ytenfklcgkfaajaa
set_option linter.unusedVariables false
set_option linter.unusedSimpArgs false
open Go.RowKit
attribute [local go_sem ↓] Go.wp_at_zero Go.wp_at_succ

theorem shO_cases (op : Int) : shO op = ⟨false, false, false, false, false, true⟩ ∨ shO op = ⟨true, false, true, false, false, false⟩ ∨ shO op = ⟨false, false, true, false, false, false⟩ ∨ shO op = ⟨true, true, true, false, false, false⟩ ∨ shO op = ⟨true, true, true, false, true, false⟩ ∨ shO op = ⟨false, false, true, true, false, false⟩ ∨ shO op = ⟨false, false, false, false, false, false⟩ := by
  unfold shO sh0
  by_cases h1 : op = 1
  · simp [h1]
  by_cases h2 : op = 2 ∨ op = 4
  · rw [if_neg h1, if_pos h2]; simp
  by_cases h3 : op = 3
  · rw [if_neg h1, if_neg h2, if_pos h3]; simp
  by_cases h5 : op = 5
  · rw [if_neg h1, if_neg h2, if_neg h3, if_pos h5]; simp
  by_cases h6 : op = 6
  · rw [if_neg h1, if_neg h2, if_neg h3, if_neg h5, if_pos h6]; simp
  by_cases h7 : op = 7
  · rw [if_neg h1, if_neg h2, if_neg h3, if_neg h5, if_neg h6, if_pos h7]; simp
  · rw [if_neg h1, if_neg h2, if_neg h3, if_neg h5, if_neg h6, if_neg h7]; simp
theorem shC_one (s : Sh) : ∀ v ∈ shC s, v.oneCell' = true := by
  intro v hv
  simp only [shC, List.mem_cons, List.not_mem_nil, or_false] at hv
  rcases hv with rfl | rfl | rfl | rfl | rfl | rfl <;> rfl
theorem Try.sizeSh : (Try.prog.info? 81).map (·.size) = some 6 := by kernel_rfl
end Go.Proofs.Ytenfklcgkfaajaa
