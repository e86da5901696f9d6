import Derived.Test.YthdjgpdgedhonaaDk8
namespace Go.Proofs.Ythdjgpdgedhonaa
set_option linter.unusedVariables false
set_option linter.unusedSimpArgs false
open Go.RowKit
attribute [local go_sem ↓] Go.wp_at_zero Go.wp_at_succ

/-- A request in memory: its lists can be read. -/
structure RqIn (w : World) (q : Rq) (ks hs bs : Option Addr) (kc hc bc : Nat) : Prop where
  sk : Src w ks kc q.key
  sh : Src w hs hc q.high
  sb : Src w bs bc q.batch
  nk : ks = none → kc = 0
  nh : hs = none → hc = 0
  nb : bs = none → bc = 0
def rqV (q : Rq) (ks hs bs : Option Addr) (kc hc bc : Nat) : List Value := rqC q.op q.ver q.oth q.lim (.slice ks q.key.length kc) (.slice hs q.high.length hc) (.slice bs q.batch.length bc)
theorem RqIn.below {w w1 : World} {q : Rq} {ks hs bs : Option Addr} {kc hc bc : Nat} (h : RqIn w q ks hs bs kc hc bc) (hb : Below w.heap.size w w1) : RqIn w1 q ks hs bs kc hc bc :=
  ⟨h.sk.below hb (Nat.le_refl _), h.sh.below hb (Nat.le_refl _), h.sb.below hb (Nat.le_refl _), h.nk, h.nh, h.nb⟩
theorem RqOwn.open {w : World} {base : Nat} {v : Value} {q : Rq} (h : RqOwn w base v q) : ∃ ks hs bs kc hc bc, v = .agg (rqV q ks hs bs kc hc bc).toArray ∧ RqIn w q ks hs bs kc hc bc := by
  obtain ⟨k, hh, b, rfl, a1, a2, a3⟩ := h
  obtain ⟨ks, kc, rfl, s1, n1⟩ := a1.form
  obtain ⟨hs, hc, rfl, s2, n2⟩ := a2.form
  obtain ⟨bs, bc, rfl, s3, n3⟩ := a3.form
  exact ⟨ks, hs, bs, kc, hc, bc, rfl, s1, s2, s3, n1, n2, n3⟩
structure RqB (q : Rq) : Prop where
  op : -9223372036854775808 ≤ q.op ∧ q.op ≤ 9223372036854775807
  ver : -9223372036854775808 ≤ q.ver ∧ q.ver ≤ 9223372036854775807
  oth : -9223372036854775808 ≤ q.oth ∧ q.oth ≤ 9223372036854775807
  lim : -9223372036854775808 ≤ q.lim ∧ q.lim ≤ 9223372036854775807
theorem pw2 (n : Nat) : (2 : Int) ^ (8 * n) = 256 ^ n := by rw [Int.pow_mul]; rfl
set_option maxRecDepth 100000 in
set_option maxHeartbeats 800000 in
theorem numberFits_any (w : World) (x : Int) (n : Nat) (hn : n ≤ 7) (h0 : -9223372036854775808 ≤ x) (h1 : x ≤ 9223372036854775807) :
    Calls Try.prog 42 #[.int .i64 x, .int .i64 n] w fun e w' => e = .returned (.bool (decide (0 ≤ x ∧ x < 256 ^ n))) ∧ w' = w := by
  have i0 : (n : Int) ≤ 7 := by omega
  have hp : (0 : Int) < 256 ^ n := by rw [← pw256]; exact Int.natCast_pos.2 (Nat.pow_pos (by omega))
  by_cases hx : 0 ≤ x
  · have HE := hid (show ((x / 2 ^ (8 * n) == 0) = decide (0 ≤ x ∧ x < 256 ^ n)) by
      rw [pw2, Bool.eq_iff_iff, beq_iff_eq, decide_eq_true_iff]
      constructor
      · intro h
        refine ⟨hx, ?_⟩
        have := Int.lt_mul_ediv_self_add (x := x) hp
        rw [h] at this
        omega
      · rintro ⟨_, h⟩
        exact Int.ediv_eq_zero_of_lt hx h)
    clear hp
    rw [← HE.out]
    go_enter Try.func42, Try.ntmps42
    go_wp2
    go_ret
    exact ⟨rfl, rfl⟩
  · have e : decide (0 ≤ x ∧ x < 256 ^ n) = false := decide_eq_false (by omega)
    rw [e]
    have i1 : x < 0 := by omega
    clear e hp
    go_enter Try.func42, Try.ntmps42
    go_wp2
    go_ret
    exact ⟨rfl, rfl⟩

set_option maxRecDepth 100000 in
set_option maxHeartbeats 2000000 in
theorem fits_0 (w : World) (q : Rq) (hB : RqB q) (ks hs bs : Option Addr) (kc hc bc : Nat) (hI : RqIn w q ks hs bs kc hc bc) :
    Calls Try.prog 28 #[.agg (shC ⟨false, false, false, false, false, false⟩).toArray, .agg (rqV q ks hs bs kc hc bc).toArray] w fun e w' => e = .returned (.bool (fitB ⟨false, false, false, false, false, false⟩ q)) ∧ Below w.heap.size w w' := by
  have hm1 := hI.sk.2.1
  have hm2 := hI.sh.2.1
  have hm3 := hI.sb.2.1
  have hc1 := hI.sk.1
  have hc2 := hI.sh.1
  have hc3 := hI.sb.1
  unfold maxLen at hm1 hm2 hm3
  have KN := hid (fun w => numberFits_any w q.lim 4 (by omega) hB.lim.1 hB.lim.2)
  have hbel := ((Below.refl w.heap.size w).alloc (Nat.le_refl _) (.cells (shC ⟨false, false, false, false, false, false⟩).toArray 67)).alloc (by simp) (.cells (rqV q ks hs bs kc hc bc).toArray 24)
  have HB := hid hbel
  clear hbel
  unfold fitB
  simp only [Bool.false_and, Bool.true_and, Bool.not_false, Bool.and_true]
  unfold rqV rqC shC at *
  obtain ⟨op, ver, oth, lim, key, high, batch⟩ := q
  simp only at *
  have KE : ((256 : Int) ^ 4) = 4294967296 := by decide
  rw [KE] at KN
  clear KE hI hB
  generalize key.length = n1 at *
  generalize high.length = n2 at *
  generalize batch.length = n3 at *
  have j1 : (n1 : Int) ≤ 9223372036854775807 := by omega
  have j2 : (n2 : Int) ≤ 9223372036854775807 := by omega
  have j3 : (n3 : Int) ≤ 9223372036854775807 := by omega
  go_enter Try.func28, Try.ntmps28
  go_wp2_with (first | (go_at_call 42; refine (KN.out _).mono ?_; rintro e w' ⟨rfl, rfl⟩))
  go_ret
  exact ⟨by simp, HB.out⟩

set_option maxRecDepth 100000 in
set_option maxHeartbeats 2000000 in
theorem fits_1 (w : World) (q : Rq) (hB : RqB q) (ks hs bs : Option Addr) (kc hc bc : Nat) (hI : RqIn w q ks hs bs kc hc bc) :
    Calls Try.prog 28 #[.agg (shC ⟨false, false, false, false, false, true⟩).toArray, .agg (rqV q ks hs bs kc hc bc).toArray] w fun e w' => e = .returned (.bool (fitB ⟨false, false, false, false, false, true⟩ q)) ∧ Below w.heap.size w w' := by
  have hm1 := hI.sk.2.1
  have hm2 := hI.sh.2.1
  have hm3 := hI.sb.2.1
  have hc1 := hI.sk.1
  have hc2 := hI.sh.1
  have hc3 := hI.sb.1
  unfold maxLen at hm1 hm2 hm3
  have KN := hid (fun w => numberFits_any w q.lim 4 (by omega) hB.lim.1 hB.lim.2)
  have hbel := ((Below.refl w.heap.size w).alloc (Nat.le_refl _) (.cells (shC ⟨false, false, false, false, false, true⟩).toArray 67)).alloc (by simp) (.cells (rqV q ks hs bs kc hc bc).toArray 24)
  have HB := hid hbel
  clear hbel
  unfold fitB
  simp only [Bool.false_and, Bool.true_and, Bool.not_false, Bool.and_true]
  unfold rqV rqC shC at *
  obtain ⟨op, ver, oth, lim, key, high, batch⟩ := q
  simp only at *
  have KE : ((256 : Int) ^ 4) = 4294967296 := by decide
  rw [KE] at KN
  clear KE hI hB
  generalize key.length = n1 at *
  generalize high.length = n2 at *
  generalize batch.length = n3 at *
  have j1 : (n1 : Int) ≤ 9223372036854775807 := by omega
  have j2 : (n2 : Int) ≤ 9223372036854775807 := by omega
  have j3 : (n3 : Int) ≤ 9223372036854775807 := by omega
  by_cases k5 : n3 ≤ 11999
  rotate_left
  · have Lk5 : (11999 : Int) < (n3 : Int) := by omega
    have HZ := hid k5
    clear k5
    go_enter Try.func28, Try.ntmps28
    go_wp2_with (first | (go_at_call 42; refine (KN.out _).mono ?_; rintro e w' ⟨rfl, rfl⟩))
    go_ret
    exact ⟨by have k := HZ.out; simp; omega, HB.out⟩
  have Lk5 : ¬ (11999 : Int) < (n3 : Int) := by omega
  go_enter Try.func28, Try.ntmps28
  go_wp2_with (first | (go_at_call 42; refine (KN.out _).mono ?_; rintro e w' ⟨rfl, rfl⟩))
  go_ret
  exact ⟨by simp; omega, HB.out⟩

set_option maxRecDepth 100000 in
set_option maxHeartbeats 2000000 in
theorem fits_2 (w : World) (q : Rq) (hB : RqB q) (ks hs bs : Option Addr) (kc hc bc : Nat) (hI : RqIn w q ks hs bs kc hc bc) :
    Calls Try.prog 28 #[.agg (shC ⟨true, false, true, false, false, false⟩).toArray, .agg (rqV q ks hs bs kc hc bc).toArray] w fun e w' => e = .returned (.bool (fitB ⟨true, false, true, false, false, false⟩ q)) ∧ Below w.heap.size w w' := by
  have hm1 := hI.sk.2.1
  have hm2 := hI.sh.2.1
  have hm3 := hI.sb.2.1
  have hc1 := hI.sk.1
  have hc2 := hI.sh.1
  have hc3 := hI.sb.1
  unfold maxLen at hm1 hm2 hm3
  have KN := hid (fun w => numberFits_any w q.lim 4 (by omega) hB.lim.1 hB.lim.2)
  have hbel := ((Below.refl w.heap.size w).alloc (Nat.le_refl _) (.cells (shC ⟨true, false, true, false, false, false⟩).toArray 67)).alloc (by simp) (.cells (rqV q ks hs bs kc hc bc).toArray 24)
  have HB := hid hbel
  clear hbel
  unfold fitB
  simp only [Bool.false_and, Bool.true_and, Bool.not_false, Bool.and_true]
  unfold rqV rqC shC at *
  obtain ⟨op, ver, oth, lim, key, high, batch⟩ := q
  simp only at *
  have KE : ((256 : Int) ^ 4) = 4294967296 := by decide
  rw [KE] at KN
  clear KE hI hB
  generalize key.length = n1 at *
  generalize high.length = n2 at *
  generalize batch.length = n3 at *
  have j1 : (n1 : Int) ≤ 9223372036854775807 := by omega
  have j2 : (n2 : Int) ≤ 9223372036854775807 := by omega
  have j3 : (n3 : Int) ≤ 9223372036854775807 := by omega
  by_cases k1 : n1 = 32
  rotate_left
  · have Lk1 : ((n1 : Int) == 32) = false := beq_eq_false_iff_ne.2 (by omega)
    have HZ := hid k1
    clear k1
    go_enter Try.func28, Try.ntmps28
    go_wp2_with (first | (go_at_call 42; refine (KN.out _).mono ?_; rintro e w' ⟨rfl, rfl⟩))
    go_ret
    exact ⟨by have k := HZ.out; simp [k], HB.out⟩
  subst k1
  go_enter Try.func28, Try.ntmps28
  go_wp2_with (first | (go_at_call 42; refine (KN.out _).mono ?_; rintro e w' ⟨rfl, rfl⟩))
  go_ret
  exact ⟨by simp, HB.out⟩

set_option maxRecDepth 100000 in
set_option maxHeartbeats 2000000 in
theorem fits_3 (w : World) (q : Rq) (hB : RqB q) (ks hs bs : Option Addr) (kc hc bc : Nat) (hI : RqIn w q ks hs bs kc hc bc) :
    Calls Try.prog 28 #[.agg (shC ⟨false, false, true, false, false, false⟩).toArray, .agg (rqV q ks hs bs kc hc bc).toArray] w fun e w' => e = .returned (.bool (fitB ⟨false, false, true, false, false, false⟩ q)) ∧ Below w.heap.size w w' := by
  have hm1 := hI.sk.2.1
  have hm2 := hI.sh.2.1
  have hm3 := hI.sb.2.1
  have hc1 := hI.sk.1
  have hc2 := hI.sh.1
  have hc3 := hI.sb.1
  unfold maxLen at hm1 hm2 hm3
  have KN := hid (fun w => numberFits_any w q.lim 4 (by omega) hB.lim.1 hB.lim.2)
  have hbel := ((Below.refl w.heap.size w).alloc (Nat.le_refl _) (.cells (shC ⟨false, false, true, false, false, false⟩).toArray 67)).alloc (by simp) (.cells (rqV q ks hs bs kc hc bc).toArray 24)
  have HB := hid hbel
  clear hbel
  unfold fitB
  simp only [Bool.false_and, Bool.true_and, Bool.not_false, Bool.and_true]
  unfold rqV rqC shC at *
  obtain ⟨op, ver, oth, lim, key, high, batch⟩ := q
  simp only at *
  have KE : ((256 : Int) ^ 4) = 4294967296 := by decide
  rw [KE] at KN
  clear KE hI hB
  generalize key.length = n1 at *
  generalize high.length = n2 at *
  generalize batch.length = n3 at *
  have j1 : (n1 : Int) ≤ 9223372036854775807 := by omega
  have j2 : (n2 : Int) ≤ 9223372036854775807 := by omega
  have j3 : (n3 : Int) ≤ 9223372036854775807 := by omega
  go_enter Try.func28, Try.ntmps28
  go_wp2_with (first | (go_at_call 42; refine (KN.out _).mono ?_; rintro e w' ⟨rfl, rfl⟩))
  go_ret
  exact ⟨by simp, HB.out⟩

set_option maxRecDepth 100000 in
set_option maxHeartbeats 2000000 in
theorem fits_5 (w : World) (q : Rq) (hB : RqB q) (ks hs bs : Option Addr) (kc hc bc : Nat) (hI : RqIn w q ks hs bs kc hc bc) :
    Calls Try.prog 28 #[.agg (shC ⟨true, true, true, false, false, false⟩).toArray, .agg (rqV q ks hs bs kc hc bc).toArray] w fun e w' => e = .returned (.bool (fitB ⟨true, true, true, false, false, false⟩ q)) ∧ Below w.heap.size w w' := by
  have hm1 := hI.sk.2.1
  have hm2 := hI.sh.2.1
  have hm3 := hI.sb.2.1
  have hc1 := hI.sk.1
  have hc2 := hI.sh.1
  have hc3 := hI.sb.1
  unfold maxLen at hm1 hm2 hm3
  have KN := hid (fun w => numberFits_any w q.lim 4 (by omega) hB.lim.1 hB.lim.2)
  have hbel := ((Below.refl w.heap.size w).alloc (Nat.le_refl _) (.cells (shC ⟨true, true, true, false, false, false⟩).toArray 67)).alloc (by simp) (.cells (rqV q ks hs bs kc hc bc).toArray 24)
  have HB := hid hbel
  clear hbel
  unfold fitB
  simp only [Bool.false_and, Bool.true_and, Bool.not_false, Bool.and_true]
  unfold rqV rqC shC at *
  obtain ⟨op, ver, oth, lim, key, high, batch⟩ := q
  simp only at *
  have KE : ((256 : Int) ^ 4) = 4294967296 := by decide
  rw [KE] at KN
  clear KE hI hB
  generalize key.length = n1 at *
  generalize high.length = n2 at *
  generalize batch.length = n3 at *
  have j1 : (n1 : Int) ≤ 9223372036854775807 := by omega
  have j2 : (n2 : Int) ≤ 9223372036854775807 := by omega
  have j3 : (n3 : Int) ≤ 9223372036854775807 := by omega
  by_cases k1 : n1 = 32
  rotate_left
  · have Lk1 : ((n1 : Int) == 32) = false := beq_eq_false_iff_ne.2 (by omega)
    have HZ := hid k1
    clear k1
    go_enter Try.func28, Try.ntmps28
    go_wp2_with (first | (go_at_call 42; refine (KN.out _).mono ?_; rintro e w' ⟨rfl, rfl⟩))
    go_ret
    exact ⟨by have k := HZ.out; simp [k], HB.out⟩
  subst k1
  by_cases k2 : n2 = 32
  rotate_left
  · have Lk2 : ((n2 : Int) == 32) = false := beq_eq_false_iff_ne.2 (by omega)
    have HZ := hid k2
    clear k2
    go_enter Try.func28, Try.ntmps28
    go_wp2_with (first | (go_at_call 42; refine (KN.out _).mono ?_; rintro e w' ⟨rfl, rfl⟩))
    go_ret
    exact ⟨by have k := HZ.out; simp [k], HB.out⟩
  subst k2
  go_enter Try.func28, Try.ntmps28
  go_wp2_with (first | (go_at_call 42; refine (KN.out _).mono ?_; rintro e w' ⟨rfl, rfl⟩))
  go_ret
  exact ⟨by simp, HB.out⟩

set_option maxRecDepth 100000 in
set_option maxHeartbeats 2000000 in
theorem fits_6 (w : World) (q : Rq) (hB : RqB q) (ks hs bs : Option Addr) (kc hc bc : Nat) (hI : RqIn w q ks hs bs kc hc bc) :
    Calls Try.prog 28 #[.agg (shC ⟨true, true, true, false, true, false⟩).toArray, .agg (rqV q ks hs bs kc hc bc).toArray] w fun e w' => e = .returned (.bool (fitB ⟨true, true, true, false, true, false⟩ q)) ∧ Below w.heap.size w w' := by
  have hm1 := hI.sk.2.1
  have hm2 := hI.sh.2.1
  have hm3 := hI.sb.2.1
  have hc1 := hI.sk.1
  have hc2 := hI.sh.1
  have hc3 := hI.sb.1
  unfold maxLen at hm1 hm2 hm3
  have KN := hid (fun w => numberFits_any w q.lim 4 (by omega) hB.lim.1 hB.lim.2)
  have hbel := ((Below.refl w.heap.size w).alloc (Nat.le_refl _) (.cells (shC ⟨true, true, true, false, true, false⟩).toArray 67)).alloc (by simp) (.cells (rqV q ks hs bs kc hc bc).toArray 24)
  have HB := hid hbel
  clear hbel
  unfold fitB
  simp only [Bool.false_and, Bool.true_and, Bool.not_false, Bool.and_true]
  unfold rqV rqC shC at *
  obtain ⟨op, ver, oth, lim, key, high, batch⟩ := q
  simp only at *
  have KE : ((256 : Int) ^ 4) = 4294967296 := by decide
  rw [KE] at KN
  clear KE hI hB
  generalize key.length = n1 at *
  generalize high.length = n2 at *
  generalize batch.length = n3 at *
  have j1 : (n1 : Int) ≤ 9223372036854775807 := by omega
  have j2 : (n2 : Int) ≤ 9223372036854775807 := by omega
  have j3 : (n3 : Int) ≤ 9223372036854775807 := by omega
  by_cases k1 : n1 = 32
  rotate_left
  · have Lk1 : ((n1 : Int) == 32) = false := beq_eq_false_iff_ne.2 (by omega)
    have HZ := hid k1
    clear k1
    go_enter Try.func28, Try.ntmps28
    go_wp2_with (first | (go_at_call 42; refine (KN.out _).mono ?_; rintro e w' ⟨rfl, rfl⟩))
    go_ret
    exact ⟨by have k := HZ.out; simp [k], HB.out⟩
  subst k1
  by_cases k2 : n2 = 32
  rotate_left
  · have Lk2 : ((n2 : Int) == 32) = false := beq_eq_false_iff_ne.2 (by omega)
    have HZ := hid k2
    clear k2
    go_enter Try.func28, Try.ntmps28
    go_wp2_with (first | (go_at_call 42; refine (KN.out _).mono ?_; rintro e w' ⟨rfl, rfl⟩))
    go_ret
    exact ⟨by have k := HZ.out; simp [k], HB.out⟩
  subst k2
  by_cases k4 : 0 ≤ lim ∧ lim < 4294967296
  rotate_left
  · rw [decide_eq_false k4] at KN ⊢
    go_enter Try.func28, Try.ntmps28
    go_wp2_with (first | (go_at_call 42; refine (KN.out _).mono ?_; rintro e w' ⟨rfl, rfl⟩))
    go_ret
    exact ⟨by have k := trivial; simp, HB.out⟩
  rw [decide_eq_true k4] at KN ⊢
  go_enter Try.func28, Try.ntmps28
  go_wp2_with (first | (go_at_call 42; refine (KN.out _).mono ?_; rintro e w' ⟨rfl, rfl⟩))
  go_ret
  exact ⟨by simp, HB.out⟩

set_option maxRecDepth 100000 in
set_option maxHeartbeats 2000000 in
theorem fits_7 (w : World) (q : Rq) (hB : RqB q) (ks hs bs : Option Addr) (kc hc bc : Nat) (hI : RqIn w q ks hs bs kc hc bc) :
    Calls Try.prog 28 #[.agg (shC ⟨false, false, true, true, false, false⟩).toArray, .agg (rqV q ks hs bs kc hc bc).toArray] w fun e w' => e = .returned (.bool (fitB ⟨false, false, true, true, false, false⟩ q)) ∧ Below w.heap.size w w' := by
  have hm1 := hI.sk.2.1
  have hm2 := hI.sh.2.1
  have hm3 := hI.sb.2.1
  have hc1 := hI.sk.1
  have hc2 := hI.sh.1
  have hc3 := hI.sb.1
  unfold maxLen at hm1 hm2 hm3
  have KN := hid (fun w => numberFits_any w q.lim 4 (by omega) hB.lim.1 hB.lim.2)
  have hbel := ((Below.refl w.heap.size w).alloc (Nat.le_refl _) (.cells (shC ⟨false, false, true, true, false, false⟩).toArray 67)).alloc (by simp) (.cells (rqV q ks hs bs kc hc bc).toArray 24)
  have HB := hid hbel
  clear hbel
  unfold fitB
  simp only [Bool.false_and, Bool.true_and, Bool.not_false, Bool.and_true]
  unfold rqV rqC shC at *
  obtain ⟨op, ver, oth, lim, key, high, batch⟩ := q
  simp only at *
  have KE : ((256 : Int) ^ 4) = 4294967296 := by decide
  rw [KE] at KN
  clear KE hI hB
  generalize key.length = n1 at *
  generalize high.length = n2 at *
  generalize batch.length = n3 at *
  have j1 : (n1 : Int) ≤ 9223372036854775807 := by omega
  have j2 : (n2 : Int) ≤ 9223372036854775807 := by omega
  have j3 : (n3 : Int) ≤ 9223372036854775807 := by omega
  go_enter Try.func28, Try.ntmps28
  go_wp2_with (first | (go_at_call 42; refine (KN.out _).mono ?_; rintro e w' ⟨rfl, rfl⟩))
  go_ret
  exact ⟨by simp, HB.out⟩
end Go.Proofs.Ythdjgpdgedhonaa
