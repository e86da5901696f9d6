import Derived.Test.YtenfklcgkfaajaaDk7
namespace Go.Proofs.Ytenfklcgkfaajaa
set_option linter.unusedVariables false
set_option linter.unusedSimpArgs false
open Go.RowKit

/-! What both make of a frame is the same; back and forth. -/
def dnR (R : Rd) (m : Nat) : Bool := !R.wrong && decide (R.rest.length = m)
theorem dnR_zero (R : Rd) : (!R.wrong && R.rest.isEmpty) = dnR R 0 := by
  unfold dnR; cases R.rest <;> simp
theorem dnR_tk (R : Rd) (n m : Nat) : dnR (tkS R n) m = dnR R (n + m) := by
  unfold dnR tkS
  by_cases h : n ≤ R.rest.length
  · rw [if_pos h]
    simp only [List.length_drop]
    congr 1
    rw [decide_eq_decide]; omega
  · rw [if_neg h]
    have : ¬ R.rest.length = n + m := by omega
    simp [this]
theorem tkV_ok {R : Rd} {n : Nat} (h : n ≤ R.rest.length) : tkV R n = R.rest.take n := by unfold tkV; rw [if_pos h]
theorem tkS_ok {R : Rd} {n : Nat} (h : n ≤ R.rest.length) : tkS R n = ⟨R.rest.drop n, R.wrong⟩ := by unfold tkS; rw [if_pos h]
theorem cutL_cons (x : Int) (r : List Int) (a n : Nat) : cutL (x :: r) (a + 1) n = (r.drop a).take n := rfl
theorem nm_one {x : Int} (r : List Int) (h : 0 ≤ x ∧ x < 256) : nmV ⟨x :: r, false⟩ 1 = x := by
  unfold nmV
  rw [tkV_ok (by simp)]
  simp only [List.take_succ_cons, List.take_zero, leN]
  rw [show x + 256 * 0 = x by omega]
  exact w64_id x (by omega) (by omega)
theorem tk_one (x : Int) (r : List Int) : tkS ⟨x :: r, false⟩ 1 = ⟨r, false⟩ := by
  rw [tkS_ok (by simp)]; rfl
theorem nm_at (x : Int) (r : List Int) (a n : Nat) (h : a + n ≤ r.length) : nmV ⟨r.drop a, false⟩ n = hiL (x :: r) (a + 1) n := by
  unfold nmV hiL; rw [tkV_ok (by simp; omega)]; rfl
theorem tv_at (x : Int) (r : List Int) (a n : Nat) (h : a + n ≤ r.length) : tkV ⟨r.drop a, false⟩ n = cutL (x :: r) (a + 1) n := by
  rw [tkV_ok (by simp; omega)]; rfl
theorem ts_at (r : List Int) (a n : Nat) (h : a + n ≤ r.length) : tkS ⟨r.drop a, false⟩ n = ⟨r.drop (a + n), false⟩ := by
  rw [tkS_ok (by simp; omega), List.drop_drop]
theorem dn_no {r : List Int} {n : Nat} (h : r.length ≠ n) : dnR ⟨r, false⟩ n = false := by unfold dnR; simp [h]
theorem dn_yes {r : List Int} {n : Nat} (h : r.length = n) : dnR ⟨r, false⟩ n = true := by unfold dnR; simp [h]
theorem prt_shape (x : Int) : (prt x = -2 ↔ knO x = false) := by
  unfold prt knO
  rw [decide_eq_false_iff_not]
  constructor
  · intro h; repeat (split at h; first | omega | skip)
    omega
  · intro h; repeat rw [if_neg (by omega)]
theorem dec_ask (raw : List Int) (hy : Bys raw) : decP raw = askP raw := by
  cases raw with
  | nil =>
    have h1 : nmV ⟨[], false⟩ 1 = 0 := by decide +kernel
    unfold decP askP askOk
    rw [if_neg (by simp)]
    have : knO (rdQ []).1.op = false := by
      show knO (nmV ⟨[], false⟩ 1) = false
      rw [h1]; rfl
    rw [this]; rfl
  | cons x r =>
    have hx := hy.head
    have h1 := nm_one r hx
    have h2 := tk_one x r
    by_cases hbig : 12000 < (x :: r).length
    · unfold decP askP askOk
      rw [if_pos hbig, decide_eq_false (by omega)]; rfl
    · unfold decP askP askOk
      rw [if_neg hbig]
      have hlen : (x :: r).length = r.length + 1 := rfl
      have g0 : (x :: r).getD 0 0 = x := rfl
      rw [g0]
      by_cases hk : knO x = false
      · have hp := (prt_shape x).2 hk
        have : knO (rdQ (x :: r)).1.op = false := by
          show knO (nmV ⟨x :: r, false⟩ 1) = false
          rw [h1]; exact hk
        rw [this, hp, decide_eq_false (by omega)]; rfl
      · have hkn : 1 ≤ x ∧ x ≤ 9 := by unfold knO at hk; simpa using hk
        have hop : knO (rdQ (x :: r)).1.op = true := by
          show knO (nmV ⟨x :: r, false⟩ 1) = true
          rw [h1]; cases h : knO x; exact absurd h hk; rfl
        rw [hop, Bool.true_and, dnR_zero]
        unfold rdQ askQ
        simp only [h1, h2, g0]
        obtain rfl | rfl | rfl | rfl | rfl | rfl | rfl | rfl | rfl : x = 1 ∨ x = 2 ∨ x = 3 ∨ x = 4 ∨ x = 5 ∨ x = 6 ∨ x = 7 ∨ x = 8 ∨ x = 9 := by omega
        all_goals simp only [shO, sh0, prt, ifS, ifV, ifN, if_true, if_false, Bool.false_eq_true, dnR_tk, reduceCtorEq, Int.reduceEq, or_true, or_false, true_or, false_or, Int.reduceNeg, Int.reduceLE, Nat.reduceAdd, ↓reduceIte]
        · have hd : dnR ⟨r, false⟩ (r.length + 0) = true := dn_yes rfl
          rw [if_pos hd, if_pos (by rw [decide_eq_true_iff]; exact ⟨by simp, by omega, by decide, fun h => h.elim⟩), tkV_ok (by simp), List.take_length]
          simp [cutL]
        · by_cases hr : r.length = 40
          · rw [if_pos (dn_yes hr), if_pos (by rw [decide_eq_true_iff]; exact ⟨by simp, by omega, by decide, fun _ => by rw [hlen, hr]; rfl⟩)]
            have s0 : tkS ⟨r, false⟩ 32 = ⟨r.drop 32, false⟩ := ts_at r 0 32 (by omega)
            have v0 : tkV ⟨r, false⟩ 32 = cutL (2 :: r) 1 32 := tv_at 2 r 0 32 (by omega)
            have n32 : nmV ⟨r.drop 32, false⟩ 8 = hiL (2 :: r) 33 8 := nm_at 2 r 32 8 (by omega)
            simp only [s0, v0, n32]
          · rw [dn_no hr, if_neg (by simp), if_neg (by rw [decide_eq_true_iff]; rintro ⟨_, _, _, h⟩; have := h trivial; rw [hlen] at this; omega)]
        · by_cases hr : r.length = 8
          · rw [if_pos (dn_yes hr), if_pos (by rw [decide_eq_true_iff]; exact ⟨by simp, by omega, by decide, fun _ => by rw [hlen, hr]; rfl⟩)]
            have n0 : nmV ⟨r, false⟩ 8 = hiL (3 :: r) 1 8 := nm_at 3 r 0 8 (by omega)
            simp only [n0]
          · rw [dn_no hr, if_neg (by simp), if_neg (by rw [decide_eq_true_iff]; rintro ⟨_, _, _, h⟩; have := h trivial; rw [hlen] at this; omega)]
        · by_cases hr : r.length = 40
          · rw [if_pos (dn_yes hr), if_pos (by rw [decide_eq_true_iff]; exact ⟨by simp, by omega, by decide, fun _ => by rw [hlen, hr]; rfl⟩)]
            have s0 : tkS ⟨r, false⟩ 32 = ⟨r.drop 32, false⟩ := ts_at r 0 32 (by omega)
            have v0 : tkV ⟨r, false⟩ 32 = cutL (4 :: r) 1 32 := tv_at 4 r 0 32 (by omega)
            have n32 : nmV ⟨r.drop 32, false⟩ 8 = hiL (4 :: r) 33 8 := nm_at 4 r 32 8 (by omega)
            simp only [s0, v0, n32]
          · rw [dn_no hr, if_neg (by simp), if_neg (by rw [decide_eq_true_iff]; rintro ⟨_, _, _, h⟩; have := h trivial; rw [hlen] at this; omega)]
        · by_cases hr : r.length = 72
          · rw [if_pos (dn_yes hr), if_pos (by rw [decide_eq_true_iff]; exact ⟨by simp, by omega, by decide, fun _ => by rw [hlen, hr]; rfl⟩)]
            have s0 : tkS ⟨r, false⟩ 32 = ⟨r.drop 32, false⟩ := ts_at r 0 32 (by omega)
            have v0 : tkV ⟨r, false⟩ 32 = cutL (5 :: r) 1 32 := tv_at 5 r 0 32 (by omega)
            have s32 : tkS ⟨r.drop 32, false⟩ 32 = ⟨r.drop 64, false⟩ := ts_at r 32 32 (by omega)
            have v32 : tkV ⟨r.drop 32, false⟩ 32 = cutL (5 :: r) 33 32 := tv_at 5 r 32 32 (by omega)
            have n64 : nmV ⟨r.drop 64, false⟩ 8 = hiL (5 :: r) 65 8 := nm_at 5 r 64 8 (by omega)
            simp only [s0, v0, s32, v32, n64]
          · rw [dn_no hr, if_neg (by simp), if_neg (by rw [decide_eq_true_iff]; rintro ⟨_, _, _, h⟩; have := h trivial; rw [hlen] at this; omega)]
        · by_cases hr : r.length = 76
          · rw [if_pos (dn_yes hr), if_pos (by rw [decide_eq_true_iff]; exact ⟨by simp, by omega, by decide, fun _ => by rw [hlen, hr]; rfl⟩)]
            have s0 : tkS ⟨r, false⟩ 32 = ⟨r.drop 32, false⟩ := ts_at r 0 32 (by omega)
            have v0 : tkV ⟨r, false⟩ 32 = cutL (6 :: r) 1 32 := tv_at 6 r 0 32 (by omega)
            have s32 : tkS ⟨r.drop 32, false⟩ 32 = ⟨r.drop 64, false⟩ := ts_at r 32 32 (by omega)
            have v32 : tkV ⟨r.drop 32, false⟩ 32 = cutL (6 :: r) 33 32 := tv_at 6 r 32 32 (by omega)
            have s64 : tkS ⟨r.drop 64, false⟩ 8 = ⟨r.drop 72, false⟩ := ts_at r 64 8 (by omega)
            have n64 : nmV ⟨r.drop 64, false⟩ 8 = hiL (6 :: r) 65 8 := nm_at 6 r 64 8 (by omega)
            have n72 : nmV ⟨r.drop 72, false⟩ 4 = hiL (6 :: r) 73 4 := nm_at 6 r 72 4 (by omega)
            simp only [s0, v0, s32, v32, s64, n64, n72]
          · rw [dn_no hr, if_neg (by simp), if_neg (by rw [decide_eq_true_iff]; rintro ⟨_, _, _, h⟩; have := h trivial; rw [hlen] at this; omega)]
        · by_cases hr : r.length = 16
          · rw [if_pos (dn_yes hr), if_pos (by rw [decide_eq_true_iff]; exact ⟨by simp, by omega, by decide, fun _ => by rw [hlen, hr]; rfl⟩)]
            have s0 : tkS ⟨r, false⟩ 8 = ⟨r.drop 8, false⟩ := ts_at r 0 8 (by omega)
            have n0 : nmV ⟨r, false⟩ 8 = hiL (7 :: r) 1 8 := nm_at 7 r 0 8 (by omega)
            have n8 : nmV ⟨r.drop 8, false⟩ 8 = hiL (7 :: r) 9 8 := nm_at 7 r 8 8 (by omega)
            simp only [s0, n0, n8]
          · rw [dn_no hr, if_neg (by simp), if_neg (by rw [decide_eq_true_iff]; rintro ⟨_, _, _, h⟩; have := h trivial; rw [hlen] at this; omega)]
        · by_cases hr : r.length = 0
          · rw [if_pos (dn_yes hr), if_pos (by rw [decide_eq_true_iff]; exact ⟨by simp, by omega, by decide, fun _ => by rw [hlen, hr]; rfl⟩)]
          · rw [dn_no hr, if_neg (by simp), if_neg (by rw [decide_eq_true_iff]; rintro ⟨_, _, _, h⟩; have := h trivial; rw [hlen] at this; omega)]
        · by_cases hr : r.length = 0
          · rw [if_pos (dn_yes hr), if_pos (by rw [decide_eq_true_iff]; exact ⟨by simp, by omega, by decide, fun _ => by rw [hlen, hr]; rfl⟩)]
          · rw [dn_no hr, if_neg (by simp), if_neg (by rw [decide_eq_true_iff]; rintro ⟨_, _, _, h⟩; have := h trivial; rw [hlen] at this; omega)]
theorem enc_ask (raw : List Int) (hy : Bys raw) (q : Rq) (h : askP raw = some q) : encP q = some raw := by
  unfold askP at h
  cases hk : askOk raw with
  | false => rw [hk] at h; cases h
  | true =>
    rw [hk, if_pos rfl] at h
    obtain rfl := Option.some.inj h
    unfold askOk at hk
    rw [decide_eq_true_iff] at hk
    obtain ⟨h0, h1, h2, h3⟩ := hk
    have hcut : ∀ a n, a + n ≤ raw.length → lowN (hiL raw a n) n = cutL raw a n ∨ 8 < n := fun a n hn => by
      by_cases h8 : n ≤ 8
      · left
        unfold hiL
        have e := low_le (cutL raw a n) (cutL_bys hy a n)
        rw [cutL_len raw a n hn] at e
        rw [low_w64 n h8, e]
      · right; omega
    have c8 : ∀ a, a + 8 ≤ raw.length → lowN (hiL raw a 8) 8 = cutL raw a 8 := fun a ha => by rcases hcut a 8 ha with e | e; exact e; omega
    have c4 : ∀ a, a + 4 ≤ raw.length → lowN (hiL raw a 4) 4 = cutL raw a 4 := fun a ha => by rcases hcut a 4 ha with e | e; exact e; omega
    have b4 : ∀ a, a + 4 ≤ raw.length → 0 ≤ hiL raw a 4 ∧ hiL raw a 4 < 4294967296 := fun a ha => by
      have := leN_small (cutL_bys hy a 4) 4 (by rw [cutL_len raw a 4 ha]; exact Nat.le_refl _) (by omega)
      unfold hiL; rw [this.2.2]; exact ⟨this.1, this.2.1⟩
    have cc : ∀ a n m, a + n + m ≤ raw.length → cutL raw a n ++ cutL raw (a + n) m = cutL raw a (n + m) := fun a n m _ => by
      unfold cutL; rw [← List.drop_drop, ← List.take_add]
    have call : ∀ n, 1 + n = raw.length → raw.getD 0 0 :: cutL raw 1 n = raw := fun n hn => by
      cases raw with
      | nil => simp at h0
      | cons y r => simp only [List.length_cons] at hn; show y :: r.take n = y :: r; rw [List.take_of_length_le (by omega)]
    generalize hx : raw.getD 0 0 = x at *
    have hx9 : x = 1 ∨ x = 2 ∨ x = 3 ∨ x = 4 ∨ x = 5 ∨ x = 6 ∨ x = 7 ∨ x = 8 ∨ x = 9 := by
      have := fun e => h2 ((prt_shape x).2 e)
      unfold knO at this
      rw [decide_eq_false_iff_not] at this
      replace this := Classical.not_not.1 this
      omega
    obtain rfl | rfl | rfl | rfl | rfl | rfl | rfl | rfl | rfl := hx9
    · unfold encP askQ
      rw [hx]
      simp only [knO, shO, sh0, fitB, encB, opt, Int.reduceEq, or_true, or_false, true_or, false_or, ↓reduceIte, if_true, if_false, Bool.false_eq_true, List.append_nil]
      rw [if_pos (by rw [cutL_len raw 1 _ (by omega)]; simp; omega)]
      exact congrArg some (call _ (by omega))
    · have hl : raw.length = 41 := by have := h3 (by decide); have e : prt 2 = 40 := (by decide); rw [e] at this; omega
      unfold encP askQ
      rw [hx]
      simp only [knO, shO, sh0, fitB, encB, opt, Int.reduceEq, or_true, or_false, true_or, false_or, ↓reduceIte, if_true, if_false, Bool.false_eq_true, List.append_nil]
      rw [if_pos (by rw [cutL_len raw 1 _ (by omega)]; simp), c8 33 (by omega), List.append_assoc, cc 1 32 8 (by omega)]
      exact congrArg some (call _ (by omega))
    · have hl : raw.length = 9 := by have := h3 (by decide); have e : prt 3 = 8 := (by decide); rw [e] at this; omega
      unfold encP askQ
      rw [hx]
      simp only [knO, shO, sh0, fitB, encB, opt, Int.reduceEq, or_true, or_false, true_or, false_or, ↓reduceIte, if_true, if_false, Bool.false_eq_true, List.append_nil]
      rw [if_pos (by simp), c8 1 (by omega)]
      exact congrArg some (call _ (by omega))
    · have hl : raw.length = 41 := by have := h3 (by decide); have e : prt 4 = 40 := (by decide); rw [e] at this; omega
      unfold encP askQ
      rw [hx]
      simp only [knO, shO, sh0, fitB, encB, opt, Int.reduceEq, or_true, or_false, true_or, false_or, ↓reduceIte, if_true, if_false, Bool.false_eq_true, List.append_nil]
      rw [if_pos (by rw [cutL_len raw 1 _ (by omega)]; simp), c8 33 (by omega), List.append_assoc, cc 1 32 8 (by omega)]
      exact congrArg some (call _ (by omega))
    · have hl : raw.length = 73 := by have := h3 (by decide); have e : prt 5 = 72 := (by decide); rw [e] at this; omega
      unfold encP askQ
      rw [hx]
      simp only [knO, shO, sh0, fitB, encB, opt, Int.reduceEq, or_true, or_false, true_or, false_or, ↓reduceIte, if_true, if_false, Bool.false_eq_true, List.append_nil]
      rw [if_pos (by rw [cutL_len raw 1 _ (by omega), cutL_len raw 33 _ (by omega)]; simp), c8 65 (by omega), List.append_assoc, List.append_assoc, cc 33 32 8 (by omega), cc 1 32 40 (by omega)]
      exact congrArg some (call _ (by omega))
    · have hl : raw.length = 77 := by have := h3 (by decide); have e : prt 6 = 76 := (by decide); rw [e] at this; omega
      unfold encP askQ
      rw [hx]
      simp only [knO, shO, sh0, fitB, encB, opt, Int.reduceEq, or_true, or_false, true_or, false_or, ↓reduceIte, if_true, if_false, Bool.false_eq_true, List.append_nil]
      rw [if_pos (by rw [cutL_len raw 1 _ (by omega), cutL_len raw 33 _ (by omega)]; simp; exact b4 73 (by omega)), c8 65 (by omega), c4 73 (by omega), List.append_assoc, List.append_assoc, List.append_assoc, cc 65 8 4 (by omega), cc 33 32 12 (by omega), cc 1 32 44 (by omega)]
      exact congrArg some (call _ (by omega))
    · have hl : raw.length = 17 := by have := h3 (by decide); have e : prt 7 = 16 := (by decide); rw [e] at this; omega
      unfold encP askQ
      rw [hx]
      simp only [knO, shO, sh0, fitB, encB, opt, Int.reduceEq, or_true, or_false, true_or, false_or, ↓reduceIte, if_true, if_false, Bool.false_eq_true, List.append_nil]
      rw [if_pos (by simp), c8 1 (by omega), c8 9 (by omega), List.append_assoc, cc 1 8 8 (by omega)]
      exact congrArg some (call _ (by omega))
    · have hl : raw.length = 1 := by have := h3 (by decide); have e : prt 8 = 0 := (by decide); rw [e] at this; omega
      unfold encP askQ
      rw [hx]
      simp only [knO, shO, sh0, fitB, encB, opt, Int.reduceEq, or_true, or_false, true_or, false_or, ↓reduceIte, if_true, if_false, Bool.false_eq_true, List.append_nil]
      rw [if_pos (by simp)]
      have := call 0 (by omega)
      simp [cutL] at this
      rw [this]
    · have hl : raw.length = 1 := by have := h3 (by decide); have e : prt 9 = 0 := (by decide); rw [e] at this; omega
      unfold encP askQ
      rw [hx]
      simp only [knO, shO, sh0, fitB, encB, opt, Int.reduceEq, or_true, or_false, true_or, false_or, ↓reduceIte, if_true, if_false, Bool.false_eq_true, List.append_nil]
      rw [if_pos (by simp)]
      have := call 0 (by omega)
      simp [cutL] at this
      rw [this]
theorem ask_enc (q : Rq) (b : List Int) (h : encP q = some b) : askP b = some (askQ b) := by
  unfold encP at h
  cases hk : (knO q.op && fitB (shO q.op) q) with
  | false => rw [hk] at h; cases h
  | true =>
    rw [hk, if_pos rfl] at h
    obtain rfl := Option.some.inj h
    obtain ⟨hk1, hk2⟩ := Bool.and_eq_true_iff.1 hk
    unfold askP
    rw [if_pos]
    unfold askOk
    rw [decide_eq_true_iff]
    have hg : (encB (shO q.op) q).getD 0 0 = q.op := rfl
    rw [hg]
    have hx : 1 ≤ q.op ∧ q.op ≤ 9 := by unfold knO at hk1; simpa using hk1
    have hx9 : q.op = 1 ∨ q.op = 2 ∨ q.op = 3 ∨ q.op = 4 ∨ q.op = 5 ∨ q.op = 6 ∨ q.op = 7 ∨ q.op = 8 ∨ q.op = 9 := by omega
    rcases hx9 with e | e | e | e | e | e | e | e | e
    all_goals
      rw [e] at hk2 ⊢
      simp [knO, shO, sh0, fitB, encB, opt, prt, lowN_len] at hk2 ⊢
      try omega
theorem asked_any (w : World) (zs : List Int) (hy : Bys zs) (sp : Option Addr) (cap : Nat) (hS : Src w sp cap zs) (hl : zs.length ≤ 140737488351232) :
    Calls Try.prog 10 #[.slice sp zs.length cap] w fun e w' => ∃ v, e = .returned (.tuple #[v, .int .i64 (ecode (askP zs))]) ∧ RqOwn w' w.heap.size v ((askP zs).getD rq0) ∧ Below w.heap.size w w' := by
  by_cases h0 : zs.length = 0
  · have e : askP zs = none := by unfold askP askOk; rw [decide_eq_false (by omega)]; rfl
    rw [e]; exact asked_e w zs hy sp cap hS hl h0
  by_cases h1 : 12000 < zs.length
  · have e : askP zs = none := by unfold askP askOk; rw [decide_eq_false (by omega)]; rfl
    rw [e]; exact asked_l w zs hy sp cap hS hl h1
  by_cases h2 : prt (zs.getD 0 0) = -2
  · have e : askP zs = none := by unfold askP askOk; rw [decide_eq_false (by omega)]; rfl
    rw [e]; exact asked_k w zs hy sp cap hS hl (by omega) (by omega) h2
  by_cases h3 : 0 ≤ prt (zs.getD 0 0) → (zs.length : Int) = prt (zs.getD 0 0) + 1
  · have e : askP zs = some (askQ zs) := by unfold askP askOk; rw [decide_eq_true ⟨by omega, by omega, h2, h3⟩]; rfl
    rw [e]
    have hx9 : zs.getD 0 0 = 1 ∨ zs.getD 0 0 = 2 ∨ zs.getD 0 0 = 3 ∨ zs.getD 0 0 = 4 ∨ zs.getD 0 0 = 5 ∨ zs.getD 0 0 = 6 ∨ zs.getD 0 0 = 7 ∨ zs.getD 0 0 = 8 ∨ zs.getD 0 0 = 9 := by
      have := fun e => h2 ((prt_shape (zs.getD 0 0)).2 e)
      unfold knO at this
      rw [decide_eq_false_iff_not] at this
      replace this := Classical.not_not.1 this
      omega
    rcases hx9 with e | e | e | e | e | e | e | e | e
    all_goals
      rw [e] at h3
      simp only [askQ, e, Option.getD_some, Int.reduceEq, or_true, or_false, true_or, false_or, ↓reduceIte, if_true, if_false]
    · exact asked_1 w zs hy sp cap hS hl (by omega) (by omega) e
    · exact asked_2 w zs hy sp cap hS hl (by omega) (by omega) e (h3 (by decide))
    · exact asked_3 w zs hy sp cap hS hl (by omega) (by omega) e (h3 (by decide))
    · exact asked_4 w zs hy sp cap hS hl (by omega) (by omega) e (h3 (by decide))
    · exact asked_5 w zs hy sp cap hS hl (by omega) (by omega) e (h3 (by decide))
    · exact asked_6 w zs hy sp cap hS hl (by omega) (by omega) e (h3 (by decide))
    · exact asked_7 w zs hy sp cap hS hl (by omega) (by omega) e (h3 (by decide))
    · exact asked_8 w zs hy sp cap hS hl (by omega) (by omega) e (h3 (by decide))
    · exact asked_9 w zs hy sp cap hS hl (by omega) (by omega) e (h3 (by decide))
  · have h4 : 0 ≤ prt (zs.getD 0 0) ∧ (zs.length : Int) ≠ prt (zs.getD 0 0) + 1 := by
      by_cases h5 : 0 ≤ prt (zs.getD 0 0)
      · exact ⟨h5, fun h => h3 fun _ => h⟩
      · exact absurd (fun h => absurd h h5) h3
    have e : askP zs = none := by unfold askP askOk; rw [decide_eq_false (fun h => h3 h.2.2.2)]; rfl
    have h6 : prt (zs.getD 0 0) ≤ 1000 := by unfold prt; repeat (split; decide)
                                             decide
    rw [e]; exact asked_w w zs hy sp cap hS hl (by omega) (by omega) h4.1 h6 h4.2
end Go.Proofs.Ytenfklcgkfaajaa
