import Derived.Test.YthdjgpdgedhonaaDk20
namespace Go.Proofs.Ythdjgpdgedhonaa
set_option linter.unusedVariables false
set_option linter.unusedSimpArgs false
open Go.RowKit

/-! Replies laid down; what was read is laid down again. -/
def flB (x : Bool) : List Int := [if x then 1 else 0]
def vaB (v : List Int) : List Int := lowN v.length 2 ++ v
def elB (c : Bool) (x : Cg) : List Int := if c then (if x.del then [2] ++ x.key else [1] ++ x.key ++ vaB x.val) else x.key ++ vaB x.val
def lsB (c : Bool) (l : List Cg) : List Int := lowN l.length 4 ++ l.flatMap (elB c)
def inB (i : Nf) : List Int := lowN i.width 1 ++ lowN i.first 8 ++ lowN i.last 8 ++ lowN i.used 4 ++ lowN i.pages 4 ++ lowN i.keys 4 ++ i.sum
def fdB (op : Int) (r : Rp) : List Int :=
  if op = 1 then lowN r.ver 8
  else if op = 2 then flB r.found ++ (if r.found then vaB r.val else [])
  else if op = 3 then r.sum
  else if op = 4 ∨ op = 5 then r.raw
  else if op = 6 then flB r.more ++ lsB false r.list
  else if op = 7 then lsB true r.chs
  else if op = 8 then inB r.info
  else []
def ryB (op : Int) (r : Rp) : List Int := lowN r.err 2 ++ (if r.err = 0 then fdB op r else [])
def elF (c : Bool) (x : Cg) : Bool := (c && x.del) || decide (x.val.length ≤ 128)
def lsF (c : Bool) (l : List Cg) : Bool := decide (l.length ≤ 4096) && l.all (elF c)
def n4 (x : Int) : Bool := decide (0 ≤ x ∧ x < 4294967296)
def inF (i : Nf) : Bool := decide (0 ≤ i.width ∧ i.width < 256) && n4 i.used && n4 i.pages && n4 i.keys
def fdF (op : Int) (r : Rp) : Bool :=
  if op = 2 then !r.found || decide (r.val.length ≤ 128)
  else if op = 6 then lsF false r.list
  else if op = 7 then lsF true r.chs
  else if op = 8 then inF r.info
  else true
def ryF (op : Int) (r : Rp) : Bool := if r.err = 0 then fdF op r else decide (0 ≤ r.err ∧ r.err < 65536)
def enR (op : Int) (r : Rp) : Option (List Int) := if knO op && ryF op r then some (ryB op r) else none
/-- A step from R to S that goes well takes these bytes off. -/
def Ate (R S : Rd) (p : List Int) : Prop := S.wrong = false → R.wrong = false ∧ R.rest = p ++ S.rest
theorem Ate.trans {R S T : Rd} {p q : List Int} (h : Ate R S p) (k : Ate S T q) : Ate R T (p ++ q) := fun ht => by
  obtain ⟨a, b⟩ := k ht
  obtain ⟨c, d⟩ := h a
  exact ⟨c, by rw [d, b, List.append_assoc]⟩
theorem tk_ate (R : Rd) (n : Nat) : Ate R (tkS R n) (tkV R n) := fun h => by
  unfold tkS at h ⊢
  unfold tkV
  split at h
  · rename_i hn
    rw [if_pos hn, if_pos hn]
    exact ⟨h, (List.take_append_drop n R.rest).symm⟩
  · cases h
theorem nm_low {R : Rd} (hy : Bys R.rest) (n : Nat) (hn : n ≤ 8) : lowN (nmV R n) n = tkV R n := by
  unfold nmV
  rw [low_w64 n hn]
  have e := low_le (tkV R n) (tkV_bys hy n)
  rwa [tkV_len] at e
theorem nm_ate {R : Rd} (hy : Bys R.rest) (n : Nat) (hn : n ≤ 8) : Ate R (tkS R n) (lowN (nmV R n) n) := by rw [nm_low hy n hn]; exact tk_ate R n
theorem nm_bd {R : Rd} (hy : Bys R.rest) (n : Nat) (hn : n ≤ 7) : 0 ≤ nmV R n ∧ nmV R n < 256 ^ n := by
  have := leN_small (tkV_bys hy n) n (by rw [tkV_len]; exact Nat.le_refl _) hn
  unfold nmV; rw [this.2.2]; exact ⟨this.1, this.2.1⟩
theorem upS_bys {R : Rd} (hy : Bys R.rest) (m : Int) (n : Nat) : Bys (upS R m n).rest := by
  unfold upS; split
  · exact tkS_bys hy n
  · exact tkS_bys hy n
theorem up_ate {R : Rd} (hy : Bys R.rest) (m : Int) (n : Nat) (hn : n ≤ 7) : Ate R (upS R m n) (lowN (upV R m n) n) ∧ ((upS R m n).wrong = false → 0 ≤ upV R m n ∧ upV R m n ≤ m) := by
  have hb := nm_bd hy n hn
  unfold upS upV
  split
  · exact ⟨fun h => (by cases h), fun h => (by cases h)⟩
  · exact ⟨nm_ate hy n (by omega), fun _ => by omega⟩
theorem vaS_bys {R : Rd} (hy : Bys R.rest) : Bys (vaS R).rest := tkS_bys (upS_bys hy _ _) _
theorem vaV_bys {R : Rd} (hy : Bys R.rest) : Bys (vaV R) := tkV_bys (upS_bys hy _ _) _
theorem upV_le (R : Rd) (m : Int) (n : Nat) (h : 0 ≤ m) : upV R m n ≤ m := by unfold upV; split <;> omega
theorem va_len (R : Rd) : (vaV R).length ≤ 128 := by
  unfold vaV; rw [tkV_len]; have := upV_le R 128 2 (by omega); omega
theorem tk_back {R : Rd} {n : Nat} (h : (tkS R n).wrong = false) : R.wrong = false := by
  cases hw : R.wrong
  · rfl
  · rw [tkS_w n hw] at h; cases h
theorem va_ate {R : Rd} (hy : Bys R.rest) : Ate R (vaS R) (vaB (vaV R)) := fun h => by
  have hk := tk_back (n := (upV R 128 2).toNat) h
  obtain ⟨a1, a2⟩ := up_ate hy 128 2 (by omega)
  have b := a2 hk
  have := (a1.trans (tk_ate (upS R 128 2) (upV R 128 2).toNat)) h
  unfold vaB vaV
  rw [tkV_len, Int.toNat_of_nonneg b.1]
  exact this
theorem fl_ate {R : Rd} (hy : Bys R.rest) : Ate R (flS R) (flB (flV R)) := fun h => by
  obtain ⟨a1, a2⟩ := up_ate hy 1 1 (by omega)
  have b := a2 h
  have c := a1 h
  unfold flB flV
  have e : lowN (upV R 1 1) 1 = [if (upV R 1 1 == 1) = true then 1 else 0] := by
    have : upV R 1 1 = 0 ∨ upV R 1 1 = 1 := by omega
    rcases this with e | e <;> rw [e] <;> rfl
  rw [e] at c
  exact c
theorem elS_bys {R : Rd} (hy : Bys R.rest) (c : Bool) : Bys (elS c R).rest := by
  unfold elS cgS
  have h2 := tkS_bys (tkS_bys hy 1) 32
  split
  · split
    · exact vaS_bys h2
    · split
      · exact h2
      · exact h2
  · exact vaS_bys (tkS_bys hy 32)
theorem el_ate {R : Rd} (hy : Bys R.rest) (c : Bool) : Ate R (elS c R) (elB c (elV c R)) := by
  unfold elS elV elB
  cases c with
  | false =>
    simp only [if_false, Bool.false_eq_true]
    exact (tk_ate R 32).trans (va_ate (tkS_bys hy 32))
  | true =>
    simp only [if_true]
    unfold cgS cgV
    by_cases m1 : nmV R 1 = 1
    · rw [if_pos m1, if_pos m1]
      simp only [if_false, Bool.false_eq_true]
      have a := (nm_ate hy 1 (by omega)).trans ((tk_ate (tkS R 1) 32).trans (va_ate (tkS_bys (tkS_bys hy 1) 32)))
      rw [m1] at a
      rw [List.append_assoc]; exact a
    · rw [if_neg m1, if_neg m1]
      by_cases m2 : nmV R 1 = 2
      · rw [if_pos m2, if_pos m2]
        simp only [if_true]
        have a := (nm_ate hy 1 (by omega)).trans (tk_ate (tkS R 1) 32)
        rw [m2] at a
        exact a
      · rw [if_neg m2, if_neg m2]
        exact fun h => by cases h
theorem el_fits (R : Rd) (c : Bool) : elF c (elV c R) = true := by
  unfold elF elV cgV
  cases c with
  | false => simp only [if_false, Bool.false_eq_true, Bool.false_and, Bool.false_or, decide_eq_true_iff]; exact va_len _
  | true =>
    simp only [if_true, Bool.true_and]
    split
    · simp only [Bool.false_or, decide_eq_true_iff]; exact va_len _
    · split <;> simp
theorem li_ate (c : Bool) : ∀ (n : Nat) (R : Rd) (acc : List Cg), Bys R.rest → (liP c n R acc).2.wrong = false → ∃ xs : List Cg, (liP c n R acc).1 = acc ++ xs ∧ xs.length = n ∧ xs.all (elF c) = true ∧ R.wrong = false ∧ R.rest = xs.flatMap (elB c) ++ (liP c n R acc).2.rest
  | 0, R, acc, _, h => ⟨[], by simp [liP], rfl, rfl, h, by simp [liP]⟩
  | n + 1, R, acc, hy, h => by
    unfold liP at h ⊢
    cases hw : (elS c R).wrong with
    | true => rw [if_pos hw] at h; rw [hw] at h; cases h
    | false =>
      rw [hw] at h
      simp only [Bool.false_eq_true, if_false] at h ⊢
      obtain ⟨xs, e1, e2, e3, e4, e5⟩ := li_ate c n (elS c R) (acc ++ [elV c R]) (elS_bys hy c) h
      obtain ⟨a, b⟩ := el_ate hy c hw
      refine ⟨elV c R :: xs, by rw [e1]; simp, by simp [e2], by simp [el_fits, e3], a, ?_⟩
      rw [b, e5]; simp
theorem ls_ate {R : Rd} (hy : Bys R.rest) (c : Bool) : Ate R (lsP c R).2 (lsB c (lsP c R).1) ∧ ((lsP c R).2.wrong = false → lsF c (lsP c R).1 = true) := by
  unfold lsP
  have key : (liP c (upV R 4096 4).toNat (upS R 4096 4) []).2.wrong = false → R.wrong = false ∧ R.rest = lsB c (liP c (upV R 4096 4).toNat (upS R 4096 4) []).1 ++ (liP c (upV R 4096 4).toNat (upS R 4096 4) []).2.rest ∧ lsF c (liP c (upV R 4096 4).toNat (upS R 4096 4) []).1 = true := fun h => by
    obtain ⟨xs, e1, e2, e3, e4, e5⟩ := li_ate c _ _ [] (upS_bys hy _ _) h
    obtain ⟨a1, a2⟩ := up_ate hy 4096 4 (by omega)
    have b := a2 e4
    obtain ⟨c1, c2⟩ := a1 e4
    rw [List.nil_append] at e1
    refine ⟨c1, ?_, ?_⟩
    · rw [e1]
      unfold lsB
      rw [e2, Int.toNat_of_nonneg b.1, c2, List.append_assoc, ← e5]
    · rw [e1]
      unfold lsF
      rw [e3, decide_eq_true (by omega)]; rfl
  exact ⟨fun h => ⟨(key h).1, (key h).2.1⟩, fun h => (key h).2.2⟩
theorem in_ate {R : Rd} (hy : Bys R.rest) : Ate R (inS R) (inB (inV R)) ∧ inF (inV R) = true := by
  have y1 := tkS_bys hy 1
  have y2 := tkS_bys y1 8
  have y3 := tkS_bys y2 8
  have y4 := tkS_bys y3 4
  have y5 := tkS_bys y4 4
  have y6 := tkS_bys y5 4
  constructor
  · have a := (((((((nm_ate hy 1 (by omega)).trans (nm_ate y1 8 (by omega))).trans (nm_ate y2 8 (by omega))).trans (nm_ate y3 4 (by omega))).trans (nm_ate y4 4 (by omega))).trans (nm_ate y5 4 (by omega))).trans (tk_ate _ 32))
    unfold inS inB inV
    simp only
    exact a
  · have b1 := nm_bd hy 1 (by omega)
    have b4 := nm_bd y3 4 (by omega)
    have b5 := nm_bd y4 4 (by omega)
    have b6 := nm_bd y5 4 (by omega)
    rw [show (256 : Int) ^ 1 = 256 by decide] at b1
    rw [show (256 : Int) ^ 4 = 4294967296 by decide] at b4 b5 b6
    unfold inF inV n4
    simp only
    simp only [Bool.and_eq_true, decide_eq_true_iff]
    exact ⟨⟨⟨b1, b4⟩, b5⟩, b6⟩
theorem upV_bd (R : Rd) (m : Int) (n : Nat) (hy : Bys R.rest) (hn : n ≤ 7) (hm : 0 ≤ m) : 0 ≤ upV R m n ∧ upV R m n ≤ m := by
  have := nm_bd hy n hn
  unfold upV; split <;> omega
theorem flS_bys {R : Rd} (hy : Bys R.rest) : Bys (flS R).rest := upS_bys hy _ _
theorem fd_ate {R : Rd} (hy : Bys R.rest) (op : Int) : Ate R (fdP op R).2 (fdB op (fdP op R).1) ∧ ((fdP op R).2.wrong = false → fdF op (fdP op R).1 = true) ∧ (fdP op R).1.err = 0 := by
  unfold fdP fdB fdF
  by_cases h1 : op = 1
  · simp only [if_pos h1]
    exact ⟨nm_ate hy 8 (by omega), by subst h1; simp, rfl⟩
  simp only [if_neg h1]
  by_cases h2 : op = 2
  · simp only [if_pos h2]
    have hf := fl_ate hy
    cases hv : flV R with
    | true =>
      rw [hv] at hf
      simp only [if_true]
      exact ⟨hf.trans (va_ate (flS_bys hy)), fun _ => by simp [va_len], rfl⟩
    | false =>
      rw [hv] at hf
      simp only [if_false, Bool.false_eq_true]
      refine ⟨?_, fun _ => by simp [rp0], rfl⟩
      show Ate R (flS R) (flB rp0.found ++ (if rp0.found = true then vaB rp0.val else []))
      simp only [rp0, Bool.false_eq_true, if_false, List.append_nil]
      exact hf
  simp only [if_neg h2]
  by_cases h3 : op = 3
  · simp only [if_pos h3]
    exact ⟨tk_ate R 32, by subst h3; simp, rfl⟩
  simp only [if_neg h3]
  by_cases h4 : op = 4 ∨ op = 5
  · simp only [if_pos h4]
    refine ⟨tk_ate R _, fun _ => ?_, rfl⟩
    rcases h4 with rfl | rfl <;> simp
  simp only [if_neg h4]
  by_cases h6 : op = 6
  · simp only [if_pos h6]
    obtain ⟨a, b⟩ := ls_ate (flS_bys hy) false
    exact ⟨(fl_ate hy).trans a, b, rfl⟩
  simp only [if_neg h6]
  by_cases h7 : op = 7
  · simp only [if_pos h7]
    obtain ⟨a, b⟩ := ls_ate hy true
    exact ⟨a, b, rfl⟩
  simp only [if_neg h7]
  by_cases h8 : op = 8
  · simp only [if_pos h8]
    obtain ⟨a, b⟩ := in_ate hy
    exact ⟨a, fun _ => b, rfl⟩
  simp only [if_neg h8]
  exact ⟨fun h => ⟨h, rfl⟩, fun _ => trivial, rfl⟩
theorem en_dc (op : Int) (raw : List Int) (hy : Bys raw) (r : Rp) (h : dcP op raw = some r) : enR op r = some raw := by
  unfold dcP at h
  cases hc : (knO op && (!(rpP op ⟨raw, false⟩).2.wrong && (rpP op ⟨raw, false⟩).2.rest.isEmpty)) with
  | false => rw [hc] at h; cases h
  | true =>
    rw [hc, if_pos rfl] at h
    obtain rfl := Option.some.inj h
    obtain ⟨hk, hd⟩ := Bool.and_eq_true_iff.1 hc
    obtain ⟨hw, he⟩ := Bool.and_eq_true_iff.1 hd
    rw [Bool.not_eq_true'] at hw
    have he' := List.isEmpty_iff.1 he
    unfold enR
    rw [hk, Bool.true_and]
    have y0 : Bys (⟨raw, false⟩ : Rd).rest := hy
    have b2 := nm_bd y0 2 (by omega)
    have a2 := nm_ate y0 2 (by omega)
    have y2 := tkS_bys y0 2
    unfold rpP at hw he' ⊢
    by_cases h0 : nmV ⟨raw, false⟩ 2 = 0
    · rw [if_pos h0] at hw he' ⊢
      obtain ⟨f1, f2, f3⟩ := fd_ate y2 op
      have hF : ryF op (fdP op (tkS ⟨raw, false⟩ 2)).1 = true := by unfold ryF; rw [if_pos f3]; exact f2 hw
      rw [if_pos hF]
      obtain ⟨_, e⟩ := (a2.trans f1) hw
      unfold ryB
      rw [f3, if_pos rfl]
      rw [he', List.append_nil, h0] at e
      exact congrArg some e.symm
    · rw [if_neg h0] at hw he' ⊢
      have hF : ryF op { rp0 with err := nmV ⟨raw, false⟩ 2 } = true := by unfold ryF; simp only; rw [if_neg h0]; exact decide_eq_true b2
      rw [if_pos hF]
      obtain ⟨_, e⟩ := a2 hw
      unfold ryB
      simp only
      rw [if_neg h0, List.append_nil]
      rw [he', List.append_nil] at e
      exact congrArg some e.symm
end Go.Proofs.Ythdjgpdgedhonaa
