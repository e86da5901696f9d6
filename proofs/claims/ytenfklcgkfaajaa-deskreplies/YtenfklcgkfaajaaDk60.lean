import Derived.Test.YtenfklcgkfaajaaDk26
namespace Go.Proofs.Ytenfklcgkfaajaa
set_option linter.unusedVariables false
set_option linter.unusedSimpArgs false
open Go.RowKit

/-! What was laid down is read back without a fault. -/
theorem tkS_fw (p t : List Int) (n : Nat) (h : p.length = n) : tkS ⟨p ++ t, false⟩ n = ⟨t, false⟩ := by
  subst h
  unfold tkS
  rw [if_pos (by simp)]
  simp
theorem tkV_fw (p t : List Int) (n : Nat) (h : p.length = n) : tkV ⟨p ++ t, false⟩ n = p := by
  subst h
  unfold tkV
  rw [if_pos (by simp)]
  simp
theorem nm_fw (x : Int) (n : Nat) (hn : n ≤ 7) (h0 : 0 ≤ x) (h1 : x < 256 ^ n) (t : List Int) : nmV ⟨lowN x n ++ t, false⟩ n = x := by
  unfold nmV
  rw [tkV_fw _ _ _ (lowN_len n x)]
  have h := leN_small (lowN_bys n x) n (by rw [lowN_len]; exact Nat.le_refl _) hn
  rw [h.2.2, leN_low, Int.emod_eq_of_lt h0 h1]
theorem up_fw (m x : Int) (n : Nat) (hn : n ≤ 7) (h0 : 0 ≤ x) (h1 : x < 256 ^ n) (hm : x ≤ m) (t : List Int) : upV ⟨lowN x n ++ t, false⟩ m n = x ∧ upS ⟨lowN x n ++ t, false⟩ m n = ⟨t, false⟩ := by
  unfold upV upS
  rw [nm_fw x n hn h0 h1 t, if_neg (by omega), if_neg (by omega), tkS_fw _ _ _ (lowN_len n x)]
  exact ⟨rfl, rfl⟩
theorem fl_fw (b : Bool) (t : List Int) : flV ⟨flB b ++ t, false⟩ = b ∧ flS ⟨flB b ++ t, false⟩ = ⟨t, false⟩ := by
  have e : flB b = lowN (if b then 1 else 0) 1 := by cases b <;> rfl
  have h := up_fw 1 (if b then 1 else 0) 1 (by omega) (by cases b <;> simp) (by cases b <;> simp) (by cases b <;> simp) t
  unfold flV flS
  rw [e, h.1]
  exact ⟨by cases b <;> rfl, h.2⟩
theorem va_fw (v t : List Int) (h : v.length ≤ 128) : vaS ⟨vaB v ++ t, false⟩ = ⟨t, false⟩ := by
  unfold vaS vaB
  rw [List.append_assoc]
  obtain ⟨h1, h2⟩ := up_fw 128 (v.length : Int) 2 (by omega) (by omega) (by simp; omega) (by omega) (v ++ t)
  rw [h1, h2, Int.toNat_natCast]
  exact tkS_fw _ _ _ rfl
theorem el_fw (c : Bool) (x : Cg) (t : List Int) (hk : x.key.length = 32) (h : elF c x = true) : elS c ⟨elB c x ++ t, false⟩ = ⟨t, false⟩ := by
  unfold elS elB
  cases c with
  | false =>
    simp only [Bool.false_eq_true, if_false]
    unfold elF at h
    simp at h
    rw [List.append_assoc, tkS_fw _ _ _ hk, va_fw _ _ h]
  | true =>
    simp only [if_true]
    unfold cgS
    cases hd : x.del with
    | true =>
      simp only [if_true]
      have e : ([2] ++ x.key ++ t : List Int) = lowN 2 1 ++ (x.key ++ t) := by rfl
      rw [e, nm_fw 2 1 (by omega) (by omega) (by decide), if_neg (by decide), if_pos rfl, tkS_fw _ _ _ (lowN_len 1 2), tkS_fw _ _ _ hk]
    | false =>
      simp only [Bool.false_eq_true, if_false]
      have e : ([1] ++ x.key ++ vaB x.val ++ t : List Int) = lowN 1 1 ++ (x.key ++ (vaB x.val ++ t)) := by
        rw [List.append_assoc, List.append_assoc]; rfl
      unfold elF at h
      rw [hd] at h
      simp at h
      rw [e, nm_fw 1 1 (by omega) (by omega) (by decide), if_pos rfl, tkS_fw _ _ _ (lowN_len 1 1), tkS_fw _ _ _ hk, va_fw _ _ h]
theorem li_fw (c : Bool) : ∀ (xs : List Cg) (t : List Int) (acc : List Cg), (∀ x ∈ xs, x.key.length = 32 ∧ elF c x = true) → (liP c xs.length ⟨xs.flatMap (elB c) ++ t, false⟩ acc).2 = ⟨t, false⟩
  | [], t, acc, _ => rfl
  | x :: xs, t, acc, h => by
    have hx := h x (by simp)
    rw [List.flatMap_cons, List.append_assoc, List.length_cons]
    unfold liP
    rw [el_fw c x _ hx.1 hx.2]
    simp only [Bool.false_eq_true, if_false]
    exact li_fw c xs t _ (fun y hy => h y (by simp [hy]))
theorem ls_fw (c : Bool) (xs : List Cg) (t : List Int) (hk : ∀ x ∈ xs, x.key.length = 32) (h : lsF c xs = true) : (lsP c ⟨lsB c xs ++ t, false⟩).2 = ⟨t, false⟩ := by
  unfold lsF at h
  rw [Bool.and_eq_true, decide_eq_true_iff, List.all_eq_true] at h
  unfold lsP lsB
  rw [List.append_assoc]
  obtain ⟨h1, h2⟩ := up_fw 4096 (xs.length : Int) 4 (by omega) (by omega) (by simp; omega) (by omega) (xs.flatMap (elB c) ++ t)
  rw [h1, h2, Int.toNat_natCast]
  exact li_fw c xs t [] (fun x hx => ⟨hk x hx, h.2 x hx⟩)
theorem in_fw (i : Nf) (t : List Int) (h : i.sum.length = 32) : inS ⟨inB i ++ t, false⟩ = ⟨t, false⟩ := by
  unfold inS inB
  simp only [List.append_assoc]
  rw [tkS_fw _ _ _ (lowN_len 1 _), tkS_fw _ _ _ (lowN_len 8 _), tkS_fw _ _ _ (lowN_len 8 _), tkS_fw _ _ _ (lowN_len 4 _), tkS_fw _ _ _ (lowN_len 4 _), tkS_fw _ _ _ (lowN_len 4 _), tkS_fw _ _ _ h]
/-- The keys of a reply's lists have 32 bytes. -/
structure RpK (r : Rp) : Prop where
  list : ∀ x ∈ r.list, x.key.length = 32
  chs : ∀ x ∈ r.chs, x.key.length = 32
theorem fd_fw (op : Int) (r : Rp) (hl : RpL r) (hk : RpK r) (h : fdF op r = true) : (fdP op ⟨fdB op r, false⟩).2 = ⟨[], false⟩ := by
  unfold fdP fdB
  unfold fdF at h
  by_cases h1 : op = 1
  · simp only [if_pos h1]
    have := tkS_fw (lowN r.ver 8) [] 8 (lowN_len 8 _)
    rwa [List.append_nil] at this
  simp only [if_neg h1]
  by_cases h2 : op = 2
  · simp only [if_pos h2] at h ⊢
    obtain ⟨a, b⟩ := fl_fw r.found (if r.found = true then vaB r.val else [])
    rw [a]
    cases hf : r.found with
    | true =>
      rw [hf] at b h
      simp only [if_true] at b ⊢
      simp at h
      rw [b]
      have := va_fw r.val [] h
      rwa [List.append_nil] at this
    | false =>
      rw [hf] at b
      simp only [Bool.false_eq_true, if_false] at b ⊢
      rw [b]
  simp only [if_neg h2] at h ⊢
  by_cases h3 : op = 3
  · simp only [if_pos h3]
    have := tkS_fw r.sum [] 32 hl.sum
    rwa [List.append_nil] at this
  simp only [if_neg h3]
  by_cases h4 : op = 4 ∨ op = 5
  · simp only [if_pos h4]
    have := tkS_fw r.raw [] r.raw.length rfl
    rwa [List.append_nil] at this
  simp only [if_neg h4]
  by_cases h6 : op = 6
  · simp only [if_pos h6] at h ⊢
    obtain ⟨a, b⟩ := fl_fw r.more (lsB false r.list)
    rw [b]
    have := ls_fw false r.list [] hk.list h
    rwa [List.append_nil] at this
  simp only [if_neg h6] at h ⊢
  by_cases h7 : op = 7
  · simp only [if_pos h7] at h ⊢
    have := ls_fw true r.chs [] hk.chs h
    rwa [List.append_nil] at this
  simp only [if_neg h7] at h ⊢
  by_cases h8 : op = 8
  · simp only [if_pos h8]
    have := in_fw r.info [] hl.inf
    rwa [List.append_nil] at this
  simp only [if_neg h8]
theorem dc_en (op : Int) (r : Rp) (hl : RpL r) (hk : RpK r) (b : List Int) (h : enR op r = some b) : ∃ q, dcP op b = some q := by
  unfold enR at h
  cases hc : (knO op && ryF op r) with
  | false => rw [hc] at h; cases h
  | true =>
    rw [hc, if_pos rfl] at h
    obtain rfl := Option.some.inj h
    obtain ⟨hkn, hF⟩ := Bool.and_eq_true_iff.1 hc
    unfold dcP
    rw [hkn]
    unfold ryF at hF
    have key : (rpP op ⟨ryB op r, false⟩).2 = ⟨[], false⟩ := by
      unfold rpP ryB
      by_cases he : r.err = 0
      · rw [if_pos he] at hF ⊢
        rw [he, nm_fw 0 2 (by omega) (by omega) (by decide), if_pos rfl, tkS_fw _ _ _ (lowN_len 2 0)]
        exact fd_fw op r hl hk hF
      · rw [if_neg he] at hF ⊢
        have hb := of_decide_eq_true hF
        rw [nm_fw r.err 2 (by omega) hb.1 (by simpa using hb.2), if_neg he]
        exact tkS_fw _ _ _ (lowN_len 2 _)
    rw [key]
    exact ⟨_, rfl⟩
end Go.Proofs.Ytenfklcgkfaajaa
