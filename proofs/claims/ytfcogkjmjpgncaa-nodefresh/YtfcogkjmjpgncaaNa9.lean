import Derived.Test.YtfcogkjmjpgncaaKt
namespace Go.Proofs.Ytfcogkjmjpgncaa
set_option linter.unusedVariables false
set_option linter.unusedSimpArgs false
open Go.RowKit

/-! Nodes, their loads, without memory. -/
structure Nd where
  kd : Int
  l : Int
  r : Int
  lc : Int
  rc : Int
  ls : List Int
  rs : List Int
  k : List Int
  vs : List Int
def zD : List Int := padz [] 32
theorem zD_len : zD.length = 32 := rfl
structure NdOk (n : Nd) : Prop where
  ls : n.ls.length = 32
  rs : n.rs.length = 32
  k : n.k.length = 32
def ndC (n : Nd) (v : Value) : List Value := [.int .i64 n.kd, .int .i64 n.l, .int .i64 n.r, .int .i64 n.lc, .int .i64 n.rc] ++ (ints .u8 n.ls ++ (ints .u8 n.rs ++ (ints .u8 n.k ++ [v])))
theorem ndC_len {n : Nd} (h : NdOk n) (v : Value) : (ndC n v).length = 102 := by simp [ndC, ints_len, h.ls, h.rs, h.k]
def nd0 : Nd := ⟨0, 0, 0, 0, 0, zD, zD, zD, []⟩
theorem nd0_ok : NdOk nd0 := ⟨rfl, rfl, rfl⟩
/-- What one side of a branch may be. -/
def SideP (p c : Int) (s : List Int) : Prop := (p = 0 ∧ c = 0 ∧ s = zD) ∨ (2 ≤ p ∧ p < 4096 ∧ 1 ≤ c ∧ c ≤ 4096)
def LeafP (n : Nd) : Prop := n.kd = 1 ∧ n.l = 0 ∧ n.lc = 0 ∧ n.ls = zD ∧ n.r = 0 ∧ n.rc = 0 ∧ n.rs = zD ∧ n.vs.length ≤ 128
def BranchP (n : Nd) : Prop := n.kd = 2 ∧ n.k = zD ∧ n.vs = [] ∧ SideP n.l n.lc n.ls ∧ SideP n.r n.rc n.rs ∧ n.l ≠ n.r ∧ 2 ≤ n.lc + n.rc ∧ n.lc + n.rc ≤ 4096
instance (p c : Int) (s : List Int) : Decidable (SideP p c s) := by unfold SideP; infer_instance
instance (n : Nd) : Decidable (LeafP n) := by unfold LeafP; infer_instance
instance (n : Nd) : Decidable (BranchP n) := by unfold BranchP; infer_instance
def RightP (n : Nd) : Prop := LeafP n ∨ BranchP n
instance (n : Nd) : Decidable (RightP n) := by unfold RightP; infer_instance
def four (x : Int) : List Int := [x % 256, x / 256 % 256, x / 65536 % 256, x / 16777216 % 256]
theorem four_len (x : Int) : (four x).length = 4 := rfl
def loadP (n : Nd) : List Int := if n.kd = 1 then n.k ++ n.vs else four n.l ++ (four n.r ++ (four n.lc ++ (four n.rc ++ (n.ls ++ n.rs))))
def encL (n : Nd) : List Int := if RightP n then loadP n else []
def encE (n : Nd) : Int := if RightP n then 0 else 90
def numP (t : List Int) (i : Nat) : Int := t.getD i 0 + 256 * t.getD (i + 1) 0 + 65536 * t.getD (i + 2) 0 + 16777216 * t.getD (i + 3) 0
/-- The node that a load of the right length spells. -/
def readL (t : List Int) : Nd := ⟨1, 0, 0, 0, 0, zD, zD, t.take 32, t.drop 32⟩
def readB (t : List Int) : Nd := ⟨2, numP t 0, numP t 4, numP t 8, numP t 12, (t.drop 16).take 32, (t.drop 48).take 32, zD, []⟩
def decN (kd : Int) (t : List Int) : Option Nd :=
  if kd = 1 ∧ 32 ≤ t.length ∧ t.length ≤ 160 then some (readL t)
  else if kd = 2 ∧ t.length = 80 ∧ BranchP (readB t) then some (readB t) else none
def decE (kd : Int) (t : List Int) : Int := if (decN kd t).isSome then 0 else 90
def decV (kd : Int) (t : List Int) : Nd := (decN kd t).getD nd0
theorem readL_ok {t : List Int} (h : 32 ≤ t.length) : NdOk (readL t) := ⟨rfl, rfl, by simp [readL]; omega⟩
theorem readB_ok {t : List Int} (h : t.length = 80) : NdOk (readB t) := ⟨by simp [readB]; omega, by simp [readB]; omega, rfl⟩
theorem decN_ok {kd : Int} {t : List Int} {n : Nd} (h : decN kd t = some n) : NdOk n := by
  unfold decN at h
  split at h
  · rename_i c; cases h; exact readL_ok c.2.1
  · split at h
    · rename_i c; cases h; exact readB_ok c.2.1
    · cases h
theorem decV_ok (kd : Int) (t : List Int) : NdOk (decV kd t) := by
  unfold decV
  cases h : decN kd t with
  | none => exact nd0_ok
  | some n => exact decN_ok h
theorem readL_leaf {t : List Int} (h : t.length ≤ 160) : LeafP (readL t) := ⟨rfl, rfl, rfl, rfl, rfl, rfl, rfl, by simp [readL]; omega⟩
theorem decN_right {kd : Int} {t : List Int} {n : Nd} (h : decN kd t = some n) : RightP n ∧ n.kd = kd := by
  unfold decN at h
  split at h
  · rename_i c; cases h; exact ⟨Or.inl (readL_leaf c.2.2), c.1.symm⟩
  · split at h
    · rename_i c; cases h; exact ⟨Or.inr c.2.2, c.1.symm⟩
    · cases h
theorem numP_four (A B : List Int) (x : Int) (h0 : 0 ≤ x) (h1 : x < 4294967296) : numP (A ++ (four x ++ B)) A.length = x := by
  unfold numP
  have e : ∀ j, j < 4 → (A ++ (four x ++ B)).getD (A.length + j) 0 = (four x).getD j 0 := fun j hj => by
    rw [List.getD_eq_getElem?_getD, List.getElem?_append_right (by omega), show A.length + j - A.length = j by omega, List.getElem?_append_left (by rw [four_len]; exact hj), List.getD_eq_getElem?_getD]
  have a := e 0 (by decide)
  rw [Nat.add_zero] at a
  rw [a, e 1 (by decide), e 2 (by decide), e 3 (by decide)]
  simp only [four, List.getD_cons_zero, List.getD_cons_succ]
  omega
theorem four_numP (t : List Int) (hB : ∀ x ∈ t, 0 ≤ x ∧ x < 256) (i : Nat) (hi : i + 4 ≤ t.length) : four (numP t i) = (t.drop i).take 4 := by
  have g : ∀ j, j < t.length → 0 ≤ t.getD j 0 ∧ t.getD j 0 < 256 := fun j hj => hB _ (by rw [List.getD_eq_getElem?_getD, List.getElem?_eq_getElem hj]; exact List.getElem_mem _)
  have g0 := g i (by omega)
  have g1 := g (i + 1) (by omega)
  have g2 := g (i + 2) (by omega)
  have g3 := g (i + 3) (by omega)
  have e : (t.drop i).take 4 = [t.getD i 0, t.getD (i + 1) 0, t.getD (i + 2) 0, t.getD (i + 3) 0] := by
    apply List.ext_getElem?
    intro j
    by_cases hj : j < 4
    · rw [List.getElem?_take, if_pos hj, List.getElem?_drop]
      have q : ∀ m, i + m < t.length → t[i + m]? = some (t.getD (i + m) 0) := fun m hm => by rw [List.getD_eq_getElem?_getD, List.getElem?_eq_getElem hm]; rfl
      match j, hj with
      | 0, _ => exact q 0 (by omega)
      | 1, _ => exact q 1 (by omega)
      | 2, _ => exact q 2 (by omega)
      | 3, _ => exact q 3 (by omega)
    · rw [List.getElem?_eq_none (by simp; omega), List.getElem?_eq_none (by simp; omega)]
  rw [e]
  unfold four numP
  generalize t.getD i 0 = a at *
  generalize t.getD (i + 1) 0 = b at *
  generalize t.getD (i + 2) 0 = c at *
  generalize t.getD (i + 3) 0 = d at *
  simp only [List.cons.injEq, and_true]
  refine ⟨?_, ?_, ?_, ?_⟩ <;> omega
/-- A right node comes back from its load. -/
theorem dec_load {n : Nd} (ok : NdOk n) (h : RightP n) : decN n.kd (loadP n) = some n := by
  rcases h with h | h
  · obtain ⟨h1, h2, h3, h4, h5, h6, h7, h8⟩ := h
    have hl : (loadP n).length = 32 + n.vs.length := by unfold loadP; rw [if_pos h1, List.length_append, ok.k]
    unfold decN
    rw [if_pos ⟨h1, by omega, by omega⟩]
    have e : loadP n = n.k ++ n.vs := by unfold loadP; rw [if_pos h1]
    rw [e]
    obtain ⟨kd, l, r, lc, rc, ls, rs, k, vs⟩ := n
    simp only at h1 h2 h3 h4 h5 h6 h7
    subst h1 h2 h3 h4 h5 h6 h7
    have hk : k.length = 32 := ok.k
    simp only [readL, Option.some.injEq, Nd.mk.injEq, true_and]
    exact ⟨by rw [← hk, List.take_left], by rw [← hk, List.drop_left]⟩
  · have hb := h
    obtain ⟨h1, h2, h3, h4, h5, h6, h7, h8⟩ := h
    have hn1 : ¬ n.kd = 1 := by omega
    have e : loadP n = four n.l ++ (four n.r ++ (four n.lc ++ (four n.rc ++ (n.ls ++ n.rs)))) := by unfold loadP; rw [if_neg hn1]
    have hl : (loadP n).length = 80 := by rw [e]; simp [four_len, ok.ls, ok.rs]
    have hL : 0 ≤ n.l ∧ n.l < 4096 := by rcases h4 with h | h <;> omega
    have hR : 0 ≤ n.r ∧ n.r < 4096 := by rcases h5 with h | h <;> omega
    have hLC : 0 ≤ n.lc ∧ n.lc ≤ 4096 := by rcases h4 with h | h <;> omega
    have hRC : 0 ≤ n.rc ∧ n.rc ≤ 4096 := by rcases h5 with h | h <;> omega
    have e0 : numP (loadP n) 0 = n.l := by rw [e]; exact numP_four [] _ n.l hL.1 (by omega)
    have e1 : numP (loadP n) 4 = n.r := by rw [e]; exact numP_four (four n.l) _ n.r hR.1 (by omega)
    have e2 : numP (loadP n) 8 = n.lc := by
      rw [e, ← List.append_assoc]; exact numP_four (four n.l ++ four n.r) _ n.lc hLC.1 (by omega)
    have e3 : numP (loadP n) 12 = n.rc := by
      rw [e, ← List.append_assoc, ← List.append_assoc]; exact numP_four ((four n.l ++ four n.r) ++ four n.lc) _ n.rc hRC.1 (by omega)
    have e4 : ((loadP n).drop 16).take 32 = n.ls := by
      rw [e, show four n.l ++ (four n.r ++ (four n.lc ++ (four n.rc ++ (n.ls ++ n.rs)))) = (four n.l ++ (four n.r ++ (four n.lc ++ four n.rc))) ++ (n.ls ++ n.rs) by simp, List.drop_left' (by simp [four_len])]
      rw [← ok.ls, List.take_left]
    have e5 : ((loadP n).drop 48).take 32 = n.rs := by
      rw [e, show four n.l ++ (four n.r ++ (four n.lc ++ (four n.rc ++ (n.ls ++ n.rs)))) = (four n.l ++ (four n.r ++ (four n.lc ++ (four n.rc ++ n.ls)))) ++ n.rs by simp, List.drop_left' (by simp [four_len, ok.ls])]
      rw [← ok.rs, List.take_length]
    have en : readB (loadP n) = n := by
      unfold readB
      rw [e0, e1, e2, e3, e4, e5, ← h1, ← h2, ← h3]
    unfold decN
    rw [if_neg (by intro h; exact hn1 h.1), if_pos ⟨h1, hl, by rw [en]; exact hb⟩, en]
/-- Bytes that are taken are those of the node told. -/
theorem load_dec {kd : Int} {t : List Int} {n : Nd} (hB : ∀ x ∈ t, 0 ≤ x ∧ x < 256) (h : decN kd t = some n) : loadP n = t := by
  unfold decN at h
  split at h
  · rename_i c; cases h
    unfold loadP readL
    rw [if_pos rfl]; exact List.take_append_drop 32 t
  · split at h
    · rename_i c; cases h
      unfold loadP
      rw [if_neg (by simp [readB])]
      simp only [readB]
      have hl := c.2.1
      rw [four_numP t hB 0 (by omega), four_numP t hB 4 (by omega), four_numP t hB 8 (by omega), four_numP t hB 12 (by omega)]
      apply List.ext_getElem?
      intro j
      have key : ∀ (a m : Nat) (s : List Int), a + m ≤ t.length → (((t.drop a).take m) ++ s)[j]? = if j < m then t[a + j]? else s[j - m]? := fun a m s hm => by
        by_cases hj : j < m
        · rw [if_pos hj, List.getElem?_append_left (by simp; omega), List.getElem?_take, if_pos hj, List.getElem?_drop]
        · rw [if_neg hj, List.getElem?_append_right (by simp; omega)]
          congr 1
          simp; omega
      have key' : ∀ (a m i : Nat) (s : List Int), a + m ≤ t.length → (((t.drop a).take m) ++ s)[i]? = if i < m then t[a + i]? else s[i - m]? := fun a m i s hm => by
        by_cases hj : i < m
        · rw [if_pos hj, List.getElem?_append_left (by simp; omega), List.getElem?_take, if_pos hj, List.getElem?_drop]
        · rw [if_neg hj, List.getElem?_append_right (by simp; omega)]
          congr 1
          simp; omega
      rw [key' 0 4 j _ (by omega)]
      split
      · congr 1; omega
      rw [key' 4 4 _ _ (by omega)]
      split
      · congr 1; omega
      rw [key' 8 4 _ _ (by omega)]
      split
      · congr 1; omega
      rw [key' 12 4 _ _ (by omega)]
      split
      · congr 1; omega
      rw [key' 16 32 _ _ (by omega)]
      split
      · congr 1; omega
      by_cases hj : j < 80
      · rw [List.getElem?_take, if_pos (by omega), List.getElem?_drop]; congr 1; omega
      · rw [List.getElem?_eq_none (by simp; omega), List.getElem?_eq_none (by omega)]
    · cases h
theorem load_len {n : Nd} (ok : NdOk n) (h : RightP n) : (loadP n).length ≤ 160 := by
  unfold loadP
  rcases h with h | h
  · rw [if_pos h.1, List.length_append, ok.k]; have := h.2.2.2.2.2.2.2; omega
  · rw [if_neg (by have := h.1; omega)]; simp [four_len, ok.ls, ok.rs]
end Go.Proofs.Ytfcogkjmjpgncaa
