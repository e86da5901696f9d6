import Derived.Test.YtbcadiecpcngdaaKt
import Derived.Lib.LazyBuf
namespace Go.Proofs.Ytbcadiecpcngdaa
set_option linter.unusedVariables false
set_option linter.unusedSimpArgs false
open Go.RowKit
attribute [local go_sem ↓] Go.wp_at_zero Go.wp_at_succ

theorem cmpK_all {z y : List Int} (hl : z.length = y.length) (h : ∀ j, j < z.length → z.getD j 0 = y.getD j 0) : z = y := by
  apply List.ext_getElem hl
  intro i h1 h2
  have := h i h1
  simpa [List.getD_eq_getElem?_getD, List.getElem?_eq_getElem h1, List.getElem?_eq_getElem h2] using this
set_option maxRecDepth 100000 in
set_option maxHeartbeats 400000 in
theorem sameBytes_any (w : World) (zs ys : List Int) (sp tp : Option Addr) (cap dap : Nat) (hS : Src w sp cap zs) (hT : Src w tp dap ys) :
    Calls Try.prog 37 #[.slice sp zs.length cap, .slice tp ys.length dap] w fun e w' => e = .returned (.bool (decide (zs = ys))) ∧ Below w.heap.size w w' := by
  obtain ⟨hc, hm, b, o, hb, hsp, hsrc⟩ := hS
  obtain ⟨hc2, hm2, b2, o2, hb2, hsp2, hsrc2⟩ := hT
  unfold maxLen at hm hm2
  by_cases hl : zs.length = ys.length
  · go_enter Try.func37, Try.ntmps37
    rw [hl] at hsp hsrc hb hc ⊢
    have hN := hid hl
    have i0 : (ys.length : Int) ≤ 9223372036854775807 := by omega
    generalize hn : ys.length = n at *
    have HN := hid hn
    clear hl hn
    go_wp2
    go_loopw [5] (fun i wr => ∃ k : Nat, k ≤ n ∧ i = .int .i64 k ∧ (∀ j, j < k → zs.getD j 0 = ys.getD j 0) ∧ Below w.heap.size w wr) (fun i _ => n - (intOf i).toNat)
    case atStart => exact ⟨0, by omega, rfl, fun j hj => by omega, Below.refl _ _⟩
    case round =>
      obtain ⟨k, hk, rfl, hsame, hB⟩ := hrel
      by_cases hlt : k < n
      · have i1 : (k : Int) < (n : Int) := by omega
        obtain rfl := hsp (by omega)
        obtain rfl := hsp2 (by omega)
        have c0 := (hB.cell (p := ⟨b, o + k, none⟩) (hb (by omega))).trans (hsrc k hlt)
        have c1 := (hB.cell (p := ⟨b2, o2 + k, none⟩) (hb2 (by omega))).trans (hsrc2 k hlt)
        by_cases he : zs.getD k 0 = ys.getD k 0
        · have HE := hid (show ∀ j, j < k + 1 → zs.getD j 0 = ys.getD j 0 from fun j hj => by rcases Nat.lt_succ_iff_lt_or_eq.1 hj with h | rfl; exact hsame j h; exact he)
          rw [he] at c0
          clear he hsame
          generalize ys.getD k 0 = x at *
          go_wp2
          go_quiet (fail)
          go_wp2
          go_roundw
          case rel => exact ⟨k + 1, by omega, by go_num, HE.out, below_drewN hB _⟩
          case measure => simp [intOf]; omega
        · have hne : zs ≠ ys := fun e => he (by rw [e])
          clear hsame
          generalize ys.getD k 0 = x at *
          generalize zs.getD k 0 = y at *
          have hd : decide (zs = ys) = false := by simp [hne]
          have HD := hid hd
          clear hd hne
          go_wp2
          go_quiet (fail)
          go_wp2
          go_ret
          exact ⟨(by rw [HD.out]; rfl), below_drewN hB _⟩
      · obtain rfl : k = n := by omega
        have e : zs = ys := cmpK_all (by rw [hN.out, HN.out]) fun j hj => hsame j (by have := hN.out; omega)
        have HD := hid (show decide (zs = ys) = true by simp [e])
        clear e hlt
        go_wp2
        go_ret
        exact ⟨(by rw [HD.out]; rfl), hB⟩
  · have hne : zs ≠ ys := fun e => hl (by rw [e])
    have HD := hid (show decide (zs = ys) = false by simp [hne])
    clear hne
    have hl2 : ¬ ((zs.length : Int) = (ys.length : Int)) := by omega
    generalize decide (zs = ys) = d at *
    generalize zs.length = n at *
    generalize ys.length = m at *
    go_enter Try.func37, Try.ntmps37
    go_wp2
    go_ret
    exact ⟨(by rw [HD.out]; rfl), Below.refl _ _⟩
/-- A list that a call made, not empty. -/
theorem Own.pos {w : World} {base : Nat} {v : Value} {zs : List Int} (h : Own w base v zs) (hp : 0 < zs.length) : ∃ g cap, v = .slice (some ⟨g, 0, none⟩) zs.length cap ∧ w.cell? ⟨g, 0, none⟩ = some (.int .u8 (zs.getD 0 0)) ∧ Src w (some ⟨g, 0, none⟩) cap zs ∧ g < w.heap.size := by
  obtain ⟨h1, ⟨rfl, hn⟩ | ⟨g, cap, cur, rfl, hg, hh, hc, hm, hs, ht⟩⟩ := h
  · omega
  · have hS : Src w (some ⟨g, 0, none⟩) cap zs := by
      refine ⟨hc, hm, g, 0, fun _ => hlt hh, fun _ => rfl, fun j hj => ?_⟩
      rw [Nat.zero_add, cell_of_row _ _ _ _ _ _ hh]
      have hg2 := ints_get .u8 zs j hj
      rw [← ht, List.getElem?_take, if_pos (by omega)] at hg2
      simpa using hg2
    refine ⟨g, cap, rfl, ?_, hS, hlt hh⟩
    obtain ⟨_, _, b, o, _, h4, h5⟩ := hS
    have e := h4 hp
    simp only [Option.some.injEq, Addr.mk.injEq] at e
    obtain ⟨rfl, rfl, _⟩ := e
    exact h5 0 hp
theorem same_self (w : World) (zs : List Int) (sp tp : Option Addr) (cap dap : Nat) (hS : Src w sp cap zs) (hT : Src w tp dap zs) :
    Calls Try.prog 37 #[.slice sp zs.length cap, .slice tp zs.length dap] w fun e w' => e = .returned (.bool true) ∧ Below w.heap.size w w' := by
  have := sameBytes_any w zs zs sp tp cap dap hS hT
  rwa [show decide (zs = zs) = true by simp] at this
end Go.Proofs.Ytbcadiecpcngdaa
namespace Go.Proofs.Ytbcadiecpcngdaa
set_option linter.unusedVariables false
set_option linter.unusedSimpArgs false
open Go.RowKit

/-! Nodes, their loads, without memory. -/
structure Nd where
  kd : Int
  l : Int
  r : Int
  lc : Int
  rc : Int
  ls : List Int
  rs : List Int
  k : List Int
  vs : List Int
def zD : List Int := padz [] 32
theorem zD_len : zD.length = 32 := rfl
structure NdOk (n : Nd) : Prop where
  ls : n.ls.length = 32
  rs : n.rs.length = 32
  k : n.k.length = 32
def ndC (n : Nd) (v : Value) : List Value := [.int .i64 n.kd, .int .i64 n.l, .int .i64 n.r, .int .i64 n.lc, .int .i64 n.rc] ++ (ints .u8 n.ls ++ (ints .u8 n.rs ++ (ints .u8 n.k ++ [v])))
theorem ndC_len {n : Nd} (h : NdOk n) (v : Value) : (ndC n v).length = 102 := by simp [ndC, ints_len, h.ls, h.rs, h.k]
def nd0 : Nd := ⟨0, 0, 0, 0, 0, zD, zD, zD, []⟩
theorem nd0_ok : NdOk nd0 := ⟨rfl, rfl, rfl⟩
/-- What one side of a branch may be. -/
def SideP (p c : Int) (s : List Int) : Prop := (p = 0 ∧ c = 0 ∧ s = zD) ∨ (2 ≤ p ∧ p < 4096 ∧ 1 ≤ c ∧ c ≤ 4096)
def LeafP (n : Nd) : Prop := n.kd = 1 ∧ n.l = 0 ∧ n.lc = 0 ∧ n.ls = zD ∧ n.r = 0 ∧ n.rc = 0 ∧ n.rs = zD ∧ n.vs.length ≤ 128
def BranchP (n : Nd) : Prop := n.kd = 2 ∧ n.k = zD ∧ n.vs = [] ∧ SideP n.l n.lc n.ls ∧ SideP n.r n.rc n.rs ∧ n.l ≠ n.r ∧ 2 ≤ n.lc + n.rc ∧ n.lc + n.rc ≤ 4096
instance (p c : Int) (s : List Int) : Decidable (SideP p c s) := by unfold SideP; infer_instance
instance (n : Nd) : Decidable (LeafP n) := by unfold LeafP; infer_instance
instance (n : Nd) : Decidable (BranchP n) := by unfold BranchP; infer_instance
def RightP (n : Nd) : Prop := LeafP n ∨ BranchP n
instance (n : Nd) : Decidable (RightP n) := by unfold RightP; infer_instance
def four (x : Int) : List Int := [x % 256, x / 256 % 256, x / 65536 % 256, x / 16777216 % 256]
theorem four_len (x : Int) : (four x).length = 4 := rfl
def loadP (n : Nd) : List Int := if n.kd = 1 then n.k ++ n.vs else four n.l ++ (four n.r ++ (four n.lc ++ (four n.rc ++ (n.ls ++ n.rs))))
def encL (n : Nd) : List Int := if RightP n then loadP n else []
def encE (n : Nd) : Int := if RightP n then 0 else 90
def numP (t : List Int) (i : Nat) : Int := t.getD i 0 + 256 * t.getD (i + 1) 0 + 65536 * t.getD (i + 2) 0 + 16777216 * t.getD (i + 3) 0
/-- The node that a load of the right length spells. -/
def readL (t : List Int) : Nd := ⟨1, 0, 0, 0, 0, zD, zD, t.take 32, t.drop 32⟩
def readB (t : List Int) : Nd := ⟨2, numP t 0, numP t 4, numP t 8, numP t 12, (t.drop 16).take 32, (t.drop 48).take 32, zD, []⟩
def decN (kd : Int) (t : List Int) : Option Nd :=
  if kd = 1 ∧ 32 ≤ t.length ∧ t.length ≤ 160 then some (readL t)
  else if kd = 2 ∧ t.length = 80 ∧ BranchP (readB t) then some (readB t) else none
def decE (kd : Int) (t : List Int) : Int := if (decN kd t).isSome then 0 else 90
def decV (kd : Int) (t : List Int) : Nd := (decN kd t).getD nd0
theorem readL_ok {t : List Int} (h : 32 ≤ t.length) : NdOk (readL t) := ⟨rfl, rfl, by simp [readL]; omega⟩
theorem readB_ok {t : List Int} (h : t.length = 80) : NdOk (readB t) := ⟨by simp [readB]; omega, by simp [readB]; omega, rfl⟩
theorem decN_ok {kd : Int} {t : List Int} {n : Nd} (h : decN kd t = some n) : NdOk n := by
  unfold decN at h
  split at h
  · rename_i c; cases h; exact readL_ok c.2.1
  · split at h
    · rename_i c; cases h; exact readB_ok c.2.1
    · cases h
theorem decV_ok (kd : Int) (t : List Int) : NdOk (decV kd t) := by
  unfold decV
  cases h : decN kd t with
  | none => exact nd0_ok
  | some n => exact decN_ok h
theorem readL_leaf {t : List Int} (h : t.length ≤ 160) : LeafP (readL t) := ⟨rfl, rfl, rfl, rfl, rfl, rfl, rfl, by simp [readL]; omega⟩
theorem decN_right {kd : Int} {t : List Int} {n : Nd} (h : decN kd t = some n) : RightP n ∧ n.kd = kd := by
  unfold decN at h
  split at h
  · rename_i c; cases h; exact ⟨Or.inl (readL_leaf c.2.2), c.1.symm⟩
  · split at h
    · rename_i c; cases h; exact ⟨Or.inr c.2.2, c.1.symm⟩
    · cases h
theorem numP_four (A B : List Int) (x : Int) (h0 : 0 ≤ x) (h1 : x < 4294967296) : numP (A ++ (four x ++ B)) A.length = x := by
  unfold numP
  have e : ∀ j, j < 4 → (A ++ (four x ++ B)).getD (A.length + j) 0 = (four x).getD j 0 := fun j hj => by
    rw [List.getD_eq_getElem?_getD, List.getElem?_append_right (by omega), show A.length + j - A.length = j by omega, List.getElem?_append_left (by rw [four_len]; exact hj), List.getD_eq_getElem?_getD]
  have a := e 0 (by decide)
  rw [Nat.add_zero] at a
  rw [a, e 1 (by decide), e 2 (by decide), e 3 (by decide)]
  simp only [four, List.getD_cons_zero, List.getD_cons_succ]
  omega
theorem four_numP (t : List Int) (hB : ∀ x ∈ t, 0 ≤ x ∧ x < 256) (i : Nat) (hi : i + 4 ≤ t.length) : four (numP t i) = (t.drop i).take 4 := by
  have g : ∀ j, j < t.length → 0 ≤ t.getD j 0 ∧ t.getD j 0 < 256 := fun j hj => hB _ (by rw [List.getD_eq_getElem?_getD, List.getElem?_eq_getElem hj]; exact List.getElem_mem _)
  have g0 := g i (by omega)
  have g1 := g (i + 1) (by omega)
  have g2 := g (i + 2) (by omega)
  have g3 := g (i + 3) (by omega)
  have e : (t.drop i).take 4 = [t.getD i 0, t.getD (i + 1) 0, t.getD (i + 2) 0, t.getD (i + 3) 0] := by
    apply List.ext_getElem?
    intro j
    by_cases hj : j < 4
    · rw [List.getElem?_take, if_pos hj, List.getElem?_drop]
      have q : ∀ m, i + m < t.length → t[i + m]? = some (t.getD (i + m) 0) := fun m hm => by rw [List.getD_eq_getElem?_getD, List.getElem?_eq_getElem hm]; rfl
      match j, hj with
      | 0, _ => exact q 0 (by omega)
      | 1, _ => exact q 1 (by omega)
      | 2, _ => exact q 2 (by omega)
      | 3, _ => exact q 3 (by omega)
    · rw [List.getElem?_eq_none (by simp; omega), List.getElem?_eq_none (by simp; omega)]
  rw [e]
  unfold four numP
  generalize t.getD i 0 = a at *
  generalize t.getD (i + 1) 0 = b at *
  generalize t.getD (i + 2) 0 = c at *
  generalize t.getD (i + 3) 0 = d at *
  simp only [List.cons.injEq, and_true]
  refine ⟨?_, ?_, ?_, ?_⟩ <;> omega
/-- A right node comes back from its load. -/
theorem dec_load {n : Nd} (ok : NdOk n) (h : RightP n) : decN n.kd (loadP n) = some n := by
  rcases h with h | h
  · obtain ⟨h1, h2, h3, h4, h5, h6, h7, h8⟩ := h
    have hl : (loadP n).length = 32 + n.vs.length := by unfold loadP; rw [if_pos h1, List.length_append, ok.k]
    unfold decN
    rw [if_pos ⟨h1, by omega, by omega⟩]
    have e : loadP n = n.k ++ n.vs := by unfold loadP; rw [if_pos h1]
    rw [e]
    obtain ⟨kd, l, r, lc, rc, ls, rs, k, vs⟩ := n
    simp only at h1 h2 h3 h4 h5 h6 h7
    subst h1 h2 h3 h4 h5 h6 h7
    have hk : k.length = 32 := ok.k
    simp only [readL, Option.some.injEq, Nd.mk.injEq, true_and]
    exact ⟨by rw [← hk, List.take_left], by rw [← hk, List.drop_left]⟩
  · have hb := h
    obtain ⟨h1, h2, h3, h4, h5, h6, h7, h8⟩ := h
    have hn1 : ¬ n.kd = 1 := by omega
    have e : loadP n = four n.l ++ (four n.r ++ (four n.lc ++ (four n.rc ++ (n.ls ++ n.rs)))) := by unfold loadP; rw [if_neg hn1]
    have hl : (loadP n).length = 80 := by rw [e]; simp [four_len, ok.ls, ok.rs]
    have hL : 0 ≤ n.l ∧ n.l < 4096 := by rcases h4 with h | h <;> omega
    have hR : 0 ≤ n.r ∧ n.r < 4096 := by rcases h5 with h | h <;> omega
    have hLC : 0 ≤ n.lc ∧ n.lc ≤ 4096 := by rcases h4 with h | h <;> omega
    have hRC : 0 ≤ n.rc ∧ n.rc ≤ 4096 := by rcases h5 with h | h <;> omega
    have e0 : numP (loadP n) 0 = n.l := by rw [e]; exact numP_four [] _ n.l hL.1 (by omega)
    have e1 : numP (loadP n) 4 = n.r := by rw [e]; exact numP_four (four n.l) _ n.r hR.1 (by omega)
    have e2 : numP (loadP n) 8 = n.lc := by
      rw [e, ← List.append_assoc]; exact numP_four (four n.l ++ four n.r) _ n.lc hLC.1 (by omega)
    have e3 : numP (loadP n) 12 = n.rc := by
      rw [e, ← List.append_assoc, ← List.append_assoc]; exact numP_four ((four n.l ++ four n.r) ++ four n.lc) _ n.rc hRC.1 (by omega)
    have e4 : ((loadP n).drop 16).take 32 = n.ls := by
      rw [e, show four n.l ++ (four n.r ++ (four n.lc ++ (four n.rc ++ (n.ls ++ n.rs)))) = (four n.l ++ (four n.r ++ (four n.lc ++ four n.rc))) ++ (n.ls ++ n.rs) by simp, List.drop_left' (by simp [four_len])]
      rw [← ok.ls, List.take_left]
    have e5 : ((loadP n).drop 48).take 32 = n.rs := by
      rw [e, show four n.l ++ (four n.r ++ (four n.lc ++ (four n.rc ++ (n.ls ++ n.rs)))) = (four n.l ++ (four n.r ++ (four n.lc ++ (four n.rc ++ n.ls)))) ++ n.rs by simp, List.drop_left' (by simp [four_len, ok.ls])]
      rw [← ok.rs, List.take_length]
    have en : readB (loadP n) = n := by
      unfold readB
      rw [e0, e1, e2, e3, e4, e5, ← h1, ← h2, ← h3]
    unfold decN
    rw [if_neg (by intro h; exact hn1 h.1), if_pos ⟨h1, hl, by rw [en]; exact hb⟩, en]
/-- Bytes that are taken are those of the node told. -/
theorem load_dec {kd : Int} {t : List Int} {n : Nd} (hB : ∀ x ∈ t, 0 ≤ x ∧ x < 256) (h : decN kd t = some n) : loadP n = t := by
  unfold decN at h
  split at h
  · rename_i c; cases h
    unfold loadP readL
    rw [if_pos rfl]; exact List.take_append_drop 32 t
  · split at h
    · rename_i c; cases h
      unfold loadP
      rw [if_neg (by simp [readB])]
      simp only [readB]
      have hl := c.2.1
      rw [four_numP t hB 0 (by omega), four_numP t hB 4 (by omega), four_numP t hB 8 (by omega), four_numP t hB 12 (by omega)]
      apply List.ext_getElem?
      intro j
      have key : ∀ (a m : Nat) (s : List Int), a + m ≤ t.length → (((t.drop a).take m) ++ s)[j]? = if j < m then t[a + j]? else s[j - m]? := fun a m s hm => by
        by_cases hj : j < m
        · rw [if_pos hj, List.getElem?_append_left (by simp; omega), List.getElem?_take, if_pos hj, List.getElem?_drop]
        · rw [if_neg hj, List.getElem?_append_right (by simp; omega)]
          congr 1
          simp; omega
      have key' : ∀ (a m i : Nat) (s : List Int), a + m ≤ t.length → (((t.drop a).take m) ++ s)[i]? = if i < m then t[a + i]? else s[i - m]? := fun a m i s hm => by
        by_cases hj : i < m
        · rw [if_pos hj, List.getElem?_append_left (by simp; omega), List.getElem?_take, if_pos hj, List.getElem?_drop]
        · rw [if_neg hj, List.getElem?_append_right (by simp; omega)]
          congr 1
          simp; omega
      rw [key' 0 4 j _ (by omega)]
      split
      · congr 1; omega
      rw [key' 4 4 _ _ (by omega)]
      split
      · congr 1; omega
      rw [key' 8 4 _ _ (by omega)]
      split
      · congr 1; omega
      rw [key' 12 4 _ _ (by omega)]
      split
      · congr 1; omega
      rw [key' 16 32 _ _ (by omega)]
      split
      · congr 1; omega
      by_cases hj : j < 80
      · rw [List.getElem?_take, if_pos (by omega), List.getElem?_drop]; congr 1; omega
      · rw [List.getElem?_eq_none (by simp; omega), List.getElem?_eq_none (by omega)]
    · cases h
theorem load_len {n : Nd} (ok : NdOk n) (h : RightP n) : (loadP n).length ≤ 160 := by
  unfold loadP
  rcases h with h | h
  · rw [if_pos h.1, List.length_append, ok.k]; have := h.2.2.2.2.2.2.2; omega
  · rw [if_neg (by have := h.1; omega)]; simp [four_len, ok.ls, ok.rs]
end Go.Proofs.Ytbcadiecpcngdaa
namespace Go.Proofs.Ytbcadiecpcngdaa
set_option linter.unusedVariables false
set_option linter.unusedSimpArgs false
open Go.RowKit
attribute [local go_sem ↓] Go.wp_at_zero Go.wp_at_succ

/-! Children, leaves, branches and nodes as cells: builds and equality. -/
def chC (p c : Int) (s : List Int) : List Value := [.int .i64 p, .int .i64 c] ++ ints .u8 s
def leafC (k : List Int) (v : Value) : List Value := ints .u8 k ++ [v]
def brC (n : Nd) : List Value := chC n.l n.lc n.ls ++ chC n.r n.rc n.rs
theorem chC_len (p c : Int) (s : List Int) (h : s.length = 32) : (chC p c s).length = 34 := by simp [chC, ints_len, h]
theorem leafC_len (k : List Int) (v : Value) (h : k.length = 32) : (leafC k v).length = 33 := by simp [leafC, ints_len, h]
theorem brC_len {n : Nd} (h : NdOk n) : (brC n).length = 68 := by simp [brC, chC_len _ _ _ h.ls, chC_len _ _ _ h.rs]
theorem chC_one (p c : Int) (s : List Int) : ∀ x ∈ chC p c s, x.oneCell' = true := fun x hx => by
  simp only [chC, List.mem_append, List.mem_cons, List.not_mem_nil, or_false] at hx
  rcases hx with (rfl | rfl) | hx
  · rfl
  · rfl
  · exact ints_one _ _ x hx
theorem leafC_one (k : List Int) (v : Value) (hv : v.oneCell' = true) : ∀ x ∈ leafC k v, x.oneCell' = true := fun x hx => by
  simp only [leafC, List.mem_append, List.mem_cons, List.not_mem_nil, or_false] at hx
  rcases hx with hx | rfl
  · exact ints_one _ _ x hx
  · exact hv
theorem brC_one (n : Nd) : ∀ x ∈ brC n, x.oneCell' = true := fun x hx => by
  simp only [brC, List.mem_append] at hx
  rcases hx with hx | hx
  · exact chC_one _ _ _ x hx
  · exact chC_one _ _ _ x hx
theorem ndC_one (n : Nd) (v : Value) (hv : v.oneCell' = true) : ∀ x ∈ ndC n v, x.oneCell' = true := fun x hx => by
  simp only [ndC, List.mem_append, List.mem_cons, List.not_mem_nil, or_false] at hx
  rcases hx with (rfl | rfl | rfl | rfl | rfl) | hx | hx | hx | rfl
  · rfl
  · rfl
  · rfl
  · rfl
  · rfl
  · exact ints_one _ _ x hx
  · exact ints_one _ _ x hx
  · exact ints_one _ _ x hx
  · exact hv
theorem Try.sizeNd : (Try.prog.info? 39).map (·.size) = some 102 := by kernel_rfl
theorem Try.sizeCh : (Try.prog.info? 94).map (·.size) = some 34 := by kernel_rfl
theorem Try.sizeLf : (Try.prog.info? 96).map (·.size) = some 33 := by kernel_rfl
theorem Try.sizeBr : (Try.prog.info? 98).map (·.size) = some 68 := by kernel_rfl
theorem list32 {l : List Value} (h : l.length = 32) : ∃ x0 x1 x2 x3 x4 x5 x6 x7 x8 x9 x10 x11 x12 x13 x14 x15 x16 x17 x18 x19 x20 x21 x22 x23 x24 x25 x26 x27 x28 x29 x30 x31, l = [x0, x1, x2, x3, x4, x5, x6, x7, x8, x9, x10, x11, x12, x13, x14, x15, x16, x17, x18, x19, x20, x21, x22, x23, x24, x25, x26, x27, x28, x29, x30, x31] := by
  match l, h with
  | [x0, x1, x2, x3, x4, x5, x6, x7, x8, x9, x10, x11, x12, x13, x14, x15, x16, x17, x18, x19, x20, x21, x22, x23, x24, x25, x26, x27, x28, x29, x30, x31], _ => exact ⟨x0, x1, x2, x3, x4, x5, x6, x7, x8, x9, x10, x11, x12, x13, x14, x15, x16, x17, x18, x19, x20, x21, x22, x23, x24, x25, x26, x27, x28, x29, x30, x31, rfl⟩
theorem built_child' (p c : Int) (l : List Value) (hl : l.length = 32) : Try.prog.built 94 [(0, .int .i64 p), (1, .int .i64 c), (2, .agg l.toArray)] = some ([Value.int .i64 p, .int .i64 c] ++ l).toArray := by
  obtain ⟨x0, x1, x2, x3, x4, x5, x6, x7, x8, x9, x10, x11, x12, x13, x14, x15, x16, x17, x18, x19, x20, x21, x22, x23, x24, x25, x26, x27, x28, x29, x30, x31, rfl⟩ := list32 hl
  kernel_rfl
theorem built_child (p c : Int) (s : List Int) (h : s.length = 32) : Try.prog.built 94 [(0, .int .i64 p), (1, .int .i64 c), (2, .agg (ints .u8 s).toArray)] = some (chC p c s).toArray := built_child' p c _ (by rw [ints_len, h])
theorem built_leaf' (l : List Value) (hl : l.length = 32) (sp : Option Addr) (n c : Nat) : Try.prog.built 96 [(0, .agg l.toArray), (1, .slice sp n c)] = some (l ++ [Value.slice sp n c]).toArray := by
  obtain ⟨x0, x1, x2, x3, x4, x5, x6, x7, x8, x9, x10, x11, x12, x13, x14, x15, x16, x17, x18, x19, x20, x21, x22, x23, x24, x25, x26, x27, x28, x29, x30, x31, rfl⟩ := list32 hl
  kernel_rfl
theorem built_leaf (k : List Int) (h : k.length = 32) (sp : Option Addr) (n c : Nat) : Try.prog.built 96 [(0, .agg (ints .u8 k).toArray), (1, .slice sp n c)] = some (leafC k (.slice sp n c)).toArray := built_leaf' _ (by rw [ints_len, h]) sp n c
theorem built_branch' (p c q d : Int) (l r : List Value) (hl : l.length = 32) (hr : r.length = 32) : Try.prog.built 98 [(0, .agg ([Value.int .i64 p, .int .i64 c] ++ l).toArray), (1, .agg ([Value.int .i64 q, .int .i64 d] ++ r).toArray)] = some (([Value.int .i64 p, .int .i64 c] ++ l) ++ ([Value.int .i64 q, .int .i64 d] ++ r)).toArray := by
  obtain ⟨x0, x1, x2, x3, x4, x5, x6, x7, x8, x9, x10, x11, x12, x13, x14, x15, x16, x17, x18, x19, x20, x21, x22, x23, x24, x25, x26, x27, x28, x29, x30, x31, rfl⟩ := list32 hl
  obtain ⟨y0, y1, y2, y3, y4, y5, y6, y7, y8, y9, y10, y11, y12, y13, y14, y15, y16, y17, y18, y19, y20, y21, y22, y23, y24, y25, y26, y27, y28, y29, y30, y31, rfl⟩ := list32 hr
  kernel_rfl
theorem built_branch {n : Nd} (h : NdOk n) : Try.prog.built 98 [(0, .agg (chC n.l n.lc n.ls).toArray), (1, .agg (chC n.r n.rc n.rs).toArray)] = some (brC n).toArray := built_branch' n.l n.lc n.r n.rc _ _ (by rw [ints_len, h.ls]) (by rw [ints_len, h.rs])
theorem built_ndL' (l : List Value) (hl : l.length = 32) (sp : Option Addr) (n c : Nat) : Try.prog.built 39 [(0, .int .i64 1), (7, .agg l.toArray), (8, .slice sp n c)] = some ([Value.int .i64 1, .int .i64 0, .int .i64 0, .int .i64 0, .int .i64 0] ++ (ints .u8 zD ++ (ints .u8 zD ++ (l ++ [Value.slice sp n c])))).toArray := by
  obtain ⟨x0, x1, x2, x3, x4, x5, x6, x7, x8, x9, x10, x11, x12, x13, x14, x15, x16, x17, x18, x19, x20, x21, x22, x23, x24, x25, x26, x27, x28, x29, x30, x31, rfl⟩ := list32 hl
  kernel_rfl
theorem built_ndL (k : List Int) (h : k.length = 32) (vs : List Int) (sp : Option Addr) (n c : Nat) : Try.prog.built 39 [(0, .int .i64 1), (7, .agg (ints .u8 k).toArray), (8, .slice sp n c)] = some (ndC ⟨1, 0, 0, 0, 0, zD, zD, k, vs⟩ (.slice sp n c)).toArray := built_ndL' _ (by rw [ints_len, h]) sp n c
theorem built_ndB' (p q c d : Int) (l r : List Value) (hl : l.length = 32) (hr : r.length = 32) : Try.prog.built 39 [(0, .int .i64 2), (1, .int .i64 p), (2, .int .i64 q), (3, .int .i64 c), (4, .int .i64 d), (5, .agg l.toArray), (6, .agg r.toArray)] = some ([Value.int .i64 2, .int .i64 p, .int .i64 q, .int .i64 c, .int .i64 d] ++ (l ++ (r ++ (ints .u8 zD ++ [Value.slice none 0 0])))).toArray := by
  obtain ⟨x0, x1, x2, x3, x4, x5, x6, x7, x8, x9, x10, x11, x12, x13, x14, x15, x16, x17, x18, x19, x20, x21, x22, x23, x24, x25, x26, x27, x28, x29, x30, x31, rfl⟩ := list32 hl
  obtain ⟨y0, y1, y2, y3, y4, y5, y6, y7, y8, y9, y10, y11, y12, y13, y14, y15, y16, y17, y18, y19, y20, y21, y22, y23, y24, y25, y26, y27, y28, y29, y30, y31, rfl⟩ := list32 hr
  kernel_rfl
theorem built_ndB (l r lc rc : Int) (ls rs : List Int) (h1 : ls.length = 32) (h2 : rs.length = 32) : Try.prog.built 39 [(0, .int .i64 2), (1, .int .i64 l), (2, .int .i64 r), (3, .int .i64 lc), (4, .int .i64 rc), (5, .agg (ints .u8 ls).toArray), (6, .agg (ints .u8 rs).toArray)] = some (ndC ⟨2, l, r, lc, rc, ls, rs, zD, []⟩ (.slice none 0 0)).toArray := built_ndB' l r lc rc _ _ (by rw [ints_len, h1]) (by rw [ints_len, h2])
theorem built_nd0 : Try.prog.built 39 [] = some (ndC nd0 (.slice none 0 0)).toArray := by kernel_rfl
theorem built_ch0 : Try.prog.built 94 [] = some (chC 0 0 zD).toArray := by kernel_rfl
theorem built_D0 : Try.prog.built 36 [] = some (ints .u8 zD).toArray := by kernel_rfl
theorem built_K0 : Try.prog.built 37 [] = some (ints .u8 zD).toArray := by kernel_rfl
/-- A value built, guarded or not. -/
theorem wpList_built {P : Program} {ops : Array Oper} {rest : List Oper} {o : Oper} {a : Act} {w : World} {Q : Exit → Act → World → Prop} (hw : Region.wanted o (yielded ops a.tmps) = true) (t : TypeId) (parts : Array (Nat × Operand)) (ho : o.op = .build t parts) (ps : List (Nat × Value)) (hp : (parts.toList.map fun (i, x) => (i, a.eval x)) = ps) (cs : Array Value) (hb : P.built t ps = some cs)
    (h : wpList P ops Q rest (a.put o.dst (.agg cs)) w) : wpList P ops Q (o :: rest) a w := by
  have e : P.built t (parts.map fun (i, x) => (i, a.eval x)).toList = some cs := by rw [Array.toList_map, hp]; exact hb
  exact BigFrame.wpList_want hw fun _ hK => wp_build t parts ho (by rw [e]; rfl) (by rw [e]; exact hK _ _ h)
/-- A row of bytes compared, at any depth. -/
theorem eqIn_ints {P : Program} {t e : TypeId} {kd : IntKind} {n : Nat} (ht : P.underlying t = some (.array n e)) (hu : P.underlying e = some (.int kd)) (hs : (P.info? e).map (·.size) = some 1) (k : IntKind) (d : Nat) (ax bs : List Int) (ha : ax.length = n) (hb : bs.length = n) (w : World) :
    (Op.equalIn (d + 1 + 1) t (.agg (ax.map (Value.int k)).toArray) (.agg (bs.map (Value.int k)).toArray)).run P w = .ok (decide (ax = bs)) w := by
  obtain ⟨i, hi⟩ := info_of_underlying hu
  have hc : P.cellsOf e = 1 := by simp [Program.cellsOf, hi] at hs ⊢; exact hs
  rw [run_equalIn_array w (d + 1) _ _ ht hi, hc, eqItems_ints hu d k ax bs w _ (fun j hj => by simp at hj; omega), all_range_eq ax bs n ha hb]
theorem part_row {P : Program} {e t : TypeId} {n : Nat} (hu : P.underlying t = some (.array n e)) {m : Nat} (hs : (P.info? t).map (·.size) = some m) (xs : Array Value) (o : Nat) (w : World) : (part t xs o).run P w = .ok (.agg (xs.extract o (o + m))) w := by
  have hagg : (isAgg t).run P w = .ok true w := by
    unfold isAgg
    rw [Sem.run_bind, run_underlying hu w]
    rfl
  obtain ⟨i, hi, rfl⟩ := Option.map_eq_some_iff.1 hs
  simp [part, Sem.run_bind, hagg, sizeOf, typeInfo, hi]
theorem eqFields_cons {P : Program} {d : Nat} {xs ys : Array Value} {f : Field} {fs : List Field} {w : World} {a b : Value} {r : Bool} (hn : f.name ≠ "_") (ha : (part f.type xs f.offset).run P w = .ok a w) (hb : (part f.type ys f.offset).run P w = .ok b w) (hr : (Op.equalIn d f.type a b).run P w = .ok r w) :
    (Op.eqFields d xs ys (f :: fs)).run P w = if r = true then (Op.eqFields d xs ys fs).run P w else .ok false w := by
  simp only [Op.eqFields, ne_eq, hn, not_false_eq_true, if_true, Sem.run_bind, ha, hb, hr, Result.andThen_ok]
  cases r <;> simp
theorem Try.sizeD : (Try.prog.info? 36).map (·.size) = some 32 := by kernel_rfl
theorem Try.stoodCh : Try.prog.stoodInHeld 94 = false := by kernel_rfl
set_option maxRecDepth 100000 in
theorem Try.fieldsCh : ∃ a b c, (Try.prog.fieldsOf 94).toList = [a, b, c] ∧ a.name ≠ "_" ∧ b.name ≠ "_" ∧ c.name ≠ "_" ∧ a.type = 3 ∧ b.type = 3 ∧ c.type = 36 ∧ a.offset = 0 ∧ b.offset = 1 ∧ c.offset = 2 := by
  refine ⟨_, _, _, rfl, ?_, ?_, ?_, ?_, ?_, ?_, ?_, ?_, ?_⟩ <;> decide
theorem Try.undCh : Try.prog.underlying 94 = some (.struct (Try.prog.fieldsOf 94)) := by kernel_rfl
set_option maxRecDepth 100000 in
theorem eqC (p c p' c' : Int) (s s' : List Int) (h : s.length = 32) (h' : s'.length = 32) (w : World) :
    (Op.equalIn 10000 94 (.agg (chC p c s).toArray) (.agg (chC p' c' s').toArray)).run Try.prog w = .ok (decide (p = p' ∧ c = c' ∧ s = s')) w := by
  rw [run_equalIn_struct w 9999 _ _ _ Try.undCh Try.stoodCh]
  obtain ⟨a, b, d, hf, na, nb, nd, ta, tb, td, oa, ob, od⟩ := Try.fieldsCh
  rw [hf]
  have hu3 : Try.prog.underlying 3 = some (.int .i64) := by kernel_rfl
  have e1 : ∀ (x y : Int) (l : List Int), ((chC x y l).toArray)[0]? = some (.int .i64 x) := fun _ _ _ => rfl
  have e2 : ∀ (x y : Int) (l : List Int), ((chC x y l).toArray)[1]? = some (.int .i64 y) := fun _ _ _ => rfl
  have e3 : ∀ (x y : Int) (l : List Int), l.length = 32 → ((chC x y l).toArray).extract 2 (2 + 32) = (l.map (Value.int .u8)).toArray := fun x y l hl => by
    simp only [chC, ints, List.extract_toArray]
    congr 1
    simp only [List.extract_eq_take_drop, List.cons_append, List.nil_append, List.drop_succ_cons, List.drop_zero]
    rw [List.take_of_length_le (by simp [hl])]
  have hd := fun xs o => part_row Try.underlying36 Try.sizeD xs o w
  have hq := eqIn_ints Try.underlying36 Try.underlying5 Try.size5 .u8 9997 s s' h h' w
  rw [eqFields_cons na (by rw [ta, oa]; exact part_int hu3 _ _ _ (e1 p c s) w) (by rw [ta, oa]; exact part_int hu3 _ _ _ (e1 p' c' s') w) (by rw [ta]; exact run_equalIn_int w 9998 3 .i64 .i64 _ _ hu3),
    eqFields_cons nb (by rw [tb, ob]; exact part_int hu3 _ _ _ (e2 p c s) w) (by rw [tb, ob]; exact part_int hu3 _ _ _ (e2 p' c' s') w) (by rw [tb]; exact run_equalIn_int w 9998 3 .i64 .i64 _ _ hu3),
    eqFields_cons nd (by rw [td, od]; exact (hd _ 2).trans (by rw [e3 p c s h])) (by rw [td, od]; exact (hd _ 2).trans (by rw [e3 p' c' s' h'])) (by rw [td]; exact hq)]
  have hn : (Op.eqFields 9999 (chC p c s).toArray (chC p' c' s').toArray []).run Try.prog w = .ok true w := by simp [Op.eqFields]
  rw [hn]
  by_cases k1 : p = p'
  · by_cases k2 : c = c'
    · by_cases k3 : s = s' <;> simp [k1, k2, k3]
    · simp [k1, k2]
  · simp [k1]
end Go.Proofs.Ytbcadiecpcngdaa
namespace Go.Proofs.Ytbcadiecpcngdaa
set_option linter.unusedVariables false
set_option linter.unusedSimpArgs false
open Go.RowKit
attribute [local go_sem ↓] Go.wp_at_zero Go.wp_at_succ

theorem or_nat (A x k : Nat) (hk : k ≤ 24) (hA : A < 2 ^ k) (hx : x < 256) : bits .or .i64 (A : Int) ((x * 2 ^ k : Nat) : Int) = ((A + x * 2 ^ k : Nat) : Int) := by
  have h24 : (2 : Nat) ^ k ≤ 2 ^ 24 := Nat.pow_le_pow_right (by decide) hk
  have hxp : x * 2 ^ k ≤ 255 * 2 ^ 24 := Nat.mul_le_mul (by omega) h24
  show IntKind.i64.wrap ((BitVec.ofInt 64 (A : Int) ||| BitVec.ofInt 64 ((x * 2 ^ k : Nat) : Int)).toNat : Int) = _
  have e1 : (BitVec.ofInt 64 (A : Int)).toNat = A := by rw [BitVec.toNat_ofInt]; omega
  have e2 : (BitVec.ofInt 64 ((x * 2 ^ k : Nat) : Int)).toNat = x * 2 ^ k := by rw [BitVec.toNat_ofInt]; omega
  rw [BitVec.toNat_or, e1, e2, Nat.or_comm, Nat.mul_comm x, ← Nat.two_pow_add_eq_or_of_lt hA, Nat.add_comm, IntKind.wrap_i64]
  rw [Nat.mul_comm] at hxp
  omega
theorem or4 (a b c d : Int) (ha : 0 ≤ a ∧ a < 256) (hb : 0 ≤ b ∧ b < 256) (hc : 0 ≤ c ∧ c < 256) (hd : 0 ≤ d ∧ d < 256) :
    bits .or .i64 (bits .or .i64 (bits .or .i64 a (b * 256)) (c * 65536)) (d * 16777216) = a + 256 * b + 65536 * c + 16777216 * d := by
  obtain ⟨a, rfl⟩ := Int.eq_ofNat_of_zero_le ha.1
  obtain ⟨b, rfl⟩ := Int.eq_ofNat_of_zero_le hb.1
  obtain ⟨c, rfl⟩ := Int.eq_ofNat_of_zero_le hc.1
  obtain ⟨d, rfl⟩ := Int.eq_ofNat_of_zero_le hd.1
  have h1 := or_nat a b 8 (by decide) (by omega) (by omega)
  have h2 := or_nat (a + b * 2 ^ 8) c 16 (by decide) (by omega) (by omega)
  have h3 := or_nat (a + b * 2 ^ 8 + c * 2 ^ 16) d 24 (by decide) (by omega) (by omega)
  rw [show ((b : Int) * 256) = ((b * 2 ^ 8 : Nat) : Int) by omega, h1, show ((c : Int) * 65536) = ((c * 2 ^ 16 : Nat) : Int) by omega, h2, show ((d : Int) * 16777216) = ((d * 2 ^ 24 : Nat) : Int) by omega, h3]
  omega
def Bys (zs : List Int) : Prop := ∀ x ∈ zs, 0 ≤ x ∧ x < 256
theorem Bys.at {zs : List Int} (h : Bys zs) (j : Nat) (hj : j < zs.length) : 0 ≤ zs.getD j 0 ∧ zs.getD j 0 < 256 := h _ (by rw [List.getD_eq_getElem?_getD, List.getElem?_eq_getElem hj]; exact List.getElem_mem _)
set_option maxRecDepth 100000 in
set_option maxHeartbeats 400000 in
theorem readNumber_any (w : World) (t : List Int) (hy : Bys t) (h4 : 4 ≤ t.length) (sp : Option Addr) (cap : Nat) (hS : Src w sp cap t) :
    Calls Try.prog 62 #[.slice sp t.length cap] w fun e w' => e = .returned (.int .i64 (numP t 0)) ∧ Below w.heap.size w w' := by
  obtain ⟨hc, hm, b, o, hb, hsp, hsrc⟩ := hS
  obtain rfl := hsp (by omega)
  have c0 := hsrc 0 (by omega)
  have c1 := hsrc 1 (by omega)
  have c2 := hsrc 2 (by omega)
  have c3 := hsrc 3 (by omega)
  rw [Nat.add_zero] at c0
  have b0 := hy.at 0 (by omega)
  have b1 := hy.at 1 (by omega)
  have b2 := hy.at 2 (by omega)
  have b3 := hy.at 3 (by omega)
  have HE := hid (show numP t 0 = t.getD 0 0 + 256 * t.getD 1 0 + 65536 * t.getD 2 0 + 16777216 * t.getD 3 0 from rfl)
  generalize t.getD 0 0 = x0 at *
  generalize t.getD 1 0 = x1 at *
  generalize t.getD 2 0 = x2 at *
  generalize t.getD 3 0 = x3 at *
  have HO := hid (or4 x0 x1 x2 x3 b0 b1 b2 b3)
  have i4 : (4 : Int) ≤ (t.length : Int) := by omega
  generalize t.length = n at *
  go_enter Try.func62, Try.ntmps62
  go_wp2
  go_quiet (fail)
  go_wp2
  go_ret
  refine ⟨?_, below_drewN (Below.refl _ _) _⟩
  rw [HE.out, ← HO.out]
  rfl
theorem Try.guardC : Try.prog.eqGuardType Try.prog.depth 94 = false := by kernel_rfl
theorem cell_new (w : World) (cs : List Value) (t : TypeId) (j : Nat) (v : Value) (h : cs[j]? = some v) : (w.alloc (.cells cs.toArray t)).cell? ⟨w.heap.size, j, none⟩ = some v := by
  rw [cell_of_row _ _ _ _ _ _ (hnew w (.cells cs.toArray t))]; simpa using h
theorem leafC_v (k : List Int) (v : Value) (h : k.length = 32) : (leafC k v)[32]? = some v := by
  unfold leafC; rw [List.getElem?_append_right (by rw [ints_len]; omega), ints_len, h]; rfl
set_option maxRecDepth 100000 in
set_option maxHeartbeats 400000 in
theorem leafStands_any (w : World) (k : List Int) (hk : k.length = 32) (sp : Option Addr) (n cap : Nat) (hn : n ≤ 9223372036854775807) :
    Calls Try.prog 87 #[.agg (leafC k (.slice sp n cap)).toArray] w fun e w' => e = .returned (.bool (decide (n ≤ 128))) ∧ Below w.heap.size w w' := by
  have c0 := cell_new w (leafC k (.slice sp n cap)) 96 32 _ (leafC_v k _ hk)
  have hB := (Below.refl w.heap.size w).alloc (Nat.le_refl _) (.cells (leafC k (.slice sp n cap)).toArray 96)
  have i0 : (n : Int) ≤ 9223372036854775807 := by omega
  have HD := hid (show decide (n ≤ 128) = decide ((n : Int) ≤ 128) by rw [decide_eq_decide]; omega)
  go_enter Try.func87, Try.ntmps87
  go_wp2
  go_ret
  refine ⟨?_, hB⟩
  rw [HD.out]
  rfl
set_option maxRecDepth 100000 in
set_option maxHeartbeats 1000000 in
theorem childStands_any (w : World) (p c : Int) (s : List Int) (hs : s.length = 32) :
    Calls Try.prog 85 #[.agg (chC p c s).toArray] w fun e w' => e = .returned (.bool (decide (SideP p c s))) ∧ Below w.heap.size w w' := by
  have c0 := cell_new w (chC p c s) 94 0 (.int .i64 p) rfl
  have c1 := cell_new w (chC p c s) 94 1 (.int .i64 c) rfl
  have r0 := hnew w (.cells (chC p c s).toArray 94)
  have hB := (Below.refl w.heap.size w).alloc (Nat.le_refl _) (.cells (chC p c s).toArray 94)
  have HS := hid (show (Try.prog.info? 94).map (·.size) = some (chC p c s).toArray.size by rw [Try.sizeCh, List.size_toArray, chC_len p c s hs])
  by_cases h0 : p = 0
  · have HD := hid (show decide (SideP p c s) = decide (p = 0 ∧ c = 0 ∧ s = zD) by
      rw [decide_eq_decide]; unfold SideP; constructor
      · rintro (h | h)
        · exact h
        · omega
      · exact Or.inl)
    have qC := eqC p c 0 0 s zD hs rfl
    have gC := Try.guardC
    subst h0
    generalize decide (SideP 0 c s) = D at *
    generalize decide ((0 : Int) = 0 ∧ c = 0 ∧ s = zD) = E at *
    have bz := built_ch0
    generalize chC 0 c s = C at *
    generalize chC 0 0 zD = Z at *
    go_enter Try.func85, Try.ntmps85
    go_wp2_with (first
      | refine wpList_load_row rfl 94 _ rfl _ rfl 94 _ _ _ r0 Try.underlying94 rfl HS.out ?_
      | refine wpList_built (by rfl) 94 _ rfl [] rfl _ bz ?_)
    go_ret
    exact ⟨by rw [HD.out]; rfl, hB⟩
  · have HD := hid (show decide (SideP p c s) = decide (2 ≤ p ∧ p < 4096 ∧ 1 ≤ c ∧ c ≤ 4096) by
      rw [decide_eq_decide]; unfold SideP; constructor
      · rintro (h | h)
        · omega
        · exact h
      · exact Or.inr)
    generalize decide (SideP p c s) = D at *
    generalize chC p c s = C at *
    by_cases h1 : 2 ≤ p
    · by_cases h2 : p < 4096
      · by_cases h3 : 1 ≤ c
        · by_cases h4 : c ≤ 4096
          · rw [decide_eq_true (show 2 ≤ p ∧ p < 4096 ∧ 1 ≤ c ∧ c ≤ 4096 from ⟨h1, h2, h3, h4⟩)] at HD
            go_enter Try.func85, Try.ntmps85
            go_wp2
            go_ret
            exact ⟨by rw [HD.out]; rfl, hB⟩
          · rw [decide_eq_false (show ¬ (2 ≤ p ∧ p < 4096 ∧ 1 ≤ c ∧ c ≤ 4096) by omega)] at HD
            go_enter Try.func85, Try.ntmps85
            go_wp2
            go_ret
            exact ⟨by rw [HD.out]; rfl, hB⟩
        · rw [decide_eq_false (show ¬ (2 ≤ p ∧ p < 4096 ∧ 1 ≤ c ∧ c ≤ 4096) by omega)] at HD
          go_enter Try.func85, Try.ntmps85
          go_wp2
          go_ret
          exact ⟨by rw [HD.out]; rfl, hB⟩
      · rw [decide_eq_false (show ¬ (2 ≤ p ∧ p < 4096 ∧ 1 ≤ c ∧ c ≤ 4096) by omega)] at HD
        go_enter Try.func85, Try.ntmps85
        go_wp2
        go_ret
        exact ⟨by rw [HD.out]; rfl, hB⟩
    · rw [decide_eq_false (show ¬ (2 ≤ p ∧ p < 4096 ∧ 1 ≤ c ∧ c ≤ 4096) by omega)] at HD
      go_enter Try.func85, Try.ntmps85
      go_wp2
      go_ret
      exact ⟨by rw [HD.out]; rfl, hB⟩
end Go.Proofs.Ytbcadiecpcngdaa
