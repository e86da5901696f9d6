import Derived.Test.YtblcpcfonnaiiaaDoorXa9
import Derived.Test.YtblcpcfonnaiiaaDoorD1y
import Derived.Test.YtblcpcfonnaiiaaDoorD2b
namespace Go.Proofs.YtblcpcfonnaiiaaDoor
set_option linter.unusedVariables false
set_option linter.unusedSimpArgs false
open Go.RowKit
attribute [local go_sem ↓] Go.wp_at_zero Go.wp_at_succ

/-- The tables of both sides. -/
def Gb (w : World) : Prop := Glob w ∧ GlobR w
theorem Gb.below {w w1 : World} {B : Nat} (h : Gb w) (hb : Below B w w1) (hB : 4 ≤ B) : Gb w1 := ⟨h.1.below hb hB, h.2.below hb (by omega)⟩
theorem Gb.keep {w w1 : World} (h : Gb w) (hb : Below w.heap.size w w1) : Gb w1 := h.below hb h.1.1
theorem rcutD_any (zs : List Int) (hl : zs.length = 32) (k : Int) (w : World) :
    Calls Tryd.prog 29 #[.agg (ints .u8 zs).toArray, .int .i64 k] w fun e w' => e = .returned (.agg (ints .u8 (cutZ zs (kept k))).toArray) ∧ Below w.heap.size w w' := by
  have := ref_any (ints .u8 zs) (by rw [ints_len, hl]) (ints_one _ _) k w
  rwa [cutV_ints] at this
set_option maxRecDepth 100000 in
set_option maxHeartbeats 400000 in
theorem xcut_any (w : World) (hG : Gb w) (k : Int) (zs D : List Int) (sp : Option Addr) (cap : Nat) (hS : Src w sp cap zs) (hnil : sp = none → cap = 0) (hlen : zs.length ≤ 140737488354000) (hD : cutZ (sha zs) (kept k) = D) :
    Calls Tryd.prog 14 #[.slice sp zs.length cap, .int .i64 k] w fun e w' => e = .returned (.agg (ints .u8 D).toArray) ∧ Below w.heap.size w w' := by
  have hDl : D.length = 32 := by rw [← hD]; exact cutZ_len _ _ (sha_len _)
  have HD := hid hD
  clear hD
  have hz32 : z32.length = 32 := rfl
  have hB1 := ((Below.refl w.heap.size w).alloc (Nat.le_refl _) (.cells (ints .u8 z32).toArray 29))
  have g0 : (w.alloc (.cells (ints .u8 z32).toArray 29)).heap[w.heap.size]? = some (.cells (ints .u8 z32).toArray 29) := by
    have h := hnew w (.cells (ints .u8 z32).toArray 29)
    exact h
  have hs1 : (w.alloc (.cells (ints .u8 z32).toArray 29)).heap.size = w.heap.size + 1 := by simp
  go_enter Tryd.func14, Tryd.ntmps14
  go_wp2_with fail
  show Calls Tryd.prog 28 _ (w.alloc (.cells (ints .u8 z32).toArray 29)) _
  generalize (w.alloc (.cells (ints .u8 z32).toArray 29)) = w1 at *
  have hG1 := hG.keep hB1
  refine (rsum_any w1 zs sp cap (hS.below hB1 (Nat.le_refl _)) hnil hlen hG1.1.1 hG1.2).mono ?_
  rintro e w2 ⟨rfl, hB2⟩
  have hsl := sha_len zs
  have KC := hid (fun w3 => rcutD_any (sha zs) hsl k w3)
  rw [HD.out] at KC
  generalize sha zs = S at *
  have q2 := hold (o := .cells (ints .u8 S).toArray 29) (hbel hB2 g0 (hlt g0))
  have s2 := hnew w2 (.cells (ints .u8 S).toArray 29)
  have hB2' := (hB1.trans (hB2.mono hB1.size)).alloc (by have := hB2.size; omega) (.cells (ints .u8 S).toArray 29)
  clear hB2 g0 hB1 hG1
  go_wp2_with (first | (refine wpList_store_row rfl 29 _ _ rfl _ _ rfl rfl 29 _ (by exact hnew _ (.cells (ints .u8 z32).toArray 29)) (by rw [Tryd.size29, ints_size, hsl]) (by rw [ints_size, ints_size, hsl]; rfl) (all_oneCell_toArray (ints_one .u8 _)) ?_; rw [setRow_alloc]) | refine wpList_load_row rfl 29 _ rfl _ rfl 29 _ _ _ s2 Tryd.underlying29 rfl (by rw [ints_size, hsl]; rfl) ?_)
  generalize w2.alloc (.cells (ints .u8 S).toArray 29) = w3 at *
  refine (KC.out w3).mono ?_
  rintro e w4 ⟨rfl, hB4⟩
  have q4 := hbel hB4 q2 (hlt q2)
  have hB4' := hB2'.trans (hB4.mono hB2'.size)
  clear hB4 hB2' q2 s2
  go_wp2_with (first | refine wpList_store_row rfl 29 _ _ rfl _ _ rfl rfl 29 _ q4 (by rw [Tryd.size29, ints_size, hDl]) (by rw [ints_size, ints_size, hDl, hz32]) (all_oneCell_toArray (ints_one .u8 _)) ?_)
  exact bodyPost_ret (v := .agg (ints .u8 D).toArray) (results_cell_row Tryd.results14 _ _ (w.heap.size) 29 _ _ _ rfl (setRow_heap _ _ _ _ _ _ q4) Tryd.underlying29 rfl (by rw [Tryd.size29, ints_size, hDl])) rfl ⟨rfl, below_setRow hB4' (by omega) _⟩
set_option maxRecDepth 100000 in
set_option maxHeartbeats 400000 in
theorem xbranch_any (w : World) (hG : Gb w) (k : Int) (ls rs : List Int) (hl : ls.length = 32) (hr : rs.length = 32) :
    Calls Tryd.prog 15 #[.int .i64 k, .agg (ints .u8 ls).toArray, .agg (ints .u8 rs).toArray] w fun e w' => e = .returned (.agg (ints .u8 (branchD k ls rs)).toArray) ∧ Below w.heap.size w w' := by
  obtain ⟨D, hD⟩ : ∃ D, branchD k ls rs = D := ⟨_, rfl⟩
  have hDl : D.length = 32 := by rw [← hD]; exact branchD_len _ _ _
  rw [hD]
  have HD := hid hD
  clear hD
  have hz32 : z32.length = 32 := rfl
  have hB1 := ((((Below.refl w.heap.size w).alloc (Nat.le_refl _) (.cells (ints .u8 ls).toArray 29)).alloc (by simp) (.cells (ints .u8 rs).toArray 29)).alloc (by simp; omega) (.cells (ints .u8 z32).toArray 29))
  have g0 : (((w.alloc (.cells (ints .u8 ls).toArray 29)).alloc (.cells (ints .u8 rs).toArray 29)).alloc (.cells (ints .u8 z32).toArray 29)).heap[w.heap.size]? = some (.cells (ints .u8 ls).toArray 29) := by
    have h := hnew w (.cells (ints .u8 ls).toArray 29)
    exact hold (hold (h))
  have g1 : (((w.alloc (.cells (ints .u8 ls).toArray 29)).alloc (.cells (ints .u8 rs).toArray 29)).alloc (.cells (ints .u8 z32).toArray 29)).heap[w.heap.size + 1]? = some (.cells (ints .u8 rs).toArray 29) := by
    have h := hnew (w.alloc (.cells (ints .u8 ls).toArray 29)) (.cells (ints .u8 rs).toArray 29)
    rw [show (w.alloc (.cells (ints .u8 ls).toArray 29)).heap.size = w.heap.size + 1 by simp] at h
    exact hold (h)
  have g2 : (((w.alloc (.cells (ints .u8 ls).toArray 29)).alloc (.cells (ints .u8 rs).toArray 29)).alloc (.cells (ints .u8 z32).toArray 29)).heap[w.heap.size + 1 + 1]? = some (.cells (ints .u8 z32).toArray 29) := by
    have h := hnew ((w.alloc (.cells (ints .u8 ls).toArray 29)).alloc (.cells (ints .u8 rs).toArray 29)) (.cells (ints .u8 z32).toArray 29)
    rw [show ((w.alloc (.cells (ints .u8 ls).toArray 29)).alloc (.cells (ints .u8 rs).toArray 29)).heap.size = w.heap.size + 1 + 1 by simp] at h
    exact h
  have hs1 : (((w.alloc (.cells (ints .u8 ls).toArray 29)).alloc (.cells (ints .u8 rs).toArray 29)).alloc (.cells (ints .u8 z32).toArray 29)).heap.size = w.heap.size + 1 + 1 + 1 := by simp
  go_enter Tryd.func15, Tryd.ntmps15
  go_wp2_with (first | refine wpList_load_row rfl 29 _ rfl _ rfl 29 _ _ _ g0 Tryd.underlying29 rfl (by rw [ints_size, hl]; rfl) ?_ | refine wpList_load_row rfl 29 _ rfl _ rfl 29 _ _ _ g1 Tryd.underlying29 rfl (by rw [ints_size, hr]; rfl) ?_)
  show Calls Tryd.prog 30 _ (((w.alloc (.cells (ints .u8 ls).toArray 29)).alloc (.cells (ints .u8 rs).toArray 29)).alloc (.cells (ints .u8 z32).toArray 29)) _
  generalize (((w.alloc (.cells (ints .u8 ls).toArray 29)).alloc (.cells (ints .u8 rs).toArray 29)).alloc (.cells (ints .u8 z32).toArray 29)) = w1 at *
  refine (xbranchText_any w1 k ls rs hl hr).mono ?_
  rintro e w2 ⟨v, rfl, hO, hB2⟩
  obtain ⟨spv, capv, rfl, hSv, hnv⟩ := hO.form
  have hB2' : Below w.heap.size w w2 := hB1.trans (hB2.mono (by omega))
  have KD := hid (xcut_any w2 (hG.keep hB2') k _ D spv capv hSv hnv (by have := kept_le k; simp only [branchT, List.length_cons, List.length_append, List.length_take]; omega) HD.out)
  have q2 := hbel hB2 g2 (hlt g2)
  have hs2 := hB2.size
  clear hO hSv hB2 hB1 g0 g1 g2
  generalize hX : branchT (kept k) ls rs = X at *
  clear hX HD
  go_wp2_with fail
  refine KD.out.mono ?_
  rintro e w3 ⟨rfl, hB3⟩
  have q3 := hbel hB3 q2 (hlt q2)
  have hB3' := hB2'.trans (hB3.mono (by omega))
  clear KD hB3 hB2' q2
  go_wp2_with (first | refine wpList_store_row rfl 29 _ _ rfl _ _ rfl rfl 29 _ q3 (by rw [Tryd.size29, ints_size, hDl]) (by rw [ints_size, ints_size, hDl, hz32]) (all_oneCell_toArray (ints_one .u8 _)) ?_)
  exact bodyPost_ret (v := .agg (ints .u8 D).toArray) (results_cell_row Tryd.results15 _ _ (w.heap.size + 1 + 1) 29 _ _ _ rfl (setRow_heap _ _ _ _ _ _ q3) Tryd.underlying29 rfl (by rw [Tryd.size29, ints_size, hDl])) rfl ⟨rfl, below_setRow hB3' (by omega) _⟩
theorem xbranch_to (w : World) (hG : Gb w) (k : Int) (ls rs D : List Int) (hl : ls.length = 32) (hr : rs.length = 32) (hD : branchD k ls rs = D) :
    Calls Tryd.prog 15 #[.int .i64 k, .agg (ints .u8 ls).toArray, .agg (ints .u8 rs).toArray] w fun e w' => e = .returned (.agg (ints .u8 D).toArray) ∧ Below w.heap.size w w' := by
  rw [← hD]; exact xbranch_any w hG k ls rs hl hr
set_option maxRecDepth 100000 in
set_option maxHeartbeats 1000000 in
theorem xempty_any (w : World) (hG : Gb w) (k h : Int) :
    Calls Tryd.prog 6 #[.int .i64 k, .int .i64 h] w fun e w' => e = .returned (.agg (ints .u8 (emptyD k (hgt h))).toArray) ∧ Below w.heap.size w w' := by
  have hz32 : z32.length = 32 := rfl
  have KW := hid (fun w1 => xwithin_any h 0 256 (by decide) w1)
  rw [show min (max h 0) 256 = ((hgt h : Nat) : Int) by unfold hgt; omega] at KW
  have hn := hgt_le h
  generalize hgt h = n at *
  have hB1 := ((Below.refl w.heap.size w).alloc (Nat.le_refl _) (.cells (ints .u8 z32).toArray 29)).alloc (by simp) (.cells #[.int .u8 2] 5)
  have g0 : ((w.alloc (.cells (ints .u8 z32).toArray 29)).alloc (.cells #[.int .u8 2] 5)).heap[w.heap.size]? = some (.cells (ints .u8 z32).toArray 29) := hold (hnew w _)
  have g1 : ((w.alloc (.cells (ints .u8 z32).toArray 29)).alloc (.cells #[.int .u8 2] 5)).heap[w.heap.size + 1]? = some (.cells (ints .u8 ([2] ++ [])).toArray 5) := by
    have h := hnew (w.alloc (.cells (ints .u8 z32).toArray 29)) (.cells #[.int .u8 2] 5)
    rw [show (w.alloc (.cells (ints .u8 z32).toArray 29)).heap.size = w.heap.size + 1 by simp] at h
    exact h
  go_enter Tryd.func6, Tryd.ntmps6
  go_wp2_with (first | (go_at_call 13; refine (KW.out _).mono ?_; rintro e w5 ⟨rfl, hw5⟩; obtain rfl := hw5.symm; clear KW))
  show Calls Tryd.prog 14 _ ((w.alloc (.cells (ints .u8 z32).toArray 29)).alloc (.cells #[.int .u8 2] 5)) _
  generalize ((w.alloc (.cells (ints .u8 z32).toArray 29)).alloc (.cells #[.int .u8 2] 5)) = w1 at *
  have hS1 : Src w1 (some ⟨w.heap.size + 1, 0, none⟩) 1 [2] := src_row g1 1 (by simp) (by simp [maxLen])
  refine (xcut_any w1 (hG.keep hB1) k [2] (emptyD k 0) _ 1 hS1 (fun h => by cases h) (by simp) rfl).mono ?_
  rintro e w3 ⟨rfl, hB3⟩
  have q3 := hold (o := (.cells (ints .u8 z32).toArray 29)) (hbel hB3 g0 (hlt g0))
  have r3 := hnew w3 (.cells (ints .u8 z32).toArray 29)
  have hE3 : w.heap.size < w3.heap.size := Nat.lt_of_lt_of_le (hlt g0) hB3.size
  have hB4' := (hB1.trans (hB3.mono hB1.size)).alloc (by omega) (.cells (ints .u8 z32).toArray 29)
  clear hS1 g0 g1 hB3 hB1
  have hcl := emptyD_len k 0
  have ho := all_oneCell_toArray (ints_one .u8 (emptyD k 0))
  go_wp2_with (first | refine wpList_store_row rfl 29 _ _ rfl _ _ rfl rfl 29 _ r3 (by rw [Tryd.size29, ints_size, hcl]) (by rw [ints_size, ints_size, hcl, hz32]) (all_oneCell_toArray (ints_one .u8 _)) ?_)
  have hbs := below_setRow hB4' (Nat.le_of_lt hE3) (ints .u8 (emptyD k 0)).toArray
  have q5 := (setRow_other (w3.alloc (.cells (ints .u8 z32).toArray 29)) w3.heap.size w.heap.size (ints .u8 (emptyD k 0)).toArray (by omega)).trans q3
  have r5 := dig_set (E := emptyD k 0) r3
  generalize w3.heap.size = E at *
  clear q3 r3 hB4' ho hcl
  go_loopw [7] (fun i wr => ∃ j : Nat, j ≤ n ∧ i = .int .i64 j ∧ wr.heap[w.heap.size]? = some (.cells (ints .u8 z32).toArray 29) ∧ wr.heap[E]? = some (.cells (ints .u8 (emptyD k j)).toArray 29) ∧ Below w.heap.size w wr) (fun i _ => n - (intOf i).toNat)
  case atStart => exact ⟨0, by omega, rfl, q5, r5, hbs⟩
  case round =>
    clear q5 r5 hbs
    obtain ⟨j, hj, rfl, q, r, hB⟩ := hrel
    have hcl := emptyD_len k j
    by_cases hlt' : j < n
    · have i1 : (j : Int) < (n : Int) := by omega
      have i2 : (n : Int) ≤ 256 := by omega
      have hGr := hG.keep hB
      have hcl2 := emptyD_len k (j + 1)
      have KB := hid (xbranch_to wr hGr k (emptyD k j) (emptyD k j) (emptyD k (j + 1)) hcl hcl rfl)
      generalize hD2 : emptyD k (j + 1) = D2 at *
      have HD2 := hid hD2
      clear hD2
      generalize emptyD k j = D1 at *
      go_wp2_with (first | refine wpList_load_row rfl 29 _ rfl _ rfl 29 _ _ _ r Tryd.underlying29 rfl (by rw [ints_size, hcl]; rfl) ?_)
      refine KB.out.mono ?_
      rintro e w7 ⟨rfl, hB7⟩
      have q7 := hbel hB7 q (hlt q)
      have r7 := hbel hB7 r (hlt r)
      have hB7' := hB.trans (hB7.mono hB.size)
      have ho := all_oneCell_toArray (ints_one .u8 D2)
      clear KB hB7 q r
      go_wp2_with (first | refine wpList_store_row rfl 29 _ _ rfl _ _ rfl rfl 29 _ r7 (by rw [Tryd.size29, ints_size, hcl2]) (by rw [ints_size, ints_size, hcl2, hcl]) ho ?_)
      go_roundw
      case rel => exact ⟨j + 1, by omega, by go_num, (setRow_other _ _ _ _ (by omega)).trans q7, (by rw [HD2.out]; exact dig_set r7), below_setRow hB7' (by omega) _⟩
      case measure => simp [intOf]; omega
    · obtain rfl : j = n := by omega
      clear hlt'
      generalize hD1 : emptyD k j = D1 at *
      have HD1 := hid hD1
      clear hD1
      have ho := all_oneCell_toArray (ints_one .u8 D1)
      go_wp2_with (first | refine wpList_load_row rfl 29 _ rfl _ rfl 29 _ _ _ r Tryd.underlying29 rfl (by rw [ints_size, hcl]; rfl) ?_ | refine wpList_store_row rfl 29 _ _ rfl _ _ rfl rfl 29 _ q (by rw [Tryd.size29, ints_size, hcl]) (by rw [ints_size, ints_size, hcl, hz32]) ho ?_)
      exact bodyPost_ret (v := .agg (ints .u8 D1).toArray) (results_cell_row Tryd.results6 _ _ w.heap.size 29 _ _ _ rfl (setRow_heap _ _ _ _ _ _ q) Tryd.underlying29 rfl (by rw [Tryd.size29, ints_size, hcl])) rfl ⟨by rw [HD1.out], below_setRow hB (by omega) _⟩
end Go.Proofs.YtblcpcfonnaiiaaDoor
