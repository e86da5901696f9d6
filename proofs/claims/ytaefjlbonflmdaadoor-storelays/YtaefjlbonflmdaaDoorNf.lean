import Derived.Test.YtaefjlbonflmdaaDoorMa6
namespace Go.Proofs.YtaefjlbonflmdaaDoor
set_option linter.unusedVariables false
set_option linter.unusedSimpArgs false
open Go.RowKit
attribute [local go_sem ↓] Go.wp_at_zero Go.wp_at_succ

def zz (n : Nat) : List Int := List.replicate n 0
theorem zz_len (n : Nat) : (zz n).length = n := by simp [zz]
theorem zeroAt252 : (Tryd.prog.info? 131).map (·.zero) = some (some (.agg (ints .u8 (zz 252)).toArray)) := by kernel_rfl
theorem run_alloc252 (a : Act) (o : Oper) (ho : o.op = .alloc 131) (w : World) : (execOp a.eval o).run Tryd.prog w = .ok (.value (.pointer (some ⟨w.heap.size, 0, none⟩))) (w.alloc (.cells (ints .u8 (zz 252)).toArray 131)) := by
  unfold execOp
  rw [ho]
  kernel_rfl
theorem wpList_alloc252 {w : World} {ops : Array Oper} {rest : List Oper} {o : Oper} {a : Act} {Q : Exit → Act → World → Prop} (hg : o.guard = none) (ho : o.op = .alloc 131)
    (h : wpList Tryd.prog ops Q rest (a.put o.dst (.pointer (some ⟨w.heap.size, 0, none⟩))) (w.alloc (.cells (ints .u8 (zz 252)).toArray 131))) : wpList Tryd.prog ops Q (o :: rest) a w := by
  refine wpList_plain hg fun K hK => ?_
  unfold Oper.wp
  rw [run_alloc252 a o ho w]
  exact hK _ _ h
/-- What Pack answers, where it lies. -/
def New (w w' : World) (v : Value) (zs : List Int) : Prop := (v = .slice none 0 0 ∧ zs = []) ∨ zs ≠ [] ∧ ∃ g, v = .slice (some ⟨g, 0, none⟩) zs.length zs.length ∧ w.heap.size ≤ g ∧ w'.heap[g]? = some (.cells (ints .u8 zs).toArray 5 (0, 0))
theorem lay_head (k n : Int) : ((zz 252).set 0 k).set 1 n = [k, n] ++ zz 250 := by
  rw [show zz 252 = 0 :: 0 :: zz 250 from rfl]; rfl
theorem lay_num (k n : Int) (ys : List Int) (hy : ys.length = 4) : laidAt ([k, n] ++ zz 250) 2 ys = [k, n] ++ ys ++ zz 246 := by
  unfold laidAt
  rw [hy, show List.take 2 ([k, n] ++ zz 250) = [k, n] from rfl, show [k, n] ++ zz 250 = ([k, n] ++ zz 4) ++ zz 246 from rfl, List.drop_left' (show ([k, n] ++ zz 4).length = 2 + 4 from rfl)]
set_option maxRecDepth 10000 in
theorem lay_load (k n : Int) (ys l : List Int) (hy : ys.length = 4) (hl : l.length ≤ 246) : splice (ints .u8 ([k, n] ++ ys ++ zz 246)) 6 (ints .u8 l) = ints .u8 ([k, n] ++ ys ++ l ++ List.replicate (246 - l.length) 0) := by
  have e : ints .u8 ([k, n] ++ ys ++ zz 246) = ints .u8 ([k, n] ++ ys) ++ ints .u8 (zz 246) := by simp [ints]
  unfold splice
  rw [e, List.take_left' (by rw [ints_len]; simp [hy]), ints_len, ← List.drop_drop, List.drop_left' (by rw [ints_len]; simp [hy])]
  have e2 : (ints .u8 (zz 246)).drop l.length = ints .u8 (List.replicate (246 - l.length) 0) := by
    unfold ints zz
    rw [← List.map_drop, List.drop_replicate]
  rw [e2]
  simp only [ints, List.map_append, List.append_assoc]
set_option maxRecDepth 100000 in
set_option maxHeartbeats 400000 in
theorem pack_ok (w : World) (k p : Int) (l : List Int) (h8 : Byts l) (hk : kindOk k = true) (hp : placeOk p = true) (hl : l.length ≤ 246) (sp : Option Addr) (cap : Nat) (hS : Src w sp cap l) :
    Calls Tryd.prog 70 #[.int .i64 k, .int .i64 p, .slice sp l.length cap] w fun e w' => ∃ g, e = .returned (.tuple #[.slice (some ⟨g, 0, none⟩) 256 256, .int .i64 0]) ∧ w.heap.size ≤ g ∧ w'.heap[g]? = some (.cells (ints .u8 (pageP k p l)).toArray 5 (0, 0)) ∧ Below w.heap.size w w' := by
  have hk' := (kindOk_iff k).1 hk
  have hp' := (placeOk_iff p).1 hp
  have j1 : 1 ≤ k := hk'.1
  have j2 : k ≤ 3 := hk'.2
  have j3 : (l.length : Int) ≤ 246 := by omega
  clear hk'
  go_enter Tryd.func70, Tryd.ntmps70
  go_wp2_with fail
  refine (isKind_any w k).mono ?_
  rintro e w1 ⟨rfl, rfl⟩
  rw [hk]
  go_wp2_with fail
  refine (isPlace_any w1 p).mono ?_
  rintro e w2 ⟨rfl, rfl⟩
  rw [hp]
  replace hk := hid hk
  replace hp := hid hp
  have hr1 := hnew w2 (.cells (ints .u8 (zz 252)).toArray 131)
  have hB1 : Below w2.heap.size w2 (w2.alloc (.cells (ints .u8 (zz 252)).toArray 131)) := below_new w2 _
  go_wp2_with (first
    | (refine wpList_alloc252 rfl rfl ?_; generalize w2.alloc (.cells (ints .u8 (zz 252)).toArray 131) = w3 at *; have c0 := cell_ints hr1 0 (by decide); have c1 := cell_ints hr1 1 (by decide); have f0 : w3.frozen? ⟨w2.heap.size, 0, none⟩ = false := frozen_of_row _ _ _ _ _ hr1; have f1 : w3.frozen? ⟨w2.heap.size, 1, none⟩ = false := frozen_of_row _ _ _ _ _ hr1))
  have hr4 : ((w3.setCell ⟨w2.heap.size, 0, none⟩ (Value.int .u8 k)).setCell ⟨w2.heap.size, 1, none⟩ (Value.int .u8 (l.length : Int))).heap[w2.heap.size]? = some (.cells (ints .u8 ([k, (l.length : Int)] ++ zz 250)).toArray 131 (0, 0)) := by
    rw [← lay_head]; exact heap_set_ints (heap_set_ints hr1 0 k) 1 _
  have hB4 : Below w2.heap.size w2 ((w3.setCell ⟨w2.heap.size, 0, none⟩ (Value.int .u8 k)).setCell ⟨w2.heap.size, 1, none⟩ (Value.int .u8 (l.length : Int))) := (hB1.setCell (Nat.le_refl _) _).setCell (Nat.le_refl _) _
  generalize (w3.setCell ⟨w2.heap.size, 0, none⟩ (Value.int .u8 k)).setCell ⟨w2.heap.size, 1, none⟩ (Value.int .u8 (l.length : Int)) = w4 at *
  clear hr1 hB1 c0 c1 f0 f1
  refine (lay_any w4 w2.heap.size 2 4 250 131 _ p (by omega) (by omega) (by omega) hr4 (by simp [zz_len])).mono ?_
  rintro e w5 ⟨rfl, hr5, hK5⟩
  rw [lay_num _ _ _ (num_len p 4)] at hr5
  have hB5 : Below w2.heap.size w2 w5 := hB4.trans (hK5.below_g (Nat.le_refl _) hB4.size)
  clear hK5 hr4 hB4
  obtain ⟨hc, hm, b, o, hb, hsp, hsrc⟩ := hS
  have KC := hid (show (ints .u8 l).length = Nat.min l.length 246 by rw [ints_len]; exact (Nat.min_eq_left hl).symm)
  have KF := hid (show 6 + (ints .u8 l).length ≤ (ints .u8 ([k, (l.length : Int)] ++ num p 4 ++ zz 246)).length by rw [ints_len, ints_len]; simp [num_len, zz_len]; omega)
  have KO := hid (ints_one .u8 l)
  have KP := hid (show 0 < (ints .u8 l).length → ∃ ad, sp = some ad ∧ ∀ j v, (ints .u8 l)[j]? = some v → w5.cell? (ad.add j) = some v by
    intro hpos
    rw [ints_len] at hpos
    refine ⟨_, hsp hpos, fun j v hv => ?_⟩
    have hj : j < l.length := by have := (List.getElem?_eq_some_iff.1 hv).1; rwa [ints_len] at this
    rw [ints_get .u8 l j hj] at hv
    cases hv
    rw [show (⟨b, o, none⟩ : Addr).add j = ⟨b, o + j, none⟩ by simp [Addr.add]]
    exact (hB5.cell (p := ⟨b, o + j, none⟩) (hb hpos)).trans (hsrc j hj))
  have KS := hid (lay_load k l.length (num p 4) l (num_len p 4) hl)
  have KE := hid (show [k, (l.length : Int)] ++ num p 4 ++ l ++ List.replicate (246 - l.length) 0 = bodyP k p l from rfl)
  go_wp2_with (first
    | (refine wpList_copy_splice rfl (.tmp 28) (.tmp 29) 29 29 rfl 5 Tryd.underlying29 Tryd.size5 (some ⟨w2.heap.size, 6, none⟩) sp 246 246 l.length cap rfl rfl w2.heap.size 6 _ 131 hr5 (ints .u8 l) KC.out (fun h => ⟨rfl, KP.out h⟩) KF.out KO.out w2.heap.size w2 hB5 (Nat.le_refl _) ?_; intro w6 hr6 hB6))
  have hr7 := hr6.out
  rw [KS.out, KE.out] at hr7
  clear hr6 KS KE KP KO KF KC hsrc hsp hb hr5 hB5
  have hbl := bodyP_len k p l hl
  have hb8 := bodyP_byts k p l (by omega) hl h8
  have hs := seal_any w6 (bodyP k p l) hb8 (some ⟨w2.heap.size, 0, none⟩) 252 (src_rowf hr7 252 (by omega) (by decide)) (by omega)
  rw [hbl] at hs
  refine hs.mono ?_
  rintro e w8 ⟨rfl, hr8, hB8⟩
  have hB := hB6.trans (hB8.mono hB6.size)
  have hG := hB6.size
  clear hs hr7 hB6 hB8 hbl hb8
  go_wp2
  go_ret2
  exact ⟨_, rfl, hG, hr8, hB⟩
set_option maxRecDepth 100000 in
theorem pack_bad (w : World) (k p : Int) (l : List Int) (h : ¬ (kindOk k = true ∧ placeOk p = true ∧ l.length ≤ 246)) (hlm : l.length ≤ maxLen) (sp : Option Addr) (cap : Nat) :
    Calls Tryd.prog 70 #[.int .i64 k, .int .i64 p, .slice sp l.length cap] w fun e w' => e = .returned (.tuple #[.slice none 0 0, .int .i64 (packF k p l).2]) ∧ (packF k p l).1 = [] ∧ (packF k p l).2 ≠ 0 ∧ w' = w := by
  unfold maxLen at hlm
  cases hk : kindOk k
  · have HF := hid (show packF k p l = ([], 50) by rw [packF, if_pos hk])
    go_enter Tryd.func70, Tryd.ntmps70
    go_wp2_with fail
    refine (isKind_any w k).mono ?_
    rintro e w1 ⟨rfl, rfl⟩
    rw [hk]
    go_wp2
    go_ret2
    exact ⟨by rw [HF.out]; rfl, by rw [HF.out], by rw [HF.out]; simp, rfl⟩
  cases hp : placeOk p
  · have HF := hid (show packF k p l = ([], 54) by rw [packF, if_neg (by simp [hk]), if_pos hp])
    go_enter Tryd.func70, Tryd.ntmps70
    go_wp2_with fail
    refine (isKind_any w k).mono ?_
    rintro e w1 ⟨rfl, rfl⟩
    rw [hk]
    go_wp2_with fail
    refine (isPlace_any w1 p).mono ?_
    rintro e w2 ⟨rfl, rfl⟩
    rw [hp]
    go_wp2
    go_ret2
    exact ⟨by rw [HF.out]; rfl, by rw [HF.out], by rw [HF.out]; simp, rfl⟩
  have hl : 246 < l.length := Classical.byContradiction fun hn => h ⟨hk, hp, by omega⟩
  have HF := hid (show packF k p l = ([], 51) by rw [packF, if_neg (by simp [hk]), if_neg (by simp [hp]), if_pos hl])
  have i1 : (246 : Int) < (l.length : Int) := by omega
  clear h
  go_enter Tryd.func70, Tryd.ntmps70
  go_wp2_with fail
  refine (isKind_any w k).mono ?_
  rintro e w1 ⟨rfl, rfl⟩
  rw [hk]
  go_wp2_with fail
  refine (isPlace_any w1 p).mono ?_
  rintro e w2 ⟨rfl, rfl⟩
  rw [hp]
  go_wp2
  go_ret2
  exact ⟨by rw [HF.out]; rfl, by rw [HF.out], by rw [HF.out]; simp, rfl⟩
/-- Pack, at every input. -/
theorem pack_any (w : World) (k p : Int) (l : List Int) (h8 : Byts l) (sp : Option Addr) (cap : Nat) (hS : Src w sp cap l) :
    Calls Tryd.prog 70 #[.int .i64 k, .int .i64 p, .slice sp l.length cap] w fun e w' => ∃ v, e = .returned (.tuple #[v, .int .i64 (packF k p l).2]) ∧ New w w' v (packF k p l).1 ∧ Below w.heap.size w w' := by
  by_cases h : kindOk k = true ∧ placeOk p = true ∧ l.length ≤ 246
  · have HF : packF k p l = (pageP k p l, 0) := by rw [packF, if_neg (by simp [h.1]), if_neg (by simp [h.2.1]), if_neg (by omega)]
    refine (pack_ok w k p l h8 h.1 h.2.1 h.2.2 sp cap hS).mono ?_
    rintro e w' ⟨g, rfl, hg, hr, hB⟩
    refine ⟨_, by rw [HF], Or.inr ⟨by rw [HF]; intro h0; have := pageP_len k p l h.2.2; simp only at h0; rw [h0] at this; simp at this, g, by rw [HF, pageP_len k p l h.2.2], hg, by rw [HF]; exact hr⟩, hB⟩
  · refine (pack_bad w k p l h (Nat.le_trans hS.1 hS.2.1) sp cap).mono ?_
    rintro e w' ⟨rfl, h1, h2, rfl⟩
    exact ⟨_, rfl, Or.inl ⟨rfl, h1⟩, Below.refl _ _⟩
theorem New.src {w w' : World} {v : Value} {zs : List Int} (h : New w w' v zs) (hm : zs.length ≤ maxLen) : ∃ sp cap, v = .slice sp zs.length cap ∧ Src w' sp cap zs := by
  rcases h with ⟨rfl, rfl⟩ | ⟨_, g, rfl, hg, hr⟩
  · exact ⟨none, 0, rfl, Src.nil _⟩
  · exact ⟨_, _, rfl, src_rowf hr _ (Nat.le_refl _) hm⟩
end Go.Proofs.YtaefjlbonflmdaaDoor
