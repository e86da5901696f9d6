import Derived.Test.YtihkjfbhmlfonaaMa6
import Derived.Lib.LazyBuf
namespace Go.Proofs.Ytihkjfbhmlfonaa
set_option linter.unusedVariables false
set_option linter.unusedSimpArgs false
open Go.RowKit
attribute [local go_sem ↓] Go.wp_at_zero Go.wp_at_succ

def zz (n : Nat) : List Int := List.replicate n 0
theorem zz_len (n : Nat) : (zz n).length = n := by simp [zz]
theorem zeroAt252 : (Try.prog.info? 148).map (·.zero) = some (some (.agg (ints .u8 (zz 252)).toArray)) := by kernel_rfl
theorem run_alloc252 (a : Act) (o : Oper) (ho : o.op = .alloc 148) (w : World) : (execOp a.eval o).run Try.prog w = .ok (.value (.pointer (some ⟨w.heap.size, 0, none⟩))) (w.alloc (.cells (ints .u8 (zz 252)).toArray 148)) := by
  unfold execOp
  rw [ho]
  kernel_rfl
theorem wpList_alloc252 {w : World} {ops : Array Oper} {rest : List Oper} {o : Oper} {a : Act} {Q : Exit → Act → World → Prop} (hg : o.guard = none) (ho : o.op = .alloc 148)
    (h : wpList Try.prog ops Q rest (a.put o.dst (.pointer (some ⟨w.heap.size, 0, none⟩))) (w.alloc (.cells (ints .u8 (zz 252)).toArray 148))) : wpList Try.prog ops Q (o :: rest) a w := by
  refine wpList_plain hg fun K hK => ?_
  unfold Oper.wp
  rw [run_alloc252 a o ho w]
  exact hK _ _ h
/-- What Pack answers, where it lies. -/
def New (w w' : World) (v : Value) (zs : List Int) : Prop := (v = .slice none 0 0 ∧ zs = []) ∨ zs ≠ [] ∧ ∃ g, v = .slice (some ⟨g, 0, none⟩) zs.length zs.length ∧ w.heap.size ≤ g ∧ w'.heap[g]? = some (.cells (ints .u8 zs).toArray 5 (0, 0))
theorem lay_head (k n : Int) : ((zz 252).set 0 k).set 1 n = [k, n] ++ zz 250 := by
  rw [show zz 252 = 0 :: 0 :: zz 250 from rfl]; rfl
theorem lay_num (k n : Int) (ys : List Int) (hy : ys.length = 4) : laidAt ([k, n] ++ zz 250) 2 ys = [k, n] ++ ys ++ zz 246 := by
  unfold laidAt
  rw [hy, show List.take 2 ([k, n] ++ zz 250) = [k, n] from rfl, show [k, n] ++ zz 250 = ([k, n] ++ zz 4) ++ zz 246 from rfl, List.drop_left' (show ([k, n] ++ zz 4).length = 2 + 4 from rfl)]
set_option maxRecDepth 10000 in
theorem lay_load (k n : Int) (ys l : List Int) (hy : ys.length = 4) (hl : l.length ≤ 246) : splice (ints .u8 ([k, n] ++ ys ++ zz 246)) 6 (ints .u8 l) = ints .u8 ([k, n] ++ ys ++ l ++ List.replicate (246 - l.length) 0) := by
  have e : ints .u8 ([k, n] ++ ys ++ zz 246) = ints .u8 ([k, n] ++ ys) ++ ints .u8 (zz 246) := by simp [ints]
  unfold splice
  rw [e, List.take_left' (by rw [ints_len]; simp [hy]), ints_len, ← List.drop_drop, List.drop_left' (by rw [ints_len]; simp [hy])]
  have e2 : (ints .u8 (zz 246)).drop l.length = ints .u8 (List.replicate (246 - l.length) 0) := by
    unfold ints zz
    rw [← List.map_drop, List.drop_replicate]
  rw [e2]
  simp only [ints, List.map_append, List.append_assoc]
set_option maxRecDepth 100000 in
set_option maxHeartbeats 400000 in
theorem pack_ok (w : World) (k p : Int) (l : List Int) (h8 : Byts l) (hk : kindOk k = true) (hp : placeOk p = true) (hl : l.length ≤ 246) (sp : Option Addr) (cap : Nat) (hS : Src w sp cap l) :
    Calls Try.prog 89 #[.int .i64 k, .int .i64 p, .slice sp l.length cap] w fun e w' => ∃ g, e = .returned (.tuple #[.slice (some ⟨g, 0, none⟩) 256 256, .int .i64 0]) ∧ w.heap.size ≤ g ∧ w'.heap[g]? = some (.cells (ints .u8 (pageP k p l)).toArray 5 (0, 0)) ∧ Below w.heap.size w w' := by
  have hk' := (kindOk_iff k).1 hk
  have hp' := (placeOk_iff p).1 hp
  have j1 : 1 ≤ k := hk'.1
  have j2 : k ≤ 3 := hk'.2
  have j3 : (l.length : Int) ≤ 246 := by omega
  clear hk'
  go_enter Try.func89, Try.ntmps89
  go_wp2_with fail
  refine (isKind_any w k).mono ?_
  rintro e w1 ⟨rfl, rfl⟩
  rw [hk]
  go_wp2_with fail
  refine (isPlace_any w1 p).mono ?_
  rintro e w2 ⟨rfl, rfl⟩
  rw [hp]
  replace hk := hid hk
  replace hp := hid hp
  have hr1 := hnew w2 (.cells (ints .u8 (zz 252)).toArray 148)
  have hB1 : Below w2.heap.size w2 (w2.alloc (.cells (ints .u8 (zz 252)).toArray 148)) := below_new w2 _
  go_wp2_with (first
    | (refine wpList_alloc252 rfl rfl ?_; generalize w2.alloc (.cells (ints .u8 (zz 252)).toArray 148) = w3 at *; have c0 := cell_ints hr1 0 (by decide); have c1 := cell_ints hr1 1 (by decide); have f0 : w3.frozen? ⟨w2.heap.size, 0, none⟩ = false := frozen_of_row _ _ _ _ _ hr1; have f1 : w3.frozen? ⟨w2.heap.size, 1, none⟩ = false := frozen_of_row _ _ _ _ _ hr1))
  have hr4 : ((w3.setCell ⟨w2.heap.size, 0, none⟩ (Value.int .u8 k)).setCell ⟨w2.heap.size, 1, none⟩ (Value.int .u8 (l.length : Int))).heap[w2.heap.size]? = some (.cells (ints .u8 ([k, (l.length : Int)] ++ zz 250)).toArray 148 (0, 0)) := by
    rw [← lay_head]; exact heap_set_ints (heap_set_ints hr1 0 k) 1 _
  have hB4 : Below w2.heap.size w2 ((w3.setCell ⟨w2.heap.size, 0, none⟩ (Value.int .u8 k)).setCell ⟨w2.heap.size, 1, none⟩ (Value.int .u8 (l.length : Int))) := (hB1.setCell (Nat.le_refl _) _).setCell (Nat.le_refl _) _
  generalize (w3.setCell ⟨w2.heap.size, 0, none⟩ (Value.int .u8 k)).setCell ⟨w2.heap.size, 1, none⟩ (Value.int .u8 (l.length : Int)) = w4 at *
  clear hr1 hB1 c0 c1 f0 f1
  refine (lay_any w4 w2.heap.size 2 4 250 148 _ p (by omega) (by omega) (by omega) hr4 (by simp [zz_len])).mono ?_
  rintro e w5 ⟨rfl, hr5, hK5⟩
  rw [lay_num _ _ _ (num_len p 4)] at hr5
  have hB5 : Below w2.heap.size w2 w5 := hB4.trans (hK5.below_g (Nat.le_refl _) hB4.size)
  clear hK5 hr4 hB4
  obtain ⟨hc, hm, b, o, hb, hsp, hsrc⟩ := hS
  have KC := hid (show (ints .u8 l).length = Nat.min l.length 246 by rw [ints_len]; exact (Nat.min_eq_left hl).symm)
  have KF := hid (show 6 + (ints .u8 l).length ≤ (ints .u8 ([k, (l.length : Int)] ++ num p 4 ++ zz 246)).length by rw [ints_len, ints_len]; simp [num_len, zz_len]; omega)
  have KO := hid (ints_one .u8 l)
  have KP := hid (show 0 < (ints .u8 l).length → ∃ ad, sp = some ad ∧ ∀ j v, (ints .u8 l)[j]? = some v → w5.cell? (ad.add j) = some v by
    intro hpos
    rw [ints_len] at hpos
    refine ⟨_, hsp hpos, fun j v hv => ?_⟩
    have hj : j < l.length := by have := (List.getElem?_eq_some_iff.1 hv).1; rwa [ints_len] at this
    rw [ints_get .u8 l j hj] at hv
    cases hv
    rw [show (⟨b, o, none⟩ : Addr).add j = ⟨b, o + j, none⟩ by simp [Addr.add]]
    exact (hB5.cell (p := ⟨b, o + j, none⟩) (hb hpos)).trans (hsrc j hj))
  have KS := hid (lay_load k l.length (num p 4) l (num_len p 4) hl)
  have KE := hid (show [k, (l.length : Int)] ++ num p 4 ++ l ++ List.replicate (246 - l.length) 0 = bodyP k p l from rfl)
  go_wp2_with (first
    | (refine wpList_copy_splice rfl (.tmp 28) (.tmp 29) 36 36 rfl 5 Try.underlying36 Try.size5 (some ⟨w2.heap.size, 6, none⟩) sp 246 246 l.length cap rfl rfl w2.heap.size 6 _ 148 hr5 (ints .u8 l) KC.out (fun h => ⟨rfl, KP.out h⟩) KF.out KO.out w2.heap.size w2 hB5 (Nat.le_refl _) ?_; intro w6 hr6 hB6))
  have hr7 := hr6.out
  rw [KS.out, KE.out] at hr7
  clear hr6 KS KE KP KO KF KC hsrc hsp hb hr5 hB5
  have hbl := bodyP_len k p l hl
  have hb8 := bodyP_byts k p l (by omega) hl h8
  have hs := seal_any w6 (bodyP k p l) hb8 (some ⟨w2.heap.size, 0, none⟩) 252 (src_rowf hr7 252 (by omega) (by decide)) (by omega)
  rw [hbl] at hs
  refine hs.mono ?_
  rintro e w8 ⟨rfl, hr8, hB8⟩
  have hB := hB6.trans (hB8.mono hB6.size)
  have hG := hB6.size
  clear hs hr7 hB6 hB8 hbl hb8
  go_wp2
  go_ret2
  exact ⟨_, rfl, hG, hr8, hB⟩
set_option maxRecDepth 100000 in
theorem pack_bad (w : World) (k p : Int) (l : List Int) (h : ¬ (kindOk k = true ∧ placeOk p = true ∧ l.length ≤ 246)) (hlm : l.length ≤ maxLen) (sp : Option Addr) (cap : Nat) :
    Calls Try.prog 89 #[.int .i64 k, .int .i64 p, .slice sp l.length cap] w fun e w' => e = .returned (.tuple #[.slice none 0 0, .int .i64 (packF k p l).2]) ∧ (packF k p l).1 = [] ∧ (packF k p l).2 ≠ 0 ∧ w' = w := by
  unfold maxLen at hlm
  cases hk : kindOk k
  · have HF := hid (show packF k p l = ([], 50) by rw [packF, if_pos hk])
    go_enter Try.func89, Try.ntmps89
    go_wp2_with fail
    refine (isKind_any w k).mono ?_
    rintro e w1 ⟨rfl, rfl⟩
    rw [hk]
    go_wp2
    go_ret2
    exact ⟨by rw [HF.out]; rfl, by rw [HF.out], by rw [HF.out]; simp, rfl⟩
  cases hp : placeOk p
  · have HF := hid (show packF k p l = ([], 54) by rw [packF, if_neg (by simp [hk]), if_pos hp])
    go_enter Try.func89, Try.ntmps89
    go_wp2_with fail
    refine (isKind_any w k).mono ?_
    rintro e w1 ⟨rfl, rfl⟩
    rw [hk]
    go_wp2_with fail
    refine (isPlace_any w1 p).mono ?_
    rintro e w2 ⟨rfl, rfl⟩
    rw [hp]
    go_wp2
    go_ret2
    exact ⟨by rw [HF.out]; rfl, by rw [HF.out], by rw [HF.out]; simp, rfl⟩
  have hl : 246 < l.length := Classical.byContradiction fun hn => h ⟨hk, hp, by omega⟩
  have HF := hid (show packF k p l = ([], 51) by rw [packF, if_neg (by simp [hk]), if_neg (by simp [hp]), if_pos hl])
  have i1 : (246 : Int) < (l.length : Int) := by omega
  clear h
  go_enter Try.func89, Try.ntmps89
  go_wp2_with fail
  refine (isKind_any w k).mono ?_
  rintro e w1 ⟨rfl, rfl⟩
  rw [hk]
  go_wp2_with fail
  refine (isPlace_any w1 p).mono ?_
  rintro e w2 ⟨rfl, rfl⟩
  rw [hp]
  go_wp2
  go_ret2
  exact ⟨by rw [HF.out]; rfl, by rw [HF.out], by rw [HF.out]; simp, rfl⟩
/-- Pack, at every input. -/
theorem pack_any (w : World) (k p : Int) (l : List Int) (h8 : Byts l) (sp : Option Addr) (cap : Nat) (hS : Src w sp cap l) :
    Calls Try.prog 89 #[.int .i64 k, .int .i64 p, .slice sp l.length cap] w fun e w' => ∃ v, e = .returned (.tuple #[v, .int .i64 (packF k p l).2]) ∧ New w w' v (packF k p l).1 ∧ Below w.heap.size w w' := by
  by_cases h : kindOk k = true ∧ placeOk p = true ∧ l.length ≤ 246
  · have HF : packF k p l = (pageP k p l, 0) := by rw [packF, if_neg (by simp [h.1]), if_neg (by simp [h.2.1]), if_neg (by omega)]
    refine (pack_ok w k p l h8 h.1 h.2.1 h.2.2 sp cap hS).mono ?_
    rintro e w' ⟨g, rfl, hg, hr, hB⟩
    refine ⟨_, by rw [HF], Or.inr ⟨by rw [HF]; intro h0; have := pageP_len k p l h.2.2; simp only at h0; rw [h0] at this; simp at this, g, by rw [HF, pageP_len k p l h.2.2], hg, by rw [HF]; exact hr⟩, hB⟩
  · refine (pack_bad w k p l h (Nat.le_trans hS.1 hS.2.1) sp cap).mono ?_
    rintro e w' ⟨rfl, h1, h2, rfl⟩
    exact ⟨_, rfl, Or.inl ⟨rfl, h1⟩, Below.refl _ _⟩
theorem New.src {w w' : World} {v : Value} {zs : List Int} (h : New w w' v zs) (hm : zs.length ≤ maxLen) : ∃ sp cap, v = .slice sp zs.length cap ∧ Src w' sp cap zs := by
  rcases h with ⟨rfl, rfl⟩ | ⟨_, g, rfl, hg, hr⟩
  · exact ⟨none, 0, rfl, Src.nil _⟩
  · exact ⟨_, _, rfl, src_rowf hr _ (Nat.le_refl _) hm⟩
end Go.Proofs.Ytihkjfbhmlfonaa
namespace Go.Proofs.Ytihkjfbhmlfonaa
set_option linter.unusedVariables false
set_option linter.unusedSimpArgs false
open Go.RowKit
attribute [local go_sem ↓] Go.wp_at_zero Go.wp_at_succ

theorem own_emptyN {w : World} {base g : Nat} (h : w.heap[g]? = some (.cells #[] 5 (0, 0))) (hg : base ≤ g) : Own w base (.slice (some ⟨g, 0, none⟩) 0 0) [] :=
  ⟨rfl, Or.inr ⟨g, 0, #[], rfl, hg, h, Nat.le_refl _, by simp [maxLen], rfl, rfl⟩⟩
set_option maxRecDepth 100000 in
set_option maxHeartbeats 400000 in
theorem clone_any (w : World) (l : List Int) (a : Addr) (cap : Nat) (hS : Src w (some a) cap l) (hl : l.length ≤ 1000) :
    Calls Try.prog 86 #[.slice (some a) l.length cap] w fun e w' => ∃ v, e = .returned v ∧ Own w' w.heap.size v l ∧ Below w.heap.size w w' := by
  have hr1 := hnew w (.cells #[] 5)
  have hO1 : Own (w.alloc (.cells #[] 5)) w.heap.size (.slice (some ⟨w.heap.size, 0, none⟩) 0 0) [] := own_emptyN hr1 (Nat.le_refl _)
  have hB1 := below_new w (.cells #[] 5)
  have hS1 := hS.below hB1 (Nat.le_refl _)
  have KL := hid (show ([] : List Int).length + l.length ≤ 140737488351232 by simp; omega)
  have hN : (binOp .eql 36 (.slice (some a) l.length cap) (.slice none 0 0)).run Try.prog w = .ok (.bool false) w := run_eql_slice_nil w 36 5 (some a) l.length cap Try.underlying36
  clear hr1
  go_enter Try.func86, Try.ntmps86
  go_wp2_with (first
    | (refine wpList_append_wide rfl (.tmp 5) (.tmp 6) rfl w.heap.size _ [] l rfl hO1 (some a) cap rfl (fun h => by cases h) hS1 KL.out hB1.size ?_; intro v2 w2 hO2 hg2 hb2))
  have hB2 := grown_keeps hg2 (fun k hk => (hO1.block k hk).1) hB1.size
  rw [List.nil_append] at hO2
  clear hg2 hb2
  go_wp2
  go_ret
  exact ⟨_, rfl, hO2, hB1.trans hB2⟩
theorem Src.mid {w : World} {b o cap : Nat} {r : List Int} (hS : Src w (some ⟨b, o, none⟩) cap r) (k n : Nat) (h : k + n ≤ r.length) (hb : b < w.heap.size) (c : Nat) (hc1 : n ≤ c) (hc2 : c ≤ maxLen) : Src w (some ⟨b, o + k, none⟩) c ((r.drop k).take n) := by
  obtain ⟨h1, h2, b', o', h3, h4, h5⟩ := hS
  have hl : ((r.drop k).take n).length = n := by simp; omega
  refine ⟨by omega, hc2, b, o + k, fun _ => hb, fun _ => rfl, fun j hj => ?_⟩
  have he := h4 (by omega)
  cases he
  have := h5 (k + j) (by omega)
  rw [Nat.add_assoc, this, List.getD_eq_getElem?_getD, List.getD_eq_getElem?_getD, List.getElem?_take, if_pos (by omega), List.getElem?_drop]
theorem Own.base {w : World} {B B' : Nat} {v : Value} {zs : List Int} (h : Own w B v zs) (hB : B' ≤ B) : Own w B' v zs := by
  refine ⟨h.1, ?_⟩
  rcases h.2 with h2 | ⟨g, cap, cur, rfl, hg, r⟩
  · exact Or.inl h2
  · exact Or.inr ⟨g, cap, cur, rfl, by omega, r⟩
set_option maxRecDepth 100000 in
set_option maxHeartbeats 1000000 in
theorem unpack_ok (w : World) (p : Int) (r : List Int) (h8 : Byts r) (hp : placeOk p = true) (hl : r.length = 256) (hC : feed ones r = CR) (sp : Option Addr) (cap : Nat) (hS : Src w sp cap r) :
    Calls Try.prog 64 #[.int .i64 p, .slice sp 256 cap] w fun e w' => ∃ v, e = .returned (.tuple #[.int .i64 (unpackF p r).1, v, .int .i64 (unpackF p r).2.2]) ∧ Own w' w.heap.size v (unpackF p r).2.1 ∧ Below w.heap.size w w' := by
  have hS' := hS
  obtain ⟨hc, hm, b, o, hb, hsp, hsrc⟩ := hS
  obtain rfl := hsp (by omega)
  replace hb := hb (by omega)
  have i1 : 256 ≤ cap := by omega
  have i2 : (256 : Int) ≤ (cap : Int) := by omega
  have hw := whole_L w r h8 (by omega) (some ⟨b, o, none⟩) cap hS'
  rw [hl] at hw
  have HP := hid hp
  have HL := hid hl
  have HC := hid hC
  have g0 := h8 (r.getD 0 0) (by rw [List.getD_eq_getElem?_getD, List.getElem?_eq_getElem (by omega)]; exact List.getElem_mem _)
  have g1 := h8 (r.getD 1 0) (by rw [List.getD_eq_getElem?_getD, List.getElem?_eq_getElem (by omega)]; exact List.getElem_mem _)
  have HU := hid (show unpackF p r = (if kindOk (r.getD 0 0) = false then (0, [], 50) else if 246 < r.getD 1 0 then (0, [], 51)
  else if (le ((r.drop 2).take 4) : Int) ≠ p then (0, [], 54)
  else if (r.drop (6 + (r.getD 1 0).toNat)).take (246 - (r.getD 1 0).toNat) ≠ List.replicate (246 - (r.getD 1 0).toNat) 0 then (0, [], 53)
  else (r.getD 0 0, (r.drop 6).take (r.getD 1 0).toNat, 0)) by
    rw [unpackF, if_neg (by simp [hp]), if_neg (by simp [hl]), if_neg (by simp [hC])])
  have c0' := hsrc 0 (by omega)
  have c1' := hsrc 1 (by omega)
  rw [Nat.add_zero] at c0'
  have h24 : ((r.drop 2).take 4).length = 4 := by simp [hl]
  obtain ⟨k, hk⟩ : ∃ k, k = r.getD 0 0 := ⟨_, rfl⟩
  obtain ⟨n, hn⟩ : ∃ n : Nat, (n : Int) = r.getD 1 0 := ⟨(r.getD 1 0).toNat, by omega⟩
  rw [← hk] at g0 HU c0'
  rw [← hn] at g1 HU c1'
  rw [Int.toNat_natCast] at HU
  clear hk hn hp hC
  go_enter Try.func64, Try.ntmps64
  go_wp2_with fail
  refine (isPlace_any w p).mono ?_
  rintro e w1 ⟨rfl, rfl⟩
  rw [HP.out]
  clear hl
  go_wp2_with fail
  refine hw.mono ?_
  rintro e w2 ⟨rfl, b2⟩
  rw [HC.out, show (decide (CR = CR)) = true from by simp]
  have c0 := (b2.cell (p := ⟨b, o, none⟩) hb).trans c0'
  have c1 := (b2.cell (p := ⟨b, o + 1, none⟩) hb).trans c1'
  have hb2 : b < w2.heap.size := Nat.lt_of_lt_of_le hb b2.size
  have hS2 := hS'.below b2 (Nat.le_refl _)
  clear c0' c1' hw hsrc
  go_wp2_with fail
  go_quiet (fail)
  have b3 : Below w1.heap.size w1 (w2.drewN nq) := below_drewN b2 nq
  have hS3 : Src (w2.drewN nq) (some ⟨b, o, none⟩) cap r := hS2
  have hb3 : b < (w2.drewN nq).heap.size := hb2
  generalize w2.drewN nq = w3 at *
  clear b2 hS2 hb2 c0 c1
  go_wp2_with fail
  refine (isKind_any w3 k).mono ?_
  rintro e w4 ⟨rfl, rfl⟩
  cases hk : kindOk k
  · have HF := hid (show unpackF p r = (0, [], 50) by rw [HU.out, if_pos hk])
    clear HU
    go_wp2
    go_ret3
    exact ⟨_, by rw [HF.out]; rfl, by rw [HF.out]; exact Own.nil _ _, b3⟩
  have HK := hid hk
  clear hk
  by_cases hn : 246 < n
  · have HF := hid (show unpackF p r = (0, [], 51) by rw [HU.out, if_neg (by simp [HK.out]), if_pos (by omega)])
    clear HU
    have i3 : (246 : Int) < (n : Int) := by omega
    go_wp2
    go_ret3
    exact ⟨_, by rw [HF.out]; rfl, by rw [HF.out]; exact Own.nil _ _, b3⟩
  have i3 : (n : Int) ≤ 246 := by omega
  have hrd := read_any w4 ((r.drop 2).take 4) ((h8.drop 2).take 4) (by omega) (some ⟨b, o + 2, none⟩) (cap - 2) (hS3.mid 2 4 (by have := HL.out; omega) hb3 _ (by omega) (by omega))
  have hlt4 := le_lt ((r.drop 2).take 4) ((h8.drop 2).take 4)
  rw [h24] at hrd hlt4
  have hW := wrap_i64_id (le ((r.drop 2).take 4) : Int) (by omega) (by omega)
  rw [hW] at hrd
  clear hW
  go_wp2_with fail
  refine hrd.mono ?_
  rintro e w5 ⟨rfl, b5⟩
  have b5' := b3.trans (b5.mono b3.size)
  have hS5 := hS3.below b5 (Nat.le_refl _)
  have hb5 : b < w5.heap.size := Nat.lt_of_lt_of_le hb3 b5.size
  clear hrd b5 b3 hS3 hb3
  obtain ⟨q, hq⟩ : ∃ q : Int, q = (le ((r.drop 2).take 4) : Int) := ⟨_, rfl⟩
  rw [← hq] at HU ⊢
  clear hq hlt4
  by_cases hqp : q = p
  · subst hqp
    have i4 : (n : Int) + 6 ≤ 252 := by omega
    have hlz : ((r.drop (6 + n)).take (246 - n)).length = 252 - (6 + n) := by have := HL.out; simp; omega
    have hz := allZero_any w5 ((r.drop (6 + n)).take (246 - n)) (some ⟨b, o + (6 + n), none⟩) (cap - (6 + n)) (hS5.mid (6 + n) (246 - n) (by have := HL.out; omega) hb5 _ (by omega) (by omega))
    rw [hlz] at hz
    go_wp2_with fail
    refine hz.mono ?_
    rintro e w6 ⟨rfl, b6⟩
    have b6' := b5'.trans (b6.mono b5'.size)
    have hS6 := hS5.below b6 (Nat.le_refl _)
    have hb6 : b < w6.heap.size := Nat.lt_of_lt_of_le hb5 b6.size
    clear hz b6 b5' hS5 hb5 hlz
    by_cases hzz : (r.drop (6 + n)).take (246 - n) = List.replicate (246 - n) 0
    · have HF := hid (show unpackF q r = (k, (r.drop 6).take n, 0) by rw [HU.out, if_neg (by simp [HK.out]), if_neg (by omega), if_neg (by simp), if_neg (by simp [hzz])])
      rw [show (decide ((r.drop (6 + n)).take (246 - n) = List.replicate (252 - (6 + n)) 0)) = true by rw [hzz]; simp; omega]
      clear HU hzz
      have hl6 : ((r.drop 6).take n).length = n := by have := HL.out; simp; omega
      have hcl := clone_any w6 ((r.drop 6).take n) ⟨b, o + 6, none⟩ (cap - 6) (hS6.mid 6 n (by have := HL.out; omega) hb6 _ (by omega) (by omega)) (by omega)
      rw [hl6] at hcl
      clear hl6
      go_wp2_with fail
      refine hcl.mono ?_
      rintro e w7 ⟨v, rfl, hO, b7⟩
      have b7' := b6'.trans (b7.mono b6'.size)
      have hO' : Own w7 w1.heap.size v ((r.drop 6).take n) := hO.base b6'.size
      clear hcl hO b7 b6' hS6
      go_wp2
      go_ret3
      exact ⟨_, by rw [HF.out]; rfl, by rw [HF.out]; exact hO', b7'⟩
    · have HF := hid (show unpackF q r = (0, [], 53) by rw [HU.out, if_neg (by simp [HK.out]), if_neg (by omega), if_neg (by simp), if_pos hzz])
      rw [show (decide ((r.drop (6 + n)).take (246 - n) = List.replicate (252 - (6 + n)) 0)) = false by rw [show 252 - (6 + n) = 246 - n by omega]; simpa using hzz]
      clear HU hzz
      go_wp2
      go_ret3
      exact ⟨_, by rw [HF.out]; rfl, by rw [HF.out]; exact Own.nil _ _, b6'⟩
  · have HF := hid (show unpackF p r = (0, [], 54) by rw [HU.out, if_neg (by simp [HK.out]), if_neg (by omega), if_pos hqp])
    clear HU
    have hqp2 : (q != p) = true := by simpa using hqp
    clear hqp
    go_wp2
    go_ret3
    exact ⟨_, by rw [HF.out]; rfl, by rw [HF.out]; exact Own.nil _ _, b5'⟩
set_option maxRecDepth 100000 in
set_option maxHeartbeats 400000 in
/-- Unpack, at every input. -/
theorem unpack_any (w : World) (p : Int) (r : List Int) (h8 : Byts r) (sp : Option Addr) (cap : Nat) (hS : Src w sp cap r) :
    Calls Try.prog 64 #[.int .i64 p, .slice sp r.length cap] w fun e w' => ∃ v, e = .returned (.tuple #[.int .i64 (unpackF p r).1, v, .int .i64 (unpackF p r).2.2]) ∧ Own w' w.heap.size v (unpackF p r).2.1 ∧ Below w.heap.size w w' := by
  have hlm : (r.length : Int) ≤ 9223372036854775807 := by have := hS.1; have := hS.2.1; unfold maxLen at this; omega
  cases hp : placeOk p
  · have HF := hid (show unpackF p r = (0, [], 54) by rw [unpackF, if_pos hp])
    clear hS
    go_enter Try.func64, Try.ntmps64
    go_wp2_with fail
    refine (isPlace_any w p).mono ?_
    rintro e w1 ⟨rfl, rfl⟩
    rw [hp]
    go_wp2
    go_ret3
    exact ⟨_, by rw [HF.out]; rfl, by rw [HF.out]; exact Own.nil _ _, Below.refl _ _⟩
  by_cases hl : r.length = 256
  · by_cases hC : feed ones r = CR
    · rw [hl]; exact unpack_ok w p r h8 hp hl hC sp cap hS
    · have HF := hid (unpack_sum p r hp hl hC)
      have hw := whole_L w r h8 (by omega) sp cap hS
      rw [show decide (feed ones r = CR) = false by simpa using hC] at hw
      rw [hl] at hw ⊢
      clear hS hl hlm hC
      go_enter Try.func64, Try.ntmps64
      go_wp2_with fail
      refine (isPlace_any w p).mono ?_
      rintro e w1 ⟨rfl, rfl⟩
      rw [hp]
      go_wp2_with fail
      refine hw.mono ?_
      rintro e w2 ⟨rfl, b2⟩
      go_wp2
      go_ret3
      exact ⟨_, by rw [HF.out]; rfl, by rw [HF.out]; exact Own.nil _ _, b2⟩
  · have HF := hid (show unpackF p r = (0, [], 53) by rw [unpackF, if_neg (by simp [hp]), if_pos hl])
    have hl2 : ((r.length : Int) != 256) = true := by simp; omega
    clear hS hl
    go_enter Try.func64, Try.ntmps64
    go_wp2_with fail
    refine (isPlace_any w p).mono ?_
    rintro e w1 ⟨rfl, rfl⟩
    rw [hp]
    go_wp2
    go_ret3
    exact ⟨_, by rw [HF.out]; rfl, by rw [HF.out]; exact Own.nil _ _, Below.refl _ _⟩
end Go.Proofs.Ytihkjfbhmlfonaa
namespace Go.Proofs.Ytihkjfbhmlfonaa
set_option linter.unusedVariables false
set_option linter.unusedSimpArgs false
open Go.RowKit
attribute [local go_sem ↓] Go.wp_at_zero Go.wp_at_succ

/-- A superblock's cells. -/
def supC (s : Sup) : Array Value := #[.int .i64 s.wd, .int .i64 s.ge, .int .i64 s.ma, .int .i64 s.hd, .int .i64 s.pg]
set_option maxRecDepth 100000 in
set_option maxHeartbeats 1000000 in
theorem valid_at (w : World) (wd ge ma hd pg : Int) :
    Calls Try.prog 79 #[.agg #[.int .i64 wd, .int .i64 ge, .int .i64 ma, .int .i64 hd, .int .i64 pg]] w fun e w' => e = .returned (.bool (validS ⟨wd, ge, ma, hd, pg⟩)) ∧ Below w.heap.size w w' := by
  by_cases n0 : ¬ (1 ≤ wd)
  · skip
    have HV := hid (show validS ⟨wd, ge, ma, hd, pg⟩ = false by simp [validS]; omega)
    go_enter Try.func79, Try.ntmps79
    go_wp2
    go_ret
    exact ⟨by rw [HV.out]; rfl, below_new w _⟩
  have h0 : 1 ≤ wd := Classical.not_not.1 n0
  clear n0
  by_cases n1 : ¬ (wd ≤ 32)
  · skip
    have HV := hid (show validS ⟨wd, ge, ma, hd, pg⟩ = false by simp [validS]; omega)
    go_enter Try.func79, Try.ntmps79
    go_wp2
    go_ret
    exact ⟨by rw [HV.out]; rfl, below_new w _⟩
  have h1 : wd ≤ 32 := Classical.not_not.1 n1
  clear n1
  by_cases n2 : ¬ (0 ≤ ge)
  · skip
    have HV := hid (show validS ⟨wd, ge, ma, hd, pg⟩ = false by simp [validS]; omega)
    go_enter Try.func79, Try.ntmps79
    go_wp2
    go_ret
    exact ⟨by rw [HV.out]; rfl, below_new w _⟩
  have h2 : 0 ≤ ge := Classical.not_not.1 n2
  clear n2
  by_cases n3 : ¬ (ge ≤ 1099511627776)
  · skip
    have HV := hid (show validS ⟨wd, ge, ma, hd, pg⟩ = false by simp [validS]; omega)
    go_enter Try.func79, Try.ntmps79
    go_wp2
    go_ret
    exact ⟨by rw [HV.out]; rfl, below_new w _⟩
  have h3 : ge ≤ 1099511627776 := Classical.not_not.1 n3
  clear n3
  by_cases n4 : ¬ (3 ≤ pg)
  · skip
    have HV := hid (show validS ⟨wd, ge, ma, hd, pg⟩ = false by simp [validS]; omega)
    go_enter Try.func79, Try.ntmps79
    go_wp2
    go_ret
    exact ⟨by rw [HV.out]; rfl, below_new w _⟩
  have h4 : 3 ≤ pg := Classical.not_not.1 n4
  clear n4
  by_cases n5 : ¬ (pg ≤ 4096)
  · skip
    have HV := hid (show validS ⟨wd, ge, ma, hd, pg⟩ = false by simp [validS]; omega)
    go_enter Try.func79, Try.ntmps79
    go_wp2
    go_ret
    exact ⟨by rw [HV.out]; rfl, below_new w _⟩
  have h5 : pg ≤ 4096 := Classical.not_not.1 n5
  clear n5
  by_cases n6 : ¬ (2 ≤ ma)
  · skip
    have HV := hid (show validS ⟨wd, ge, ma, hd, pg⟩ = false by simp [validS]; omega)
    go_enter Try.func79, Try.ntmps79
    go_wp2
    go_ret
    exact ⟨by rw [HV.out]; rfl, below_new w _⟩
  have h6 : 2 ≤ ma := Classical.not_not.1 n6
  clear n6
  by_cases n7 : ¬ (ma ≤ pg)
  · skip
    have HV := hid (show validS ⟨wd, ge, ma, hd, pg⟩ = false by simp [validS]; omega)
    go_enter Try.func79, Try.ntmps79
    go_wp2
    go_ret
    exact ⟨by rw [HV.out]; rfl, below_new w _⟩
  have h7 : ma ≤ pg := Classical.not_not.1 n7
  clear n7
  by_cases h8 : hd = 0
  · have e8 : (hd == 0) = true := by simpa using h8
    have HV := hid (show validS ⟨wd, ge, ma, hd, pg⟩ = true by simp only [validS, decide_eq_true_eq]; omega)
    clear h8
    go_enter Try.func79, Try.ntmps79
    go_wp2
    go_ret
    exact ⟨by rw [HV.out]; rfl, below_new w _⟩
  have e8 : (hd == 0) = false := by simpa using h8
  by_cases n9 : ¬ (2 ≤ hd)
  · skip
    have HV := hid (show validS ⟨wd, ge, ma, hd, pg⟩ = false by simp [validS]; omega)
    clear h8
    go_enter Try.func79, Try.ntmps79
    go_wp2
    go_ret
    exact ⟨by rw [HV.out]; rfl, below_new w _⟩
  have h9 : 2 ≤ hd := Classical.not_not.1 n9
  clear n9
  by_cases n10 : ¬ (hd < ma)
  · skip
    have HV := hid (show validS ⟨wd, ge, ma, hd, pg⟩ = false by simp [validS]; omega)
    clear h8
    go_enter Try.func79, Try.ntmps79
    go_wp2
    go_ret
    exact ⟨by rw [HV.out]; rfl, below_new w _⟩
  have h10 : hd < ma := Classical.not_not.1 n10
  clear n10
  have HV := hid (show validS ⟨wd, ge, ma, hd, pg⟩ = true by simp only [validS, decide_eq_true_eq]; omega)
  clear h8
  go_enter Try.func79, Try.ntmps79
  go_wp2
  go_ret
  exact ⟨by rw [HV.out]; rfl, below_new w _⟩
theorem valid_any (w : World) (s : Sup) : Calls Try.prog 79 #[.agg (supC s)] w fun e w' => e = .returned (.bool (validS s)) ∧ Below w.heap.size w w' := valid_at w s.wd s.ge s.ma s.hd s.pg
end Go.Proofs.Ytihkjfbhmlfonaa
