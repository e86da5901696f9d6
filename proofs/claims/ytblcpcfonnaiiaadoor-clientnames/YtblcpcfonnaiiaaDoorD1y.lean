import Derived.Test.YtblcpcfonnaiiaaDoorD1x
namespace Go.Proofs.YtblcpcfonnaiiaaDoor
set_option linter.unusedVariables false
set_option linter.unusedSimpArgs false
open Go.RowKit
attribute [local go_sem ↓] Go.wp_at_zero Go.wp_at_succ

theorem GlobR.f {w : World} (h : GlobR w) : w.rangeAt 1 0 (ints .u32 fTab) := h.2
theorem stBytes_get : ∀ (st : List Int), (∀ x ∈ st, 0 ≤ x ∧ x ≤ 4294967295) → ∀ i, i < 4 * st.length → (stBytes st)[i]?.getD 0 = (st[i / 4]?.getD 0) / 2 ^ (24 - 8 * (i % 4)) % 256
  | [], _, i, hi => by simp at hi
  | x :: st, hb, i, hi => by
    have hx := hb x (by simp)
    match i with
    | 0 => simp [stBytes, wb]; omega
    | 1 => simp [stBytes, wb]
    | 2 => simp [stBytes, wb]
    | 3 => simp [stBytes, wb]
    | i + 4 =>
      have := stBytes_get st (fun y hy => hb y (by simp [hy])) i (by simp at hi; omega)
      rw [show (i + 4) / 4 = i / 4 + 1 by omega, show (i + 4) % 4 = i % 4 by omega, List.getElem?_cons_succ, ← this]
      simp [stBytes, wb]

set_option maxRecDepth 100000 in
set_option maxHeartbeats 1000000 in
theorem rsum_any (w : World) (zs : List Int) (sp : Option Addr) (cap : Nat) (hS : Src w sp cap zs) (hnil : sp = none → cap = 0) (hlen : zs.length ≤ 140737488354000) (h0 : 4 ≤ w.heap.size) (hG : GlobR w) :
    Calls Tryd.prog 28 #[.slice sp zs.length cap] w fun e w' => e = .returned (.agg (ints .u8 (sha zs)).toArray) ∧ Below w.heap.size w w' := by
  have hB1 : Below w.heap.size w (w.alloc (Obj.cells (ints .u8 z32).toArray 29)) := (Below.refl _ _).alloc (Nat.le_refl _) _
  have d0 := hnew w (Obj.cells (ints .u8 z32).toArray 29)
  have hsz : (w.alloc (Obj.cells (ints .u8 z32).toArray 29)).heap.size = w.heap.size + 1 := by simp
  have hS1 := hS.below hB1 (Nat.le_refl _)
  have HE := hid (show sha zs = stBytes (stOf (filledF zs)) by rw [stOf_filled]; rfl)
  obtain ⟨hf1, hf2, hf3⟩ := filledF_len zs
  have hso : ∀ n, (stN (filledF zs) n).length = 8 ∧ Bd8 (stN (filledF zs) n) := stN_ok _
  have hss : stOf (filledF zs) = stN (filledF zs) ((filledF zs).length / 64) := rfl
  go_enter Tryd.func28, Tryd.ntmps28
  go_wp2_with fail
  show Calls Tryd.prog 47 _ (w.alloc (Obj.cells (ints .u8 z32).toArray 29)) _
  generalize w.alloc (Obj.cells (ints .u8 z32).toArray 29) = w1 at *
  refine (rfilled_any w1 zs sp cap hS1 hnil hlen (by omega)).mono ?_
  rintro e w2 ⟨v, rfl, hO2, hB2⟩
  have hB3 : Below w.heap.size w w2 := hB1.trans (hB2.mono (by omega))
  have d2 : w2.heap[w.heap.size]? = some (Obj.cells (ints .u8 z32).toArray 29) := hbel hB2 d0 (by omega)
  have hg2 := hG.below hB3 h0
  have hs2 := hB2.size
  obtain ⟨sp1, cap1, rfl, hS2, hn1⟩ := hO2.form
  have hz2 : w.heap.size < w2.heap.size := by omega
  clear hO2 hB1 hB2 d0 hS1 hsz
  have hgf := hid hg2.f
  have hof := all_oneCell_toArray (ints_one .u32 fTab)
  have hss2 := hid hss
  have KL1 := hid (show (Tryd.prog.info? 73).map (·.size) = some (ints .u32 fTab).length by rw [Tryd.size73, ints_len]; rfl)
  have KL2 := hid (show (Tryd.prog.info? 73).map (·.size) = some (ints .u32 fTab).toArray.size by rw [Tryd.size73, ints_size]; rfl)
  clear hss
  go_wp2_with (first | refine wpList_load_mid rfl 73 _ rfl 1 0 rfl (ints .u32 fTab) _ hgf.out Tryd.underlying73 rfl KL1.out ?_ | (refine wpList_store_row rfl 73 _ _ rfl _ _ rfl rfl 73 _ (by exact hnew _ _) KL2.out (by rfl) hof ?_; rw [setRow_alloc]))
  have e0 := hold (o := Obj.cells (ints .u32 fTab).toArray 73) d2
  have e1 := hnew w2 (Obj.cells (ints .u32 fTab).toArray 73)
  have hB4 : Below w.heap.size w (w2.alloc (Obj.cells (ints .u32 fTab).toArray 73)) := hB3.alloc (by omega) _
  have hBG := (Below.refl w2.heap.size w2).alloc (Nat.le_refl _) (Obj.cells (ints .u32 fTab).toArray 73)
  generalize w2.alloc (Obj.cells (ints .u32 fTab).toArray 73) = w3 at *
  generalize hGe : w2.heap.size = G at *
  replace hGe := hid hGe
  generalize filledF zs = l at *
  clear d2 hB3 hg2 hgf
  obtain ⟨K, hK⟩ : ∃ K, l.length = 64 * K := ⟨l.length / 64, by omega⟩
  have hKd : l.length / 64 = K := by omega
  rw [hKd] at hss2
  have KB := hid hso
  clear hso hKd KL1 KL2 hof
  go_loopw [5, 6] (fun i _ wr => ∃ n a : Nat, a = 64 * n ∧ n ≤ K ∧ i = .int .i64 a ∧ wr.heap[w.heap.size]? = some (Obj.cells (ints .u8 z32).toArray 29) ∧ wr.heap[G]? = some (Obj.cells (ints .u32 (stN l n)).toArray 73) ∧ Below G w2 wr ∧ Below w.heap.size w wr) (fun i _ _ => 64 * K - (intOf i).toNat)
  case atStart => exact ⟨0, 0, rfl, by omega, rfl, e0, e1, hBG, hB4⟩
  case round =>
    clear e0 e1 hBG hB4
    obtain ⟨n, a, ha, hn, rfl, e0, e1, hBG, hB4⟩ := hrel
    replace ha := hid ha
    have ha' := ha.out
    have hS4 := hS2.below hBG (by rw [hGe.out]; exact Nat.le_refl _)
    have hGr := hG.below hB4 h0
    have hlG := hlt e1
    obtain ⟨hbl, hbb⟩ := KB.out n
    by_cases hnl : n < K
    · have i1 : (a : Int) < (l.length : Int) := by omega
      have i2 : (a : Int) ≤ 140737488354072 := by omega
      have KW := hid (words_any wr l sp1 cap1 hS4 a (by omega))
      have KS := hid (show stN l (n + 1) = mixF (stN l n) (blk l a) by rw [ha.out]; rfl)
      have KM := hid (show mixF (stN l n) (blk l a) = List.zipWith (fun x y => IntKind.u32.wrap (x + y)) (stN l n) (roundsTo (stN l n) (sched (blk l a)) 64) from rfl)
      have hsl := sched_len (blk l a)
      have ho58 := all_oneCell_toArray (ints_one .u32 (sched (blk l a)))
      have hsn := hid (KB.out (n + 1))
      rw [KS.out] at hsn
      have hoS := all_oneCell_toArray (ints_one .u32 (mixF (stN l n) (blk l a)))
      have HB := hid hbb
      clear hbb
      have k1 : (Tryd.prog.info? 85).map (·.size) = some (ints .u32 (sched (blk l a))).toArray.size := by rw [Tryd.size85, ints_size, hsl]
      have k2 : (Tryd.prog.info? 73).map (·.size) = some (ints .u32 (stN l n)).toArray.size := by rw [Tryd.size73, ints_size, hbl]
      have k3 : (Tryd.prog.info? 73).map (·.size) = some (ints .u32 (mixF (stN l n) (blk l a))).toArray.size := by rw [Tryd.size73, ints_size, hsn.out.1]
      have k4 : (ints .u32 (stN l n)).toArray.size = (ints .u32 (mixF (stN l n) (blk l a))).toArray.size := by rw [ints_size, ints_size, hsn.out.1, hbl]
      generalize sched (blk l a) = ws at *
      generalize mixF (stN l n) (blk l a) = S2 at *
      generalize stN l n = S1 at *
      clear ha'
      replace hK := hid hK
      have k5 : ∀ cs : List Int, cs.length = 64 → (ints .u32 cs).toArray.size = (ints .u32 ws).toArray.size := fun cs h => by rw [ints_size, ints_size, hsl, h]
      have K5 := hid k5
      clear k5
      go_wp2_with (first
        | (go_at_call 48; refine KW.out.mono ?_; rintro e w4 ⟨rfl, hB5⟩; have f0 := hbel hB5 e0 (hlt e0); have f1 := hbel hB5 e1 hlG; have hBG5 := hBG.trans (hB5.mono (Nat.le_of_lt hlG)); have hB6 := hB4.trans (hB5.mono hB4.size); have hz4 := hB5.size; clear hB5)
        | (refine wpList_store_row rfl 85 _ _ rfl _ _ rfl rfl 85 _ (by exact hnew _ _) k1 (by exact K5.out (padz [] 64) rfl) ho58 ?_; rw [setRow_alloc]; have g0 := hold (o := Obj.cells (ints .u32 ws).toArray 85) f0; have g1 := hold (o := Obj.cells (ints .u32 ws).toArray 85) f1; have g2 := hnew w4 (Obj.cells (ints .u32 ws).toArray 85); have hB7 : Below w.heap.size w (w4.alloc (Obj.cells (ints .u32 ws).toArray 85)) := hB6.alloc (Nat.le_trans hB4.size hz4) _; have hBG7 : Below G w2 (w4.alloc (Obj.cells (ints .u32 ws).toArray 85)) := hBG5.alloc (Nat.le_of_lt (Nat.lt_of_lt_of_le hlG hz4)) _; generalize w4.alloc (Obj.cells (ints .u32 ws).toArray 85) = w5 at *)
        | refine wpList_load_row rfl 73 _ rfl G rfl 73 _ _ _ g1 Tryd.underlying73 rfl k2 ?_
        | refine wpList_load_row rfl 85 _ rfl w4.heap.size rfl 85 _ _ _ g2 Tryd.underlying85 rfl k1 ?_
        | (go_at_call 49; refine (behind_any S1 ws hbl hsl HB.out w5 (Nat.le_trans h0 hB7.size) (hG.below hB7 h0)).mono ?_; rintro e w6 ⟨rfl, hB8⟩; rw [← KM.out]; have q0 := hbel hB8 g0 (hlt g0); have q1 := hbel hB8 g1 (hlt g1); have hBG8 := hBG7.trans (hB8.mono (Nat.le_of_lt (hlt g1))); have hB9 := hB7.trans (hB8.mono hB7.size))
        | refine wpList_store_row rfl 73 _ _ rfl G _ rfl rfl 73 _ q1 k3 k4 hoS ?_)
      go_roundw
      case rel => exact ⟨n + 1, a + 64, (by have := ha.out; omega), by omega, by go_num, (setRow_other _ _ _ _ (by omega)).trans q0, (by rw [KS.out]; exact setRow_heap _ _ _ _ _ _ q1), below_setRow hBG8 (Nat.le_refl _) _, below_setRow hB9 (by omega) _⟩
      case measure => have := ha.out; have := hK.out; simp [intOf]; omega
    · obtain rfl : n = K := by omega
      have i1 : ¬ ((a : Int) < (l.length : Int)) := by omega
      rw [← hss2.out] at e1 hbl hbb
      have HB := hid hbb
      have hby := stBytes_get _ hbb
      rw [hbl] at hby
      replace hK := hid hK
      have HT := hid (stBytes_len (stOf l))
      rw [hbl] at HT
      clear hbb hnl ha' KB hss2
      generalize stOf l = S1 at *
      go_wp2
      have f0 := hold (o := Obj.cells (ints .u8 z32).toArray 29) e0
      have f1 := hold (o := Obj.cells (ints .u8 z32).toArray 29) e1
      have f2 := hnew wr (Obj.cells (ints .u8 z32).toArray 29)
      have hB5 : Below w.heap.size w (wr.alloc (Obj.cells (ints .u8 z32).toArray 29)) := hB4.alloc hB4.size _
      show Code.wp _ _ _ _ (wr.alloc (Obj.cells (ints .u8 z32).toArray 29))
      generalize wr.alloc (Obj.cells (ints .u8 z32).toArray 29) = w4 at *
      generalize wr.heap.size = D at *
      have hDG : w.heap.size < D := by omega
      clear e0 e1 hBG hB4 hS4 hGr
      generalize stBytes S1 = B at *
      go_loopw [8] (fun i wr => ∃ n : Nat, n ≤ 32 ∧ i = .int .i64 n ∧ wr.heap[w.heap.size]? = some (Obj.cells (ints .u8 z32).toArray 29) ∧ wr.heap[G]? = some (Obj.cells (ints .u32 S1).toArray 73) ∧ wr.heap[D]? = some (Obj.cells (ints .u8 (padz (B.take n) 32)).toArray 29) ∧ Below w.heap.size w wr) (fun i _ => 32 - (intOf i).toNat)
      case atStart => exact ⟨0, by omega, rfl, f0, f1, f2, hB5⟩
      case round =>
        clear f0 f1 f2 hB5
        obtain ⟨n, hn, rfl, f0, f1, f2, hB5⟩ := hrel
        have htl : (B.take n).length = n := by rw [List.length_take, HT.out]; omega
        by_cases hlt : n < 32
        · have i1 : (n : Int) < 32 := by omega
          have i2 : (n : Int) / 4 < 8 := by omega
          have c1 : wr.cell? ⟨G, n / 4, none⟩ = some (.int .u32 (S1[n / 4]?.getD 0)) := by rw [cell_ints f1 (n / 4) (by omega)]; simp
          have c2 := cell_ints f2 n (by rw [padz_len _ _ (by omega)]; omega)
          have fz : wr.frozen? ⟨D, n, none⟩ = false := frozen_of_row _ _ _ _ _ f2
          go_wp2
          have hv : B[n]?.getD 0 = S1[n / 4]?.getD 0 / 2 ^ (24 - 8 * (n % 4)) % 256 := hby n (by omega)
          have ht : (padz (B.take n) 32).set n (S1[n / 4]?.getD 0 / 2 ^ (24 - 8 * (n % 4)) % 256) = padz (B.take (n + 1)) 32 := by
            have := padz_set (B.take n) 32 (B[n]?.getD 0) (by omega)
            rw [htl] at this
            rw [← hv, this, List.take_succ_eq_append_getElem (by rw [HT.out]; omega), List.getElem?_eq_getElem (by rw [HT.out]; omega)]; rfl
          go_roundw
          case rel => exact ⟨n + 1, by omega, by go_num, heap_set_far f0 _ _ (by show w.heap.size ≠ D; omega), heap_set_far f1 _ _ (by show G ≠ D; omega), (by rw [← ht]; exact heap_set_ints f2 n _), hB5.setCell (by show w.heap.size ≤ D; omega) _⟩
          case measure => simp [intOf]; omega
        · obtain rfl : n = 32 := by omega
          rw [List.take_of_length_le (by rw [HT.out]; omega)] at f2 htl
          rw [padz_full _ _ htl] at f2
          have ho := all_oneCell_toArray (ints_one .u8 B)
          have k1 : (Tryd.prog.info? 29).map (·.size) = some (ints .u8 B).toArray.size := by rw [Tryd.size29, ints_size, htl]
          have k2 : (ints .u8 z32).toArray.size = (ints .u8 B).toArray.size := by rw [ints_size, ints_size, htl]; rfl
          clear hby hlt hn
          go_wp2_with (first | refine wpList_load_row rfl 29 _ rfl D rfl 29 _ _ _ f2 Tryd.underlying29 rfl k1 ?_ | refine wpList_store_row rfl 29 _ _ rfl w.heap.size _ rfl rfl 29 _ f0 k1 k2 ho ?_)
          exact bodyPost_ret (v := .agg (ints .u8 B).toArray) (results_cell_row Tryd.results28 _ _ w.heap.size 29 _ _ _ rfl (setRow_heap _ _ _ _ _ _ f0) Tryd.underlying29 rfl k1) rfl ⟨by rw [HE.out], below_setRow hB5 (Nat.le_refl _) _⟩
end Go.Proofs.YtblcpcfonnaiiaaDoor
