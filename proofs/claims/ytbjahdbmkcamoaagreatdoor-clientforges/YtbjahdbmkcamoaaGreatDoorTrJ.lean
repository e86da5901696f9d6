import Derived.Test.YtbjahdbmkcamoaaGreatDoorTrI
namespace Go.Proofs.YtbjahdbmkcamoaaGreatDoor
set_option linter.unusedVariables false
set_option linter.unusedSimpArgs false
open Go.RowKit
attribute [local go_sem ↓] Go.wp_at_zero Go.wp_at_succ

theorem row_cap {w : World} {base t sz : Nat} {n g c : Nat} {xs : List Value} (h : w.ownsRow base t sz (.slice (some ⟨g, 0, none⟩) n c) n xs) : (c : Int) ≤ 9223372036854775807 := by
  obtain ⟨h1, ⟨e, hn⟩ | ⟨g, cap, cur, e, hg, hh, hc, hm, hs, ht⟩⟩ := h
  · cases e
  · cases e
    unfold maxLen at hm; omega
set_option maxRecDepth 100000 in
set_option maxHeartbeats 4000000 in
theorem qroot_any (w : World) (hG : Gb w) (k : Int) (m : List EnM) (hm : MapVs m) (hs : Shr m 256) (ho : SrtM m) (hN : m.length ≤ 1000000) (sp : Option Addr) (cap : Nat) (hS : SrcE w sp cap m) :
    Calls Tryz.prog 6 #[.int .i64 k, .slice sp m.length cap] w fun e w' => e = .returned (.agg (ints .u8 (tD k 256 m)).toArray) ∧ Below w.heap.size w w' := by
  have AD := hid allocDg
  have hb1 : Below w.heap.size w (w.alloc (.cells (ints .u8 zB).toArray 28)) := (Below.refl _ _).alloc (Nat.le_refl _) _
  have r1 := hnew w (.cells (ints .u8 zB).toArray 28)
  have i0 : (m.length : Int) ≤ 1000000 := by omega
  have KE := hid (fun w1 (g1 : Gb w1) => xempties_any w1 g1 k)
  have KD := hid (fun w1 (g1 : Gb w1) (b1 : Below w.heap.size w w1) ge ce hgw hR hce => qdigest_any 256 0 rfl w1 g1 k ge ce hgw hR hce m hm hs ho hN sp cap (hS.below b1))
  have hXl := tD_len k 256 m
  generalize tD k 256 m = X at *
  have LZ := hid (show (ints .u8 zB).toArray.size = 32 from rfl)
  have LX := hid (show (ints .u8 X).toArray.size = 32 by rw [ints_size, hXl])
  clear hs ho hm hS
  go_enter Tryz.func6, Tryz.ntmps6
  go_wp2_with (first | refine wpList_allocV AD.out rfl rfl ?_ | (refine (KE.out _ (hG.below hb1 hG.1.1)).mono ?_; rintro e w2 ⟨v, rfl, hO, hb2⟩; refine Hid.out ?_))
  refine hid ?_
  obtain ⟨ge, ce, rfl, hg1, hg2, hR⟩ := row_rng hO (by omega)
  have kr := hbel hb2 r1 (hlt r1)
  have hB := hb1.trans (hb2.mono hb1.size)
  clear KE hb1 hb2 r1
  have K1 := hid (KD.out w2 (hG.below hB hG.1.1) hB ge ce (by omega) hR (row_cap hO))
  clear KD hR hO
  go_wp2_with (first | (refine K1.out.mono ?_; rintro e w5 ⟨rfl, hb5⟩; refine Hid.out ?_))
  refine hid ?_
  have kr9 := hbel hb5 kr (hlt kr)
  have hB9 := hB.trans (hb5.mono hB.size)
  go_wp2_with (first | refine wpList_store_row rfl 28 _ _ rfl w.heap.size (ints .u8 X).toArray rfl rfl 28 _ kr9 (by rw [Tryz.sizeD, LX.out]) (by rw [LX.out, LZ.out]) (all_oneCell_toArray (ints_one _ _)) ?_)
  exact bodyPost_ret (v := .agg (ints .u8 X).toArray) (results_cell_row Tryz.results6 _ _ w.heap.size 28 _ _ _ rfl (setRow_heap _ _ _ _ _ _ kr9) Tryz.underlying28 rfl (by rw [Tryz.sizeD, LX.out])) rfl ⟨rfl, below_setRow hB9 (Nat.le_refl _) _⟩
set_option maxRecDepth 100000 in
set_option maxHeartbeats 400000 in
theorem zbytes_any (w : World) (zs : List Int) (sp : Option Addr) (cap : Nat) (hS : Src w sp cap zs) (hlen : zs.length ≤ 140737488355000) :
    Calls Tryz.prog 63 #[.slice sp zs.length cap] w fun e w' => ∃ v, e = .returned v ∧ Own w' w.heap.size v zs ∧ Below w.heap.size w w' := by
  obtain ⟨hc, hm, b, o, hb, hsp, hsrc⟩ := hS
  have hO := Own.nil w w.heap.size
  have i0 : (zs.length : Int) ≤ 140737488355000 := by omega
  go_enter Tryz.func63, Tryz.ntmps63
  go_wp2
  go_loopw [3, 4] (fun v i wr => ∃ k : Nat, k ≤ zs.length ∧ i = .int .i64 k ∧ Own wr w.heap.size v (zs.take k) ∧ Below w.heap.size w wr) (fun _ i _ => zs.length - (intOf i).toNat)
  case atStart => exact ⟨0, by omega, rfl, hO, Below.refl _ _⟩
  case round =>
    clear hO
    obtain ⟨k, hk, rfl, hO, hB⟩ := hrel
    by_cases hlt : k < zs.length
    · have i1 : (k : Int) < (zs.length : Int) := by omega
      obtain rfl := hsp (by omega)
      have c0 := (hB.cell (p := ⟨b, o + k, none⟩) (hb (by omega))).trans (hsrc k hlt)
      have HT := hid (show zs.take (k + 1) = zs.take k ++ [zs.getD k 0] by
        rw [List.take_succ_eq_append_getElem hlt, List.getD_eq_getElem?_getD, List.getElem?_eq_getElem hlt]; rfl)
      have KL := hid (show (zs.take k).length + 1 ≤ 140737488355328 by rw [List.length_take]; omega)
      generalize zs.getD k 0 = x at *
      generalize zs.take k = zk at *
      go_wp2_with (first | (at_builtin; refine wpList_push_any rfl (.tmp 11) (.tmp 16) rfl w.heap.size _ _ x rfl hO rfl KL.out hB.size _ _ ?_; intro v2 w2 hO2 hB2))
      go_roundw
      case rel => exact ⟨k + 1, by omega, by go_num, (by rw [HT.out]; exact hO2), hB.trans hB2⟩
      case measure => simp [intOf]; omega
    · obtain rfl : k = zs.length := by omega
      rw [List.take_length] at hO
      clear hlt
      go_wp2
      go_ret
      exact ⟨_, rfl, hO, hB⟩
end Go.Proofs.YtbjahdbmkcamoaaGreatDoor
