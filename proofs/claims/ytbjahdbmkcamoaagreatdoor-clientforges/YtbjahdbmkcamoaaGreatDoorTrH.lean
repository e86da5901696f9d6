import Derived.Test.YtbjahdbmkcamoaaGreatDoorTrG
namespace Go.Proofs.YtbjahdbmkcamoaaGreatDoor
set_option linter.unusedVariables false
set_option linter.unusedSimpArgs false
open Go.RowKit
attribute [local go_sem ↓] Go.wp_at_zero Go.wp_at_succ

/-! Entries in rising order. -/
def LtB (a b : List Int) : Prop := ∃ p, p < 256 ∧ agr a b p = true ∧ bitK a p = 0 ∧ bitK b p = 1
def SrtM (m : List EnM) : Prop := m.Pairwise fun a b => LtB a.k b.k
theorem ltB_bit {a b : List Int} (h : LtB a b) {n : Nat} (hg : agr a b n = true) (h1 : bitK a n = 1) : bitK b n = 1 := by
  obtain ⟨p, hp, h2, h3, h4⟩ := h
  by_cases e : n < p
  · rw [← agr_at h2 e]; exact h1
  · by_cases q : p < n
    · have := agr_at hg q; omega
    · obtain rfl : p = n := by omega
      omega
def splN (m : List EnM) (n : Nat) : Nat := (m.takeWhile fun e => decide (bitK e.k n = 0)).length
theorem splN_le (m : List EnM) (n : Nat) : splN m n ≤ m.length := (List.takeWhile_sublist _).length_le
theorem splN_filt : ∀ {m : List EnM} {n : Nat}, SrtM m → (∀ a ∈ m, ∀ b ∈ m, agr a.k b.k n = true) → (m.filter fun e => decide (bitK e.k n = 0)) = m.take (splN m n) ∧ (m.filter fun e => decide (bitK e.k n = 1)) = m.drop (splN m n)
  | [], _, _, _ => ⟨rfl, rfl⟩
  | e :: m, n, hs, hg => by
    have hs' := List.pairwise_cons.1 hs
    have ih := splN_filt (m := m) (n := n) hs'.2 (fun a ha b hb => hg a (.tail _ ha) b (.tail _ hb))
    rcases bitK_01 e.k n with c | c
    · have e1 : splN (e :: m) n = splN m n + 1 := by unfold splN; rw [List.takeWhile_cons_of_pos (by simpa using c)]; rfl
      rw [e1, List.take_succ_cons, List.drop_succ_cons, List.filter_cons_of_pos (by simpa using c), List.filter_cons_of_neg (by simp [c]), ih.1, ih.2]
      exact ⟨rfl, rfl⟩
    · have e1 : splN (e :: m) n = 0 := by unfold splN; rw [List.takeWhile_cons_of_neg (by simp [c])]; rfl
      have all1 : ∀ x ∈ m, bitK x.k n = 1 := fun x hx => ltB_bit (hs'.1 x hx) (hg e (.head _) x (.tail _ hx)) c
      rw [e1, List.take_zero, List.drop_zero]
      refine ⟨List.filter_eq_nil_iff.2 fun x hx => ?_, List.filter_eq_self.2 fun x hx => ?_⟩
      · rcases List.mem_cons.1 hx with rfl | hx
        · simp [c]
        · simp [all1 x hx]
      · rcases List.mem_cons.1 hx with rfl | hx
        · simpa using c
        · simpa using all1 x hx
theorem splN_at {m : List EnM} {n : Nat} : (∀ i, i < splN m n → bitK (m.getD i dE).k n = 0) ∧ (splN m n < m.length → bitK (m.getD (splN m n) dE).k n = 1) := by
  induction m with
  | nil => exact ⟨fun i hi => by simp [splN] at hi, fun h => by simp at h⟩
  | cons e m ih =>
    rcases bitK_01 e.k n with c | c
    · have e1 : splN (e :: m) n = splN m n + 1 := by unfold splN; rw [List.takeWhile_cons_of_pos (by simpa using c)]; rfl
      rw [e1]
      refine ⟨fun i hi => ?_, fun h => ?_⟩
      · cases i with
        | zero => exact c
        | succ i => exact ih.1 i (by omega)
      · exact ih.2 (by simpa using h)
    · have e1 : splN (e :: m) n = 0 := by unfold splN; rw [List.takeWhile_cons_of_neg (by simp [c])]; rfl
      rw [e1]
      exact ⟨fun i hi => by omega, fun _ => c⟩
theorem SrcE.part {w : World} {b o cap : Nat} {es : List EnM} (h : SrcE w (some ⟨b, o, none⟩) cap es) (hp : 0 < es.length) (n : Nat) (hn : n ≤ es.length) :
    SrcE w (some ⟨b, o, none⟩) cap (es.take n) ∧ SrcE w (if cap = n then some ⟨b, o, none⟩ else some ⟨b, o + n * 33, none⟩) (cap - n) (es.drop n) := by
  obtain ⟨h1, h2, b', o', h3, h4⟩ := h
  have e := (h3 hp).2
  simp only [Option.some.injEq, Addr.mk.injEq] at e
  obtain ⟨rfl, rfl, -⟩ := e
  have hb := (h3 hp).1
  refine ⟨⟨by rw [List.length_take]; omega, h2, b, o, fun _ => ⟨hb, rfl⟩, fun j hj => ?_⟩, ⟨by rw [List.length_drop]; omega, by omega, b, o + n * 33, fun hl => ?_, fun j hj => ?_⟩⟩
  · rw [List.length_take] at hj
    obtain ⟨M, a, c⟩ := h4 j (by omega)
    refine ⟨M, a, ?_⟩
    rwa [List.getD_eq_getElem?_getD, List.getElem?_take, if_pos (by omega), ← List.getD_eq_getElem?_getD]
  · rw [List.length_drop] at hl
    exact ⟨hb, if_neg (by omega)⟩
  · rw [List.length_drop] at hj
    obtain ⟨M, a, c⟩ := h4 (n + j) (by omega)
    refine ⟨M, ?_, ?_⟩
    · rwa [show o + (n + j) * 33 = o + n * 33 + j * 33 by omega] at a
    · rwa [List.getD_eq_getElem?_getD, List.getElem?_drop, ← List.getD_eq_getElem?_getD]
theorem slE_h (w : World) (b o n cap l : Nat) (hl : l ≤ cap) : (Instr.slice 26 (.slice (some ⟨b, o, none⟩) n cap) none (some (.int .i64 (l : Nat))) none).run Tryz.prog w = .ok (.slice (some ⟨b, o, none⟩) l cap) w := by
  have hz : (sizeOf (Tryz.prog.elem 26)).run Tryz.prog w = .ok 33 w := by kernel_rfl
  rw [run_slice_h w 26 _ _ _ (by kernel_rfl) .i64 l (by omega) (by omega), hz]
  simp only [Result.andThen_ok, sliced, Int.toNat_natCast, Nat.zero_mul, Option.map_some, Addr.add_mid, Nat.add_zero, Nat.sub_zero, ite_self]
theorem slE_l (w : World) (b o n cap l : Nat) (hl : l ≤ n) : (Instr.slice 26 (.slice (some ⟨b, o, none⟩) n cap) (some (.int .i64 (l : Nat))) none none).run Tryz.prog w = .ok (.slice (if cap = l then some ⟨b, o, none⟩ else some ⟨b, o + l * 33, none⟩) (n - l) (cap - l)) w := by
  have hz : (sizeOf (Tryz.prog.elem 26)).run Tryz.prog w = .ok 33 w := by kernel_rfl
  rw [run_slice_l w 26 _ _ _ (by kernel_rfl) .i64 l (by omega) (by omega), hz]
  simp only [Result.andThen_ok, sliced, Int.toNat_natCast, Option.map_some, Addr.add_mid]
set_option maxRecDepth 100000 in
set_option maxHeartbeats 4000000 in
theorem split_any (w : World) (m : List EnM) (hm : MapVs m) (hN : m.length ≤ 1000000) (sp : Option Addr) (cap : Nat) (hS : SrcE w sp cap m) (n : Nat) (hn : n < 256) :
    Calls Tryz.prog 35 #[.slice sp m.length cap, .int .i64 n] w fun e w' => e = .returned (.int .i64 (splN m n)) ∧ Below w.heap.size w w' := by
  have i0 : (m.length : Int) ≤ 1000000 := by omega
  obtain ⟨sa, sb⟩ := splN_at (m := m) (n := n)
  have hle := splN_le m n
  generalize splN m n = K at *
  go_enter Tryz.func35, Tryz.ntmps35
  go_wp2_with fail
  go_loopw [5] (fun iv wr => ∃ i : Nat, i ≤ K ∧ iv = .int .i64 i ∧ Below w.heap.size w wr) (fun iv _ => K - (intOf iv).toNat)
  case atStart => exact ⟨0, by omega, rfl, Below.refl _ _⟩
  case round =>
    obtain ⟨i, hi, rfl, hB⟩ := hrel
    by_cases hlt' : i < m.length
    · have i1 : (i : Int) < (m.length : Int) := by omega
      obtain ⟨b, o, M, rfl, hbl0, hr0, hsM⟩ := hS.at i hlt'
      have hr := rng_below hr0 hB hbl0
      obtain ⟨⟨hl, hyb⟩, _⟩ := hm.ok _ (gD_mem m dE i hlt')
      have KBit := hid (fun w1 => r3Bit_in w1 (m.getD i dE).k hl hyb n hn)
      have hrk := rng_key hr hsM
      have LE := hid (show (Tryz.prog.info? 24).map (·.size) = some (ints .u8 (m.getD i dE).k).length by rw [Tryz.sizeKy, ints_len, hl])
      have hcase : (bitK (m.getD i dE).k n = 0 ∧ i < K) ∨ (bitK (m.getD i dE).k n = 1 ∧ i = K) := by
        by_cases q : i < K
        · exact Or.inl ⟨sa i q, q⟩
        · obtain rfl : i = K := by omega
          exact Or.inr ⟨sb hlt', rfl⟩
      generalize hEe : m.getD i dE = E at *
      clear hEe sa sb
      have ARM := hid hcase
      rcases hcase with ⟨hb, hq⟩ | ⟨hb, hq⟩
      · rw [hb] at KBit
        clear ARM
        go_wp2_with (first
          | refine wpList_load_mid_w (by rfl) 24 _ rfl b (o + i * 33) rfl (ints .u8 E.k) _ hrk Tryz.underlying24 rfl LE.out ?_
          | (refine (KBit.out _).mono ?_; rintro e w5 ⟨rfl, hB5⟩; refine Hid.out ?_))
        refine hid ?_
        go_wp2_with fail
        go_roundw
        case rel => exact ⟨i + 1, by omega, by go_num, hB.trans (hB5.mono hB.size)⟩
        case measure => simp [intOf]; omega
      · rw [hb] at KBit
        clear ARM
        have HQ := hid hq
        clear hq hi
        go_wp2_with (first
          | refine wpList_load_mid_w (by rfl) 24 _ rfl b (o + i * 33) rfl (ints .u8 E.k) _ hrk Tryz.underlying24 rfl LE.out ?_
          | (refine (KBit.out _).mono ?_; rintro e w5 ⟨rfl, hB5⟩; refine Hid.out ?_))
        refine hid ?_
        go_wp2_with fail
        go_ret
        exact ⟨by rw [← HQ.out]; rfl, hB.trans (hB5.mono hB.size)⟩
    · have hK : K = i := by omega
      have i1 : ¬ ((i : Int) < (m.length : Int)) := by omega
      have HK := hid hK
      clear hK
      go_wp2_with fail
      go_ret
      exact ⟨by rw [HK.out]; rfl, hB⟩
end Go.Proofs.YtbjahdbmkcamoaaGreatDoor
