import Derived.Test.YtbjahdbmkcamoaaGreatDoorTrZm
import Derived.Test.YtbjahdbmkcamoaaGreatDoorNs
namespace Go.Proofs.YtbjahdbmkcamoaaGreatDoor
set_option linter.unusedVariables false
set_option linter.unusedSimpArgs false
open Go.RowKit
attribute [local go_sem ↓] Go.wp_at_zero Go.wp_at_succ

/-- What a map holds under a key. -/
def mF (m : List EnM) (ks : List Int) : Bool := (lookM m ks).isSome
def mV (m : List EnM) (ks : List Int) : List Int := (lookM m ks).getD []
theorem ver_truth {n : Nat} (h1 : 1 ≤ n) (h2 : n ≤ 32) {m : List EnM} (hm : MapVs m) {ks : List Int} (hk : ks.length = 32) (yk : Bys ks) :
    verE n (tD n 256 m) ks (encP (proofM n m ks)) = 0 ∧ verF n (tD n 256 m) ks (encP (proofM n m ks)) = mF m ks ∧ verV n (tD n 256 m) ks (encP (proofM n m ks)) = mV m ks := by
  obtain ⟨h, hd⟩ := proofM_held (w := n) hm hk yk
  have e : verE n (tD n 256 m) ks (encP (proofM n m ks)) = 0 := by unfold verE; rw [if_neg (by omega), h]
  refine ⟨e, ?_, ?_⟩
  · unfold verF; rw [e, if_pos rfl, hd]; rfl
  · unfold verV; rw [e, if_pos rfl, hd]; rfl
theorem proofM_bys {k : Int} {m : List EnM} (hm : MapVs m) (hv : ∀ e ∈ m, Bys e.v) (ks : List Int) : Bys (encP (proofM k m ks)) := encP_bys (proofM_well hm ks).2 (proofM_y k hv ks)
theorem verify_truth (w : World) (hG : Glob w) {n : Nat} (h1 : 1 ≤ n) (h2 : n ≤ 32) {m : List EnM} (hm : MapVs m) (hv : ∀ e ∈ m, Bys e.v) {ks : List Int} (hk : ks.length = 32) (yk : Bys ks) (sp : Option Addr) (cap : Nat) (hS : Src w sp cap (encP (proofM n m ks))) :
    Calls Tryz.prog 8 #[.int .i64 (n : Nat), .agg (ints .u8 (tD n 256 m)).toArray, .agg (ints .u8 ks).toArray, .slice sp (encP (proofM n m ks)).length cap] w fun e w' => ∃ s c, e = .returned (.tuple #[.agg (ansC (mF m ks) (.slice s (mV m ks).length c)).toArray, .int .i64 0]) ∧ Own w' w.heap.size (.slice s (mV m ks).length c) (mV m ks) ∧ Below w.heap.size w w' := by
  obtain ⟨e1, e2, e3⟩ := ver_truth h1 h2 hm hk yk
  refine (verify_any w hG n (tD n 256 m) ks (encP (proofM n m ks)) (tD_len _ _ _) hk yk sp cap (proofM_bys hm hv ks) hS).mono ?_
  rintro e w' ⟨s, c, rfl, hO, hb⟩
  rw [e2, e3, e1]
  rw [e3] at hO
  exact ⟨s, c, rfl, hO, hb⟩
theorem look_truth (w : World) (m : List EnM) (hm : MapVs m) (hs : SrtC m) (hN : m.length ≤ 1000000) (sp : Option Addr) (cap : Nat) (hS : SrcE w sp cap m) (ks : List Int) (hk : ks.length = 32) (hy : Bys ks) :
    Calls Tryz.prog 9 #[.slice sp m.length cap, .agg (ints .u8 ks).toArray] w fun e w' => ∃ s c, e = .returned (.tuple #[.slice s (mV m ks).length c, .bool (mF m ks)]) ∧ Src w' s c (mV m ks) ∧ Below w.heap.size w w' := by
  refine (r3Look_any w m hm hs hN sp cap hS ks hk hy).mono ?_
  rintro e w' ⟨⟨hl, rfl⟩ | ⟨v, hl, sv, cv, rfl, hSv⟩, hb⟩
  · have e1 : mF m ks = false := by unfold mF; rw [hl]; rfl
    have e2 : mV m ks = [] := by unfold mV; rw [hl]; rfl
    rw [e1, e2]
    exact ⟨none, 0, rfl, (Own.nil w' 0).srcN, hb⟩
  · have e1 : mF m ks = true := by unfold mF; rw [hl]; rfl
    have e2 : mV m ks = v := by unfold mV; rw [hl]; rfl
    rw [e1, e2]
    exact ⟨sv, cv, rfl, hSv.below hb (Nat.le_refl _), hb⟩
theorem mV_bys {m : List EnM} (hv : ∀ e ∈ m, Bys e.v) (ks : List Int) : Bys (mV m ks) := look_bys hv ks
theorem xor_u8 (a b : Nat) (ha : a < 256) (hb : b < 256) : bits .xor .u8 (a : Int) (b : Int) = ((a ^^^ b : Nat) : Int) := by
  have hx : a ^^^ b < 2 ^ 8 := Nat.xor_lt_two_pow (by omega) (by omega)
  have h1 : (BitVec.ofInt 8 (a : Int)).toNat = a := by
    rw [BitVec.ofInt_natCast, BitVec.toNat_ofNat]; exact Nat.mod_eq_of_lt (by omega)
  have h2 : (BitVec.ofInt 8 (b : Int)).toNat = b := by
    rw [BitVec.ofInt_natCast, BitVec.toNat_ofNat]; exact Nat.mod_eq_of_lt (by omega)
  show IntKind.u8.wrap ((BitVec.ofInt 8 (a : Int) ^^^ BitVec.ofInt 8 (b : Int)).toNat : Int) = _
  rw [BitVec.toNat_xor, h1, h2, IntKind.wrap_u8]
  omega
set_option maxRecDepth 100000 in
set_option maxHeartbeats 4000000 in
theorem lwithin_255 (k : Int) (w : World) : Calls Tryz.prog 4 #[.int .i64 k, .int .i64 1, .int .i64 255] w fun e w' => ∃ r : Nat, 1 ≤ r ∧ r ≤ 255 ∧ e = .returned (.int .i64 r) ∧ w' = w := by
  have h2 : k.tmod 255 < 255 := Int.tmod_lt_of_pos k (by omega)
  have h3 : -255 < k.tmod 255 := by
    have h2 := Int.tmod_lt_of_pos (-k) (b := 255) (by omega)
    rw [Int.neg_tmod] at h2
    omega
  by_cases hn : k.tmod 255 < 0
  · go_enter Tryz.func4, Tryz.ntmps4
    go_wp2_with fail
    go_ret
    exact ⟨(k.tmod 255 + 256).toNat, by omega, by omega, by simp; omega, rfl⟩
  · go_enter Tryz.func4, Tryz.ntmps4
    go_wp2_with fail
    go_ret
    exact ⟨(1 + k.tmod 255).toNat, by omega, by omega, by simp; omega, rfl⟩
set_option maxRecDepth 100000 in
set_option maxHeartbeats 4000000 in
theorem lwithin_len (k : Int) (L : Nat) (h1 : 1 ≤ L) (h2 : L ≤ 1000000) (w : World) : Calls Tryz.prog 4 #[.int .i64 k, .int .i64 0, .int .i64 ((L : Int) - 1)] w fun e w' => ∃ r : Nat, r < L ∧ e = .returned (.int .i64 r) ∧ w' = w := by
  have h3 : k.tmod (L : Int) < L := Int.tmod_lt_of_pos k (by omega)
  have h4 : -(L : Int) < k.tmod L := by
    have h2 := Int.tmod_lt_of_pos (-k) (b := (L : Int)) (by omega)
    rw [Int.neg_tmod] at h2
    omega
  have i1 : (1 : Int) ≤ (L : Int) := by omega
  have i2 : (L : Int) ≤ 1000000 := by omega
  by_cases hn : k.tmod (L : Int) < 0
  · go_enter Tryz.func4, Tryz.ntmps4
    go_wp2_with fail
    go_ret
    exact ⟨(k.tmod L + L).toNat, by omega, by simp; omega, rfl⟩
  · go_enter Tryz.func4, Tryz.ntmps4
    go_wp2_with fail
    go_ret
    exact ⟨(k.tmod L).toNat, by omega, by simp; omega, rfl⟩
theorem own_some {w : World} {base : Nat} {v : Value} {zs : List Int} (h : Own w base v zs) (hp : 0 < zs.length) : ∃ g cap, v = .slice (some ⟨g, 0, none⟩) zs.length cap := by
  obtain ⟨h1, ⟨rfl, hn⟩ | ⟨g, cap, cur, rfl, _⟩⟩ := h
  · omega
  · exact ⟨g, cap, rfl⟩
theorem Own.poke {w : World} {base g n cap : Nat} {zs : List Int} (h : Own w base (.slice (some ⟨g, 0, none⟩) n cap) zs) (i : Nat) (hi : i < zs.length) : ∃ cs : List Value, w.heap[g]? = some (.cells cs.toArray 5 (0, 0)) ∧ i < cs.length ∧ cs[i]? = some (.int .u8 (zs.getD i 0)) ∧ base ≤ g ∧
    ∀ (x : Int) (w1 : World), w1.heap[g]? = some (.cells cs.toArray 5 (0, 0)) → Own (w1.setRow g (cs.set i (.int .u8 x)).toArray) base (.slice (some ⟨g, 0, none⟩) n cap) (zs.set i x) := by
  obtain ⟨h1, ⟨hv, _⟩ | ⟨g', cap', cur, hv, hg, hh, hc, hm, hs, ht⟩⟩ := h
  · cases hv
  · simp only [Value.slice.injEq, Option.some.injEq, Addr.mk.injEq] at hv
    obtain ⟨⟨rfl, -, -⟩, rfl, rfl⟩ := hv
    rw [Nat.mul_one] at hs ht
    have hl : cur.toList.length = cap := by rw [Array.length_toList, hs]
    have hcs : cur.toList[i]? = some (.int .u8 (zs.getD i 0)) := by
      have e := congrArg (fun l => l[i]?) ht
      simp only [List.getElem?_take] at e
      rw [if_pos hi, ints_get .u8 zs i hi] at e
      exact e
    refine ⟨cur.toList, by rw [hh], by omega, hcs, hg, fun x w1 hw1 => ⟨by rw [ints_len, List.length_set]; omega, Or.inr ⟨g, cap, (cur.toList.set i (.int .u8 x)).toArray, by rw [List.length_set], hg, setRow_heap _ _ _ _ _ _ hw1, by rw [List.length_set]; exact hc, hm, by rw [List.size_toArray, List.length_set, hl, Nat.mul_one], ?_⟩⟩⟩
    rw [List.length_set, Nat.mul_one, List.take_set, ht]
    simp [ints, List.map_set]
theorem xor_new {a r : Nat} (ha : a < 256) (h1 : 1 ≤ r) (h2 : r ≤ 255) : (((a ^^^ r : Nat) : Int) ≠ a) ∧ 0 ≤ ((a ^^^ r : Nat) : Int) ∧ ((a ^^^ r : Nat) : Int) < 256 := by
  have h3 : a ^^^ r < 2 ^ 8 := Nat.xor_lt_two_pow (by omega) (by omega)
  refine ⟨fun e => ?_, by omega, by omega⟩
  have e' : a ^^^ r = a := by omega
  have := congrArg (a ^^^ ·) e'
  simp only [← Nat.xor_assoc, Nat.xor_self, Nat.zero_xor] at this
  omega
theorem set_ne {zs : List Int} {i : Nat} (hi : i < zs.length) {x : Int} (h : x ≠ zs.getD i 0) : zs ≠ zs.set i x := fun e => by
  have := congrArg (fun l => l.getD i 0) e
  simp only [List.getD_eq_getElem?_getD, List.getElem?_set_self hi, Option.getD_some] at this
  exact h (by rw [List.getD_eq_getElem?_getD]; exact this.symm)
theorem set_bys {zs : List Int} (hy : Bys zs) {i : Nat} {x : Int} (h : 0 ≤ x ∧ x < 256) : Bys (zs.set i x) := fun y hy' => by
  rcases List.mem_or_eq_of_mem_set hy' with q | rfl
  · exact hy y q
  · exact h
theorem digE_vals (k : Int) (p : Pf) : ∀ n, digE k p n = 0 ∨ digE k p n = 120 ∨ digE k p n = 130
  | 0 => Or.inl rfl
  | n + 1 => by
    have ih := digE_vals k p n
    simp only [digE]
    split
    · split
      · split
        · split <;> simp
        · simp
      · simp
    · exact ih
theorem verE_vals {n : Nat} (h1 : 1 ≤ n) (h2 : n ≤ 32) (root ks t : List Int) : verE n root ks t = 0 ∨ verE n root ks t = 120 ∨ verE n root ks t = 130 ∨ verE n root ks t = 131 := by
  unfold verE
  rw [if_neg (by omega)]
  unfold heldE
  have := digE_vals n (decV t) 256
  split
  · split
    · split <;> simp
    · omega
  · simp
end Go.Proofs.YtbjahdbmkcamoaaGreatDoor
