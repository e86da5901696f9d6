import Derived.Test.YtbjahdbmkcamoaaDoorTsA
import Derived.Test.YtbjahdbmkcamoaaDoorTrZm
namespace Go.Proofs.YtbjahdbmkcamoaaDoor
set_option linter.unusedVariables false
set_option linter.unusedSimpArgs false
open Go.RowKit
attribute [local go_sem ↓] Go.wp_at_zero Go.wp_at_succ

/-- What a map holds under a key. -/
def mF (m : List EnM) (ks : List Int) : Bool := (lookM m ks).isSome
def mV (m : List EnM) (ks : List Int) : List Int := (lookM m ks).getD []
theorem ver_truth {n : Nat} (h1 : 1 ≤ n) (h2 : n ≤ 32) {m : List EnM} (hm : MapVs m) {ks : List Int} (hk : ks.length = 32) (yk : Bys ks) :
    verE n (tD n 256 m) ks (encP (proofM n m ks)) = 0 ∧ verF n (tD n 256 m) ks (encP (proofM n m ks)) = mF m ks ∧ verV n (tD n 256 m) ks (encP (proofM n m ks)) = mV m ks := by
  obtain ⟨h, hd⟩ := proofM_held (w := n) hm hk yk
  have e : verE n (tD n 256 m) ks (encP (proofM n m ks)) = 0 := by unfold verE; rw [if_neg (by omega), h]
  refine ⟨e, ?_, ?_⟩
  · unfold verF; rw [e, if_pos rfl, hd]; rfl
  · unfold verV; rw [e, if_pos rfl, hd]; rfl
theorem proofM_bys {k : Int} {m : List EnM} (hm : MapVs m) (hv : ∀ e ∈ m, Bys e.v) (ks : List Int) : Bys (encP (proofM k m ks)) := encP_bys (proofM_well hm ks).2 (proofM_y k hv ks)
theorem verify_truth (w : World) (hG : Glob w) {n : Nat} (h1 : 1 ≤ n) (h2 : n ≤ 32) {m : List EnM} (hm : MapVs m) (hv : ∀ e ∈ m, Bys e.v) {ks : List Int} (hk : ks.length = 32) (yk : Bys ks) (sp : Option Addr) (cap : Nat) (hS : Src w sp cap (encP (proofM n m ks))) :
    Calls Tryd.prog 8 #[.int .i64 (n : Nat), .agg (ints .u8 (tD n 256 m)).toArray, .agg (ints .u8 ks).toArray, .slice sp (encP (proofM n m ks)).length cap] w fun e w' => ∃ s c, e = .returned (.tuple #[.agg (ansC (mF m ks) (.slice s (mV m ks).length c)).toArray, .int .i64 0]) ∧ Own w' w.heap.size (.slice s (mV m ks).length c) (mV m ks) ∧ Below w.heap.size w w' := by
  obtain ⟨e1, e2, e3⟩ := ver_truth h1 h2 hm hk yk
  refine (verify_any w hG n (tD n 256 m) ks (encP (proofM n m ks)) (tD_len _ _ _) hk yk sp cap (proofM_bys hm hv ks) hS).mono ?_
  rintro e w' ⟨s, c, rfl, hO, hb⟩
  rw [e2, e3, e1]
  rw [e3] at hO
  exact ⟨s, c, rfl, hO, hb⟩
theorem look_truth (w : World) (m : List EnM) (hm : MapVs m) (hs : SrtC m) (hN : m.length ≤ 1000000) (sp : Option Addr) (cap : Nat) (hS : SrcE w sp cap m) (ks : List Int) (hk : ks.length = 32) (hy : Bys ks) :
    Calls Tryd.prog 9 #[.slice sp m.length cap, .agg (ints .u8 ks).toArray] w fun e w' => ∃ s c, e = .returned (.tuple #[.slice s (mV m ks).length c, .bool (mF m ks)]) ∧ Src w' s c (mV m ks) ∧ Below w.heap.size w w' := by
  refine (r3Look_any w m hm hs hN sp cap hS ks hk hy).mono ?_
  rintro e w' ⟨⟨hl, rfl⟩ | ⟨v, hl, sv, cv, rfl, hSv⟩, hb⟩
  · have e1 : mF m ks = false := by unfold mF; rw [hl]; rfl
    have e2 : mV m ks = [] := by unfold mV; rw [hl]; rfl
    rw [e1, e2]
    exact ⟨none, 0, rfl, (Own.nil w' 0).srcN, hb⟩
  · have e1 : mF m ks = true := by unfold mF; rw [hl]; rfl
    have e2 : mV m ks = v := by unfold mV; rw [hl]; rfl
    rw [e1, e2]
    exact ⟨sv, cv, rfl, hSv.below hb (Nat.le_refl _), hb⟩
theorem mV_bys {m : List EnM} (hv : ∀ e ∈ m, Bys e.v) (ks : List Int) : Bys (mV m ks) := look_bys hv ks
theorem path_truth (w : World) (hG : Glob w) {n : Nat} (h1 : 1 ≤ n) (h2 : n ≤ 32) {m : List EnM} (hm : MapVs m) (hv : ∀ e ∈ m, Bys e.v) {ks : List Int} (hk : ks.length = 32) (yk : Bys ks) (sp : Option Addr) (cap : Nat) (hS : Src w sp cap (encP (proofM n m ks))) :
    Calls Tryd.prog 10 #[.int .i64 (n : Nat), .agg (ints .u8 ks).toArray, .slice sp (encP (proofM n m ks)).length cap] w fun e w' => ∃ g o c, e = .returned (.tuple #[.slice (some ⟨g, o, none⟩) 257 c, .int .i64 0]) ∧ g < w'.heap.size ∧ w'.rangeAt g (o + 256 * 32) (ints .u8 (tD n 256 m)) ∧ Below w.heap.size w w' := by
  obtain ⟨h, hd⟩ := proofM_held (w := n) hm hk yk
  obtain ⟨q1, q2, q3⟩ := held_dec h
  have q0 : decE (encP (proofM n m ks)) = 0 := by unfold decE; rw [q1]; rfl
  have hp : pathE n (encP (proofM n m ks)) = 0 := by unfold pathE; rw [if_pos q0, q2]
  refine (path_ok w hG n h1 h2 ks (encP (proofM n m ks)) hk yk sp cap (proofM_bys hm hv ks) hS).mono ?_
  rintro e w' ⟨v, rfl, hO, hb⟩
  rw [hp] at hO ⊢
  rw [if_pos rfl] at hO
  obtain ⟨s, c, rfl, hD, _⟩ := hO.form
  rw [pathN_len] at *
  obtain ⟨g, o, rfl, hg, hr⟩ := hD.at (by rw [pathN_len]; omega)
  have h5 := hr 256 (by rw [pathN_len]; omega)
  refine ⟨g, o, c, rfl, hg, ?_, hb⟩
  have e5 : (pathN n ks (nears n (decV (encP (proofM n m ks)))) (decV (encP (proofM n m ks))) 257).getD 256 [] = tD n 256 m := by
    rw [pathN_succ, List.getD_eq_getElem?_getD, List.getElem?_append_right (by rw [pathN_len]; omega), pathN_len, Nat.sub_self]
    show pth _ _ _ _ 256 = _
    rw [pth_nears _ _ _ _ _ (Nat.le_refl _)]
    exact q3
  rwa [e5] at h5
end Go.Proofs.YtbjahdbmkcamoaaDoor
