import Derived.Test.YtblcpcfonnaiiaaDoorClN
import Derived.Test.YtblcpcfonnaiiaaDoorClOz
namespace Go.Proofs.YtblcpcfonnaiiaaDoor
set_option linter.unusedVariables false
set_option linter.unusedSimpArgs false
open Go.RowKit
attribute [local go_sem ↓] Go.wp_at_zero Go.wp_at_succ

set_option maxRecDepth 100000 in
set_option maxHeartbeats 4000000 in
theorem copied_any (w : World) (zs : List Int) (sp : Option Addr) (cap : Nat) (hS : Src w sp cap zs) (hnil : sp = none → cap = 0) (hlen : zs.length ≤ 140737488351232) :
    Calls Tryd.prog 8 #[.slice sp zs.length cap] w fun e w' => ∃ v, e = .returned v ∧ Own w' w.heap.size v zs ∧ Below w.heap.size w w' := by
  have hO := Own.nil w w.heap.size
  go_enter Tryd.func8, Tryd.ntmps8
  go_wp2_with (first | (at_builtin; refine wpList_append_wide rfl _ (.tmp 3) rfl w.heap.size (.slice none 0 0) [] zs rfl hO sp cap rfl hnil hS (by simpa using hlen) (Nat.le_refl _) ?_; intro v2 w2 hO2 hg2 hd2))
  go_ret
  exact ⟨_, rfl, hO2, grown_keeps hg2 (fun k e => by cases e) (Nat.le_refl _)⟩
/-- What Extract tells. -/
def ExO (k : Int) (root ks s t : List Int) (x y : List Int) (ok : Bool) : Prop :=
  (ok = false ∧ x = [] ∧ y = [] ∧ (verE k root ks s ≠ 0 ∨ verE k root ks t ≠ 0 ∨ s = t)) ∨
  (ok = true ∧ x ≠ y ∧ Bys x ∧ Bys y ∧ x.length ≤ 1000 ∧ y.length ≤ 1000 ∧ cutZ (sha x) (kept k) = cutZ (sha y) (kept k) ∧ verE k root ks s = 0 ∧ verE k root ks t = 0 ∧ s ≠ t)
theorem txt_len {k : Int} {ks : List Int} {p : Pf} (hk : ks.length = 32) (hw : WellP p) : ∀ h, h ≤ 256 → (txtP k ks p h).length ≤ 1000
  | 0, _ => by
    show (footT ks p.f p.vs).length ≤ 1000
    have := hw.len
    unfold footT leafT
    split <;> simp <;> omega
  | h + 1, _ => by
    show (sideT k ks h _ _).length ≤ 1000
    have := kept_le k
    unfold sideT branchT
    split <;> simp only [List.length_cons, List.length_append, List.length_take] <;> omega
def ExP (w : World) (k : Int) (root ks s t : List Int) (e : Ending) (w' : World) : Prop := ∃ x y ok s1 d1 s2 d2, e = .returned (.tuple #[.slice s1 x.length d1, .slice s2 y.length d2, .bool ok]) ∧ Src w' s1 d1 x ∧ Src w' s2 d2 y ∧ ExO k root ks s t x y ok ∧ Below w.heap.size w w'
theorem extract_all (w : World) (hG : Glob w) (k : Int) (root ks s t : List Int) (hr : root.length = 32) (hk : ks.length = 32) (hyk : Bys ks) (sp tp : Option Addr) (cap dap : Nat) (hys : Bys s) (hyt : Bys t) (hS : Src w sp cap s) (hT : Src w tp dap t) :
    Calls Tryd.prog 7 #[.int .i64 k, .agg (ints .u8 root).toArray, .agg (ints .u8 ks).toArray, .slice sp s.length cap, .slice tp t.length dap] w (ExP w k root ks s t) := by
  have NO : (verE k root ks s ≠ 0 ∨ verE k root ks t ≠ 0 ∨ s = t) → ∀ e w', (e = .returned (.tuple #[.slice none 0 0, .slice none 0 0, .bool false]) ∧ Below w.heap.size w w') → ExP w k root ks s t e w' := by
    rintro h e w' ⟨rfl, hb⟩
    exact ⟨[], [], false, none, 0, none, 0, rfl, Src.nil _, Src.nil _, Or.inl ⟨rfl, rfl, rfl, h⟩, hb⟩
  by_cases hw : k < 1 ∨ 32 < k
  · exact (extract_bad w k root ks s t hr hk sp tp cap dap hw).mono (NO (Or.inl (by unfold verE; rw [if_pos hw]; decide)))
  · obtain ⟨n, rfl⟩ := Int.eq_ofNat_of_zero_le (by omega : 0 ≤ k)
    have v1 : ∀ z, verE n root ks z = heldE n root ks z := fun z => by unfold verE; rw [if_neg hw]
    by_cases hst : s = t
    · exact (extract_same w hG n (by omega) (by omega) root ks s t hr hk hyk sp tp cap dap hys hyt hS hT hst).mono (NO (Or.inr (Or.inr hst)))
    · by_cases h1 : heldE n root ks s = 0
      · by_cases h2 : heldE n root ks t = 0
        · obtain ⟨H, hH, hne, heq, hcut⟩ := bind_pure hys hyt h1 h2 hst
          obtain ⟨ok1, y1, w1, _⟩ := dec_some hys (held_dec h1).1
          obtain ⟨ok2, y2, w2, _⟩ := dec_some hyt (held_dec h2).1
          refine (extract_yes w hG n (by omega) (by omega) root ks s t hr hk hyk sp tp cap dap hys hyt hS hT hst h1 h2 H hH hne heq).mono ?_
          rintro e w' ⟨s1, d1, s2, d2, rfl, a1, a2, a3⟩
          exact ⟨_, _, true, s1, d1, s2, d2, rfl, a1, a2, Or.inr ⟨rfl, hne, txtP_bys hyk ok1 y1 w1 H hH, txtP_bys hyk ok2 y2 w2 H hH, txt_len hk w1 H hH, txt_len hk w2 H hH, hcut, by rw [v1]; exact h1, by rw [v1]; exact h2, hst⟩, a3⟩
        · exact (extract_second w hG n (by omega) (by omega) root ks s t hr hk hyk sp tp cap dap hys hyt hS hT hst h1 h2).mono (NO (Or.inr (Or.inl (by rw [v1]; exact h2))))
      · exact (extract_first w hG n (by omega) (by omega) root ks s t hr hk hyk sp tp cap dap hys hyt hS hT hst h1).mono (NO (Or.inl (by rw [v1]; exact h1)))
end Go.Proofs.YtblcpcfonnaiiaaDoor
