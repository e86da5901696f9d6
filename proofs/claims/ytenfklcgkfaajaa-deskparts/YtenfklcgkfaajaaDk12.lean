import Derived.Test.YtenfklcgkfaajaaDz
namespace Go.Proofs.Ytenfklcgkfaajaa
set_option linter.unusedVariables false
set_option linter.unusedSimpArgs false
open Go.RowKit
attribute [local go_sem ↓] Go.wp_at_zero Go.wp_at_succ

structure RqY (q : Rq) : Prop where
  key : Bys q.key
  high : Bys q.high
  batch : Bys q.batch
theorem same_self (w : World) (zs : List Int) (hy : Bys zs) (n : Nat) (hn : zs.length = n) (sp tp : Option Addr) (cap dap : Nat) (hS : Src w sp cap zs) (hT : Src w tp dap zs) :
    Calls Try.prog 24 #[.slice sp n cap, .slice tp n dap] w fun e w' => e = .returned (.bool true) ∧ w' = w := by
  subst hn
  have := same_any w zs zs hy hy sp tp cap dap hS hT
  simpa using this
set_option maxRecDepth 100000 in
set_option maxHeartbeats 4000000 in
theorem sameRequest_yes (w : World) (q : Rq) (hY : RqY q) (ks hs bs : Option Addr) (kc hc bc : Nat) (hI : RqIn w q ks hs bs kc hc bc) (ks' hs' bs' : Option Addr) (kc' hc' bc' : Nat) (hI' : RqIn w q ks' hs' bs' kc' hc' bc') :
    Calls Try.prog 13 #[.agg (rqV q ks hs bs kc hc bc).toArray, .agg (rqV q ks' hs' bs' kc' hc' bc').toArray] w fun e w' => e = .returned (.bool true) ∧ Below w.heap.size w w' := by
  have hbel := ((Below.refl w.heap.size w).alloc (Nat.le_refl _) (.cells (rqV q ks hs bs kc hc bc).toArray 36)).alloc (by simp) (.cells (rqV q ks' hs' bs' kc' hc' bc').toArray 36)
  have I1 := hI.below hbel
  have I2 := hI'.below hbel
  have K1 := hid (same_self _ q.key hY.key _ rfl ks ks' kc kc' I1.sk I2.sk)
  have K2 := hid (same_self _ q.high hY.high _ rfl hs hs' hc hc' I1.sh I2.sh)
  have K3 := hid (same_self _ q.batch hY.batch _ rfl bs bs' bc bc' I1.sb I2.sb)
  have HB := hid hbel
  clear hbel I1 I2 hI hI' hY
  unfold rqV rqC at *
  obtain ⟨op, ver, oth, lim, key, high, batch⟩ := q
  simp only at *
  generalize key.length = n1 at *
  generalize high.length = n2 at *
  generalize batch.length = n3 at *
  go_enter Try.func13, Try.ntmps13
  go_wp2_with fail
  refine K1.out.mono ?_
  rintro e w' ⟨rfl, hw'⟩
  obtain rfl := hw'.symm
  go_wp2_with fail
  refine K2.out.mono ?_
  rintro e w' ⟨rfl, hw'⟩
  obtain rfl := hw'.symm
  go_wp2_with fail
  refine K3.out.mono ?_
  rintro e w' ⟨rfl, hw'⟩
  obtain rfl := hw'.symm
  go_wp2
  go_ret
  exact ⟨rfl, HB.out⟩
theorem Own.form_some {w : World} {base : Nat} {v : Value} {zs : List Int} (h : Own w base v zs) {k : Nat} (hk : v.ownBlock = some k) : ∃ cap, v = .slice (some ⟨k, 0, none⟩) zs.length cap ∧ Src w (some ⟨k, 0, none⟩) cap zs := by
  obtain ⟨sp, cap, rfl, hS, _⟩ := h.form
  have h2 := h.2
  rcases h2 with ⟨e, _⟩ | ⟨g, c, cur, e, _⟩
  · rw [e] at hk; simp [Value.ownBlock] at hk
  · rw [e] at hk
    simp [Value.ownBlock] at hk
    subst hk
    simp only [Value.slice.injEq] at e
    obtain ⟨rfl, _, rfl⟩ := e
    exact ⟨_, rfl, hS⟩
theorem ask9 : decP [9] = some ⟨9, 0, 0, 0, [], [], []⟩ := by
  rw [dec_ask _ (fun x hx => by simp at hx; omega)]; rfl
theorem rdQ_bys {raw : List Int} (hy : Bys raw) : RqY (askQ raw) ∧ RqB (askQ raw) := by
  have hb := fun a n => w64_bd (leN (cutL raw a n))
  have hg : 0 ≤ raw.getD 0 0 ∧ raw.getD 0 0 < 256 := by
    by_cases h : 0 < raw.length
    · exact hy.at 0 h
    · obtain rfl : raw = [] := List.eq_nil_of_length_eq_zero (by omega)
      simp
  unfold askQ
  simp only
  generalize raw.getD 0 0 = x at *
  split
  · exact ⟨⟨Bys.nil, Bys.nil, cutL_bys hy _ _⟩, ⟨by simp only; omega, by simp, by simp, by simp⟩⟩
  split
  · exact ⟨⟨cutL_bys hy _ _, Bys.nil, Bys.nil⟩, ⟨by simp only; omega, hb _ _, by simp, by simp⟩⟩
  split
  · exact ⟨⟨Bys.nil, Bys.nil, Bys.nil⟩, ⟨by simp only; omega, hb _ _, by simp, by simp⟩⟩
  split
  · exact ⟨⟨cutL_bys hy _ _, cutL_bys hy _ _, Bys.nil⟩, ⟨by simp only; omega, hb _ _, by simp, by simp⟩⟩
  split
  · exact ⟨⟨cutL_bys hy _ _, cutL_bys hy _ _, Bys.nil⟩, ⟨by simp only; omega, hb _ _, by simp, hb _ _⟩⟩
  split
  · exact ⟨⟨Bys.nil, Bys.nil, Bys.nil⟩, ⟨by simp only; omega, hb _ _, hb _ _, by simp⟩⟩
  · exact ⟨⟨Bys.nil, Bys.nil, Bys.nil⟩, ⟨by simp only; omega, by simp, by simp, by simp⟩⟩
theorem ask_facts {raw : List Int} (hy : Bys raw) : RqY ((askP raw).getD rq0) ∧ RqB ((askP raw).getD rq0) := by
  unfold askP
  split
  · exact rdQ_bys hy
  · exact ⟨⟨Bys.nil, Bys.nil, Bys.nil⟩, ⟨by simp [rq0], by simp [rq0], by simp [rq0], by simp [rq0]⟩⟩
theorem rqV_one (q : Rq) (ks hs bs : Option Addr) (kc hc bc : Nat) : ∀ v ∈ rqV q ks hs bs kc hc bc, v.oneCell' = true := rqC_one rfl rfl rfl
end Go.Proofs.Ytenfklcgkfaajaa
