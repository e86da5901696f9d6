import Derived.Test.YtjhocjjecfdphaaGreatDoorQ18
namespace Go.Proofs.YtjhocjjecfdphaaGreatDoor
set_option linter.unusedVariables false
set_option linter.unusedSimpArgs false
set_option maxRecDepth 100000
set_option maxHeartbeats 4000000
section
open Go.RowKit
attribute [local go_sem ↓] Go.wp_at_zero Go.wp_at_succ
theorem rWrite_off (w : World) (base : Nat) (Q : RQ) (R : RF) (h : RK w base Q R) (hd : R.down = true) (q : Int) (v : Value) :
   Calls Tryz.prog 35 #[.pointer (some ⟨Q.p, 0, none⟩), .int .i64 q, v] w fun e w' => e = .returned (.int .i64 2) ∧ w = w' := by
 have c := h.c3
 rw [hd] at c
 go_enter Tryz.func35, Tryz.ntmps35
 go_wp2
 go_ret
 exact ⟨rfl, rfl⟩
theorem rWrite_no (w : World) (base : Nat) (Q : RQ) (R : RF) (h : RK w base Q R) (hd : R.down = false) (n : Nat) (h3 : 3 ≤ n) (h4 : n ≤ 4096) (hl : R.base.length = 256 * n) (q : Int) (hq : q < 0 ∨ (n : Int) ≤ q) (v : Value) :
   Calls Tryz.prog 35 #[.pointer (some ⟨Q.p, 0, none⟩), .int .i64 q, v] w fun e w' => e = .returned (.int .i64 41) ∧ w = w' := by
 have KP := hid (rPages_in w base Q R h n h3 h4 hl)
 have c3 := h.c3
 rw [hd] at c3
 by_cases c : q < 0
 · go_enter Tryz.func35, Tryz.ntmps35
   go_wp2
   go_ret
   exact ⟨rfl, rfl⟩
 · have c2 : (n : Int) ≤ q := by omega
   clear hq
   go_enter Tryz.func35, Tryz.ntmps35
   go_wp2_with (first | (go_at_call 33; refine KP.out.mono ?_; rintro e w0 ⟨rfl, rfl⟩))
   go_ret
   exact ⟨rfl, rfl⟩
theorem rWrite_few (w : World) (base : Nat) (Q : RQ) (R : RF) (h : RK w base Q R) (hd : R.down = false) (n : Nat) (h3 : 3 ≤ n) (h4 : n ≤ 4096) (hl : R.base.length = 256 * n) (q : Nat) (hq : q < n) (sp : Option Addr) (l c : Nat) (hll : ((l : Int) != 256) = true) :
   Calls Tryz.prog 35 #[.pointer (some ⟨Q.p, 0, none⟩), .int .i64 q, .slice sp l c] w fun e w' => e = .returned (.int .i64 42) ∧ w = w' := by
 have KP := hid (rPages_in w base Q R h n h3 h4 hl)
 have c3 := h.c3
 rw [hd] at c3
 have i1 : (q : Int) < (n : Int) := by omega
 go_enter Tryz.func35, Tryz.ntmps35
 go_wp2_with (first | (go_at_call 33; refine KP.out.mono ?_; rintro e w0 ⟨rfl, rfl⟩))
 go_ret
 exact ⟨rfl, rfl⟩
theorem rWrite_in (w : World) (base : Nat) (hbw : base ≤ w.heap.size) (Q : RQ) (R : RF) (h : RK w base Q R) (hd : R.down = false) (har : 0 ≤ R.armed ∧ R.armed ≤ 9223372036854775807) (n : Nat) (h3 : 3 ≤ n) (h4 : n ≤ 4096) (hl : R.base.length = 256 * n) (q : Nat) (hq : q < n) (data : List Int) (hdl : data.length = 256) (sp : Option Addr) (cap : Nat) (hS : Src w sp cap data) (hnil : sp = none → cap = 0) (hll : Q.es.length ≤ 400000000000) :
   Calls Tryz.prog 35 #[.pointer (some ⟨Q.p, 0, none⟩), .int .i64 q, .slice sp 256 cap] w fun e w' => e = .returned (.int .i64 (if R.armed = 1 then 2 else 0)) ∧ RN base Q w (R.pushed (.wrote q data)).acted w' := by
 have KP := hid (rPages_in w base Q R h n h3 h4 hl)
 have c3 := h.c3
 rw [hd] at c3
 have i1 : (q : Int) < (n : Int) := by omega
 obtain ⟨lp, lc, hlv⟩ := ownsRow_form h.lg
 have HLV := hid hlv
 have c1 : w.drew.cell? ⟨Q.p, 1, none⟩ = some (.slice lp Q.es.length lc) := by rw [← hlv]; exact h.c1
 have HDL := hid hdl
 have HLL := hid (show Q.es.length + 1 ≤ 400000000001 by omega)
 have HBW := hid (show base ≤ w.drew.heap.size from hbw)
 have KC := hid (rcopied_any w.drew data sp cap (hS.below ((Below.refl w.heap.size w).drew) (Nat.le_refl _)) hnil (by omega) 256 hdl)
 have HK := hid (fun (w5 : World) (h5 : Below w.drew.heap.size w.drew w5) => (show RK w5 base Q R from h.of_heap fun k hk => h5.block k (h.lt k hk).2))
 have KS := hid (fun (w5 : World) (h5 : Below w.drew.heap.size w.drew w5) => (show w5.cell? ⟨Q.p, 1, none⟩ = some (.slice lp Q.es.length lc) by rw [← hlv]; exact (HK.out w5 h5).c1))
 have KT := hid (fun (w5 : World) (h5 : Below w.drew.heap.size w.drew w5) (ks : List Value) => (show (w5.alloc (.cells ks.toArray 143)).cell? ⟨Q.p, 1, none⟩ = some (.slice lp Q.es.length lc) by rw [← hlv]; exact ((HK.out w5 h5).below ((Below.refl _ _).alloc (Nat.le_refl _) _)).c1))
 have KL := hid (fun (w5 : World) (h5 : Below w.drew.heap.size w.drew w5) => (show w5.ownsRow base 143 5 (.slice lp Q.es.length lc) Q.es.length (Q.es.flatMap encX) by rw [← hlv]; exact (HK.out w5 h5).lg))
 clear hlv hS
 have HAR := hid har
 obtain ⟨X, hX⟩ : ∃ X : Int, X = (if R.armed = 1 then 2 else 0) := ⟨_, rfl⟩
 rw [← hX]
 have HX := hid hX
 clear h hd har hll hbw hX
 go_enter Tryz.func35, Tryz.ntmps35
 go_wp2_with (first | (go_at_call 33; refine KP.out.mono ?_; rintro e w0 ⟨rfl, rfl⟩))
 refine rgA (fun _ => True) trivial (fun hq0 => ?_)
 refine tkA 0 (.pointer (some ⟨Q.p, 0, none⟩)) rfl hq0 ?_
 go_frame
 refine tkA 1 (.pointer (some ⟨Q.p, 0, none⟩)) rfl hq0 ?_
 go_frame
 refine tkA 5 (.int .i64 q) rfl hq0 ?_
 go_frame
 refine tkA 6 (.slice sp 256 cap) rfl hq0 ?_
 go_frame
 refine tkA 2 (.pointer (some ⟨Q.p, 0, none⟩)) rfl hq0 ?_
 go_frame
 refine tkA 3 (.pointer (some ⟨Q.p, 1, none⟩)) rfl hq0 ?_
 go_frame
 refine wpAnyH_ready (rs := [4, 7]) (by kernel_rfl) (by simp) ?_
 refine (consA rfl (fun K hK => ?_) (consA rfl (fun K hK => ?_) AllReadyH.nil))
 · skip
   go_simp
   refine hK.out _ _ (trivial) ?_
   clear hK K hq0
   intro hq0
   try go_frame
   refine rdA 7 rfl (fun K hK => ?_)
   go_simp
   go_at_call 76
   refine KC.out.mono ?_
   rintro e w5 ⟨v5, rfl, hO5, hB5⟩
   obtain ⟨d5, e5, hv5, hs5, hn5⟩ := hO5.form
   rw [HDL.out] at hv5
   subst hv5
   clear hs5 hn5
   have c15 := KS.out w5 hB5
   go_wp2_with fail
   refine hK.out _ _ (trivial) ?_
   clear hK K hq0
   intro hq0
   try go_frame
   refine tqA 8 (.agg #[.int .i64 1, .int .i64 q, .int .i64 0, .slice d5 256 e5, .int .u32 0]) rfl (yA (by intro w hS; have hq := buildE1' w q d5 256 e5; go_simp)) hq0 ?_
   go_frame
   refine rdA 9 rfl (fun K hK => ?_)
   refine step_sliceE (by rfl) (.tmp 34) rfl (encX (.wrote q data, .slice d5 256 e5)) rfl rfl ?_
   have c16 := KT.out w5 hB5 (encX (.wrote q data, .slice d5 256 e5))
   refine hK.out _ _ (trivial) ?_
   clear hK K hq0
   intro hq0
   try go_frame
   refine rdA 10 rfl (fun K hK => ?_)
   refine step_pushE (w := w5) rfl (.tmp 30) (.tmp 35) rfl base (.slice lp Q.es.length lc) Q.es.length _ (encX (.wrote q data, .slice d5 256 e5)) rfl (KL.out w5 hB5) rfl rfl (encX_one rfl) HLL.out (Nat.le_trans HBW.out hB5.size) _ _ ?_
   intro v8 w8 hO8 hg8 hd8
   obtain ⟨s8, c8, rfl⟩ := ownsRow_form hO8
   obtain ⟨cx, fx, hP, hFF, hG⟩ := (HK.out w5 hB5).push' (.wrote q data) (.slice d5 256 e5) (hO5.base_le HBW.out) _ lp lc HLV.out hO8 hg8 hd8
   refine hK.out _ _ (trivial) ?_
   clear hK K hq0
   intro hq0
   try go_frame
   refine tkA 11 (.pointer (some ⟨Q.p, 0, none⟩)) rfl hq0 ?_
   go_frame
   refine tkA 12 (.pointer (some ⟨Q.p, 1, none⟩)) rfl hq0 ?_
   go_frame
   refine rdA 13 rfl (fun K hK => ?_)
   go_simp
   refine hK.out _ _ (trivial) ?_
   clear hK K hq0
   intro hq0
   try go_frame
   refine wdA ?_
   clear hq0
   have KA := hid (ract_in _ base _ _ hP HAR.out)
   have HG5 := hid (show Gr w Q.fp (Q.pushed (.wrote q data) (.slice d5 256 e5) (.slice s8 (Q.es.length + 1) c8)).fp from fun k hk => (hG k hk).elim Or.inl fun z => Or.inr (z.elim (fun y => Nat.le_trans hB5.size y) (fun y => (ownsRow_block hO5 k y).1)))
   have HF5 := hid (((Fr.refl Q.fp w).drew.trans (Fr.of_below hB5) (Gr.refl _ _)).trans hFF (Gr.refl _ _))
   clear hP hFF hG hO5 hO8 hg8 hd8 c15 c16 cx fx KC KS KT KL HK
   generalize w8.setCell ⟨Q.p, 1, none⟩ (.slice s8 (Q.es.length + 1) c8) = W9 at *
   by_cases ha : R.armed = 1
   · have HE := hid (show decide (R.armed ≠ 1) = false from decide_eq_false (by simp [ha]))
     have HI := hid (show (if R.armed = 1 then (2 : Int) else 0) = 2 from if_pos ha)
     clear ha
     go_wp2_with (first | (go_at_call 87; refine KA.out.mono ?_; rintro e w9 ⟨rfl, hK9, hF9⟩; rw [show decide ((R.pushed (.wrote q data)).armed ≠ 1) = false from HE.out]))
     go_ret
     exact ⟨by rw [HX.out, HI.out]; rfl, Q.pushed (.wrote q data) (.slice d5 256 e5) (.slice s8 (Q.es.length + 1) c8), rfl, hK9, HF5.out.trans hF9 HG5.out, HG5.out⟩
   · have HE := hid (show decide (R.armed ≠ 1) = true from decide_eq_true ha)
     have HI := hid (show (if R.armed = 1 then (2 : Int) else 0) = 0 from if_neg ha)
     clear ha
     go_wp2_with (first | (go_at_call 87; refine KA.out.mono ?_; rintro e w9 ⟨rfl, hK9, hF9⟩; rw [show decide ((R.pushed (.wrote q data)).armed ≠ 1) = true from HE.out]))
     go_ret
     exact ⟨by rw [HX.out, HI.out]; rfl, Q.pushed (.wrote q data) (.slice d5 256 e5) (.slice s8 (Q.es.length + 1) c8), rfl, hK9, HF5.out.trans hF9 HG5.out, HG5.out⟩
 · skip
   go_simp
   go_at_call 76
   refine KC.out.mono ?_
   rintro e w5 ⟨v5, rfl, hO5, hB5⟩
   obtain ⟨d5, e5, hv5, hs5, hn5⟩ := hO5.form
   rw [HDL.out] at hv5
   subst hv5
   clear hs5 hn5
   have c15 := KS.out w5 hB5
   go_wp2_with fail
   refine hK.out _ _ (trivial) ?_
   clear hK K hq0
   intro hq0
   try go_frame
   refine tqA 8 (.agg #[.int .i64 1, .int .i64 q, .int .i64 0, .slice d5 256 e5, .int .u32 0]) rfl (yA (by intro w hS; have hq := buildE1' w q d5 256 e5; go_simp)) hq0 ?_
   go_frame
   refine wpAnyH_ready (rs := [4, 9]) (by kernel_rfl) (by simp) ?_
   refine (consA rfl (fun K hK => ?_) (consA rfl (fun K hK => ?_) AllReadyH.nil))
   · skip
     go_simp
     refine hK.out _ _ (trivial) ?_
     clear hK K hq0
     intro hq0
     try go_frame
     refine rdA 9 rfl (fun K hK => ?_)
     refine step_sliceE (by rfl) (.tmp 34) rfl (encX (.wrote q data, .slice d5 256 e5)) rfl rfl ?_
     have c16 := KT.out w5 hB5 (encX (.wrote q data, .slice d5 256 e5))
     refine hK.out _ _ (trivial) ?_
     clear hK K hq0
     intro hq0
     try go_frame
     refine rdA 10 rfl (fun K hK => ?_)
     refine step_pushE (w := w5) rfl (.tmp 30) (.tmp 35) rfl base (.slice lp Q.es.length lc) Q.es.length _ (encX (.wrote q data, .slice d5 256 e5)) rfl (KL.out w5 hB5) rfl rfl (encX_one rfl) HLL.out (Nat.le_trans HBW.out hB5.size) _ _ ?_
     intro v8 w8 hO8 hg8 hd8
     obtain ⟨s8, c8, rfl⟩ := ownsRow_form hO8
     obtain ⟨cx, fx, hP, hFF, hG⟩ := (HK.out w5 hB5).push' (.wrote q data) (.slice d5 256 e5) (hO5.base_le HBW.out) _ lp lc HLV.out hO8 hg8 hd8
     refine hK.out _ _ (trivial) ?_
     clear hK K hq0
     intro hq0
     try go_frame
     refine tkA 11 (.pointer (some ⟨Q.p, 0, none⟩)) rfl hq0 ?_
     go_frame
     refine tkA 12 (.pointer (some ⟨Q.p, 1, none⟩)) rfl hq0 ?_
     go_frame
     refine rdA 13 rfl (fun K hK => ?_)
     go_simp
     refine hK.out _ _ (trivial) ?_
     clear hK K hq0
     intro hq0
     try go_frame
     refine wdA ?_
     clear hq0
     have KA := hid (ract_in _ base _ _ hP HAR.out)
     have HG5 := hid (show Gr w Q.fp (Q.pushed (.wrote q data) (.slice d5 256 e5) (.slice s8 (Q.es.length + 1) c8)).fp from fun k hk => (hG k hk).elim Or.inl fun z => Or.inr (z.elim (fun y => Nat.le_trans hB5.size y) (fun y => (ownsRow_block hO5 k y).1)))
     have HF5 := hid (((Fr.refl Q.fp w).drew.trans (Fr.of_below hB5) (Gr.refl _ _)).trans hFF (Gr.refl _ _))
     clear hP hFF hG hO5 hO8 hg8 hd8 c15 c16 cx fx KC KS KT KL HK
     generalize w8.setCell ⟨Q.p, 1, none⟩ (.slice s8 (Q.es.length + 1) c8) = W9 at *
     by_cases ha : R.armed = 1
     · have HE := hid (show decide (R.armed ≠ 1) = false from decide_eq_false (by simp [ha]))
       have HI := hid (show (if R.armed = 1 then (2 : Int) else 0) = 2 from if_pos ha)
       clear ha
       go_wp2_with (first | (go_at_call 87; refine KA.out.mono ?_; rintro e w9 ⟨rfl, hK9, hF9⟩; rw [show decide ((R.pushed (.wrote q data)).armed ≠ 1) = false from HE.out]))
       go_ret
       exact ⟨by rw [HX.out, HI.out]; rfl, Q.pushed (.wrote q data) (.slice d5 256 e5) (.slice s8 (Q.es.length + 1) c8), rfl, hK9, HF5.out.trans hF9 HG5.out, HG5.out⟩
     · have HE := hid (show decide (R.armed ≠ 1) = true from decide_eq_true ha)
       have HI := hid (show (if R.armed = 1 then (2 : Int) else 0) = 0 from if_neg ha)
       clear ha
       go_wp2_with (first | (go_at_call 87; refine KA.out.mono ?_; rintro e w9 ⟨rfl, hK9, hF9⟩; rw [show decide ((R.pushed (.wrote q data)).armed ≠ 1) = true from HE.out]))
       go_ret
       exact ⟨by rw [HX.out, HI.out]; rfl, Q.pushed (.wrote q data) (.slice d5 256 e5) (.slice s8 (Q.es.length + 1) c8), rfl, hK9, HF5.out.trans hF9 HG5.out, HG5.out⟩
   · skip
     refine step_sliceE (by rfl) (.tmp 34) rfl (encX (.wrote q data, .slice d5 256 e5)) rfl rfl ?_
     have c16 := KT.out w5 hB5 (encX (.wrote q data, .slice d5 256 e5))
     refine hK.out _ _ (trivial) ?_
     clear hK K hq0
     intro hq0
     try go_frame
     refine rdA 4 rfl (fun K hK => ?_)
     go_simp
     refine hK.out _ _ (trivial) ?_
     clear hK K hq0
     intro hq0
     try go_frame
     refine rdA 10 rfl (fun K hK => ?_)
     refine step_pushE (w := w5) rfl (.tmp 30) (.tmp 35) rfl base (.slice lp Q.es.length lc) Q.es.length _ (encX (.wrote q data, .slice d5 256 e5)) rfl (KL.out w5 hB5) rfl rfl (encX_one rfl) HLL.out (Nat.le_trans HBW.out hB5.size) _ _ ?_
     intro v8 w8 hO8 hg8 hd8
     obtain ⟨s8, c8, rfl⟩ := ownsRow_form hO8
     obtain ⟨cx, fx, hP, hFF, hG⟩ := (HK.out w5 hB5).push' (.wrote q data) (.slice d5 256 e5) (hO5.base_le HBW.out) _ lp lc HLV.out hO8 hg8 hd8
     refine hK.out _ _ (trivial) ?_
     clear hK K hq0
     intro hq0
     try go_frame
     refine tkA 11 (.pointer (some ⟨Q.p, 0, none⟩)) rfl hq0 ?_
     go_frame
     refine tkA 12 (.pointer (some ⟨Q.p, 1, none⟩)) rfl hq0 ?_
     go_frame
     refine rdA 13 rfl (fun K hK => ?_)
     go_simp
     refine hK.out _ _ (trivial) ?_
     clear hK K hq0
     intro hq0
     try go_frame
     refine wdA ?_
     clear hq0
     have KA := hid (ract_in _ base _ _ hP HAR.out)
     have HG5 := hid (show Gr w Q.fp (Q.pushed (.wrote q data) (.slice d5 256 e5) (.slice s8 (Q.es.length + 1) c8)).fp from fun k hk => (hG k hk).elim Or.inl fun z => Or.inr (z.elim (fun y => Nat.le_trans hB5.size y) (fun y => (ownsRow_block hO5 k y).1)))
     have HF5 := hid (((Fr.refl Q.fp w).drew.trans (Fr.of_below hB5) (Gr.refl _ _)).trans hFF (Gr.refl _ _))
     clear hP hFF hG hO5 hO8 hg8 hd8 c15 c16 cx fx KC KS KT KL HK
     generalize w8.setCell ⟨Q.p, 1, none⟩ (.slice s8 (Q.es.length + 1) c8) = W9 at *
     by_cases ha : R.armed = 1
     · have HE := hid (show decide (R.armed ≠ 1) = false from decide_eq_false (by simp [ha]))
       have HI := hid (show (if R.armed = 1 then (2 : Int) else 0) = 2 from if_pos ha)
       clear ha
       go_wp2_with (first | (go_at_call 87; refine KA.out.mono ?_; rintro e w9 ⟨rfl, hK9, hF9⟩; rw [show decide ((R.pushed (.wrote q data)).armed ≠ 1) = false from HE.out]))
       go_ret
       exact ⟨by rw [HX.out, HI.out]; rfl, Q.pushed (.wrote q data) (.slice d5 256 e5) (.slice s8 (Q.es.length + 1) c8), rfl, hK9, HF5.out.trans hF9 HG5.out, HG5.out⟩
     · have HE := hid (show decide (R.armed ≠ 1) = true from decide_eq_true ha)
       have HI := hid (show (if R.armed = 1 then (2 : Int) else 0) = 0 from if_neg ha)
       clear ha
       go_wp2_with (first | (go_at_call 87; refine KA.out.mono ?_; rintro e w9 ⟨rfl, hK9, hF9⟩; rw [show decide ((R.pushed (.wrote q data)).armed ≠ 1) = true from HE.out]))
       go_ret
       exact ⟨by rw [HX.out, HI.out]; rfl, Q.pushed (.wrote q data) (.slice d5 256 e5) (.slice s8 (Q.es.length + 1) c8), rfl, hK9, HF5.out.trans hF9 HG5.out, HG5.out⟩
def RF.crashed (R : RF) (fs : List Int) : RF := { R.pushed (.crashed fs) with down := false, armed := 0, ages := R.ages + 1 }
theorem rCrash_in (w : World) (base : Nat) (hbw : base ≤ w.heap.size) (Q : RQ) (R : RF) (h : RK w base Q R) (hag : 0 ≤ R.ages ∧ R.ages < 4000000000000000000) (data : List Int) (L : Nat) (hdl : data.length = L) (hL : L ≤ 140737488351232) (sp : Option Addr) (cap : Nat) (hS : Src w sp cap data) (hnil : sp = none → cap = 0) (hll : Q.es.length ≤ 400000000000) :
   Calls Tryz.prog 48 #[.pointer (some ⟨Q.p, 0, none⟩), .slice sp L cap] w fun e w' => e = .returned (.int .i64 (openN R.log)) ∧ RN base Q w (R.crashed data) w' := by
 unfold RF.crashed
 have KO := hid (rOpen_in w base Q R h hll)
 obtain ⟨lp, lc, hlv⟩ := ownsRow_form h.lg
 have HLV := hid hlv
 have c1 : w.drew.cell? ⟨Q.p, 1, none⟩ = some (.slice lp Q.es.length lc) := by rw [← hlv]; exact h.c1
 have HDL := hid hdl
 have HLL := hid (show Q.es.length + 1 ≤ 400000000001 by omega)
 have HBW := hid (show base ≤ w.drew.heap.size from hbw)
 have KC := hid (rcopied_any w.drew data sp cap (hS.below ((Below.refl w.heap.size w).drew) (Nat.le_refl _)) hnil (by omega) L hdl)
 have HK := hid (fun (w5 : World) (h5 : Below w.drew.heap.size w.drew w5) => (show RK w5 base Q R from h.of_heap fun k hk => h5.block k (h.lt k hk).2))
 have KS := hid (fun (w5 : World) (h5 : Below w.drew.heap.size w.drew w5) => (show w5.cell? ⟨Q.p, 1, none⟩ = some (.slice lp Q.es.length lc) by rw [← hlv]; exact (HK.out w5 h5).c1))
 have KT := hid (fun (w5 : World) (h5 : Below w.drew.heap.size w.drew w5) (ks : List Value) => (show (w5.alloc (.cells ks.toArray 143)).cell? ⟨Q.p, 1, none⟩ = some (.slice lp Q.es.length lc) by rw [← hlv]; exact ((HK.out w5 h5).below ((Below.refl _ _).alloc (Nat.le_refl _) _)).c1))
 have KL := hid (fun (w5 : World) (h5 : Below w.drew.heap.size w.drew w5) => (show w5.ownsRow base 143 5 (.slice lp Q.es.length lc) Q.es.length (Q.es.flatMap encX) by rw [← hlv]; exact (HK.out w5 h5).lg))
 clear hlv hS
 have HAG := hid hag
 clear h hll hbw
 go_enter Tryz.func48, Tryz.ntmps48
 go_wp2_with (first | (go_at_call 91; refine KO.out.mono ?_; rintro e w0 ⟨rfl, rfl⟩))
 refine rgA (fun _ => True) trivial (fun hq0 => ?_)
 refine tkA 0 (.pointer (some ⟨Q.p, 0, none⟩)) rfl hq0 ?_
 go_frame
 refine tkA 1 (.pointer (some ⟨Q.p, 0, none⟩)) rfl hq0 ?_
 go_frame
 refine tkA 5 (.slice sp L cap) rfl hq0 ?_
 go_frame
 refine tkA 2 (.pointer (some ⟨Q.p, 0, none⟩)) rfl hq0 ?_
 go_frame
 refine tkA 3 (.pointer (some ⟨Q.p, 1, none⟩)) rfl hq0 ?_
 go_frame
 refine wpAnyH_ready (rs := [4, 6]) (by kernel_rfl) (by simp) ?_
 refine (consA rfl (fun K hK => ?_) (consA rfl (fun K hK => ?_) AllReadyH.nil))
 · skip
   go_simp
   refine hK.out _ _ (trivial) ?_
   clear hK K hq0
   intro hq0
   try go_frame
   refine rdA 6 rfl (fun K hK => ?_)
   go_simp
   go_at_call 76
   refine KC.out.mono ?_
   rintro e w5 ⟨v5, rfl, hO5, hB5⟩
   obtain ⟨d5, e5, hv5, hs5, hn5⟩ := hO5.form
   rw [HDL.out] at hv5
   subst hv5
   clear hs5 hn5
   have c15 := KS.out w5 hB5
   go_wp2_with fail
   refine hK.out _ _ (trivial) ?_
   clear hK K hq0
   intro hq0
   try go_frame
   refine tqA 7 (.agg #[.int .i64 3, .int .i64 0, .int .i64 0, .slice d5 L e5, .int .u32 0]) rfl (yA (by intro w hS; have hq := buildE3 w d5 L e5; go_simp)) hq0 ?_
   go_frame
   refine rdA 8 rfl (fun K hK => ?_)
   refine step_sliceE (by rfl) (.tmp 15) rfl (encX (.crashed data, .slice d5 L e5)) rfl rfl ?_
   have c16 := KT.out w5 hB5 (encX (.crashed data, .slice d5 L e5))
   refine hK.out _ _ (trivial) ?_
   clear hK K hq0
   intro hq0
   try go_frame
   refine rdA 9 rfl (fun K hK => ?_)
   refine step_pushE (w := w5) rfl (.tmp 12) (.tmp 16) rfl base (.slice lp Q.es.length lc) Q.es.length _ (encX (.crashed data, .slice d5 L e5)) rfl (KL.out w5 hB5) rfl rfl (encX_one rfl) HLL.out (Nat.le_trans HBW.out hB5.size) _ _ ?_
   intro v8 w8 hO8 hg8 hd8
   obtain ⟨s8, c8, rfl⟩ := ownsRow_form hO8
   obtain ⟨cx, fx, hP, hFF, hG⟩ := (HK.out w5 hB5).push' (.crashed data) (.slice d5 L e5) (hO5.base_le HBW.out) _ lp lc HLV.out hO8 hg8 hd8
   refine hK.out _ _ (trivial) ?_
   clear hK K hq0
   intro hq0
   try go_frame
   refine tkA 10 (.pointer (some ⟨Q.p, 0, none⟩)) rfl hq0 ?_
   go_frame
   refine tkA 11 (.pointer (some ⟨Q.p, 1, none⟩)) rfl hq0 ?_
   go_frame
   refine rdA 12 rfl (fun K hK => ?_)
   go_simp
   refine hK.out _ _ (trivial) ?_
   clear hK K hq0
   intro hq0
   try go_frame
   refine wdA ?_
   clear hq0
   have hk1 := hP.put (R' := { R.pushed (.crashed data) with down := false }) 3 (.bool false) rfl rfl rfl
   have hk2 := hk1.put (R' := { R.pushed (.crashed data) with down := false, armed := 0 }) 2 (.int .i64 0) rfl rfl rfl
   have hk3 := hk2.put (R' := { R.pushed (.crashed data) with down := false, armed := 0, ages := R.ages + 1 }) 4 (.int .i64 (R.ages + 1)) rfl rfl rfl
   have x3 := hP.c3
   have y3 := hP.fz 3
   have x2 := hk1.c2
   have y2 := hk1.fz 2
   have x4 := hk2.c4
   have y4 := hk2.fz 4
   have HK3 := hid hk3
   have HG5 := hid (show Gr w Q.fp (Q.pushed (.crashed data) (.slice d5 L e5) (.slice s8 (Q.es.length + 1) c8)).fp from fun k hk => (hG k hk).elim Or.inl fun z => Or.inr (z.elim (fun y => Nat.le_trans hB5.size y) (fun y => (ownsRow_block hO5 k y).1)))
   have HF5 := hid (((((Fr.refl Q.fp w).drew.trans (Fr.of_below hB5) (Gr.refl _ _)).trans hFF (Gr.refl _ _)).setCell ((Q.mem _).2 (Or.inl rfl)) 3 (.bool false)).setCell ((Q.mem _).2 (Or.inl rfl)) 2 (.int .i64 0) |>.setCell ((Q.mem _).2 (Or.inl rfl)) 4 (.int .i64 (R.ages + 1)))
   clear hk1 hk2 hk3 hP hFF hG hO5 hO8 hg8 hd8 c15 c16 cx fx KC KS KT KL HK
   simp only [RQ.pushed, RF.pushed] at x3 y3 x2 y2 x4 y4
   generalize w8.setCell ⟨Q.p, 1, none⟩ (.slice s8 (Q.es.length + 1) c8) = W9 at *
   go_wp2
   go_ret
   exact ⟨rfl, Q.pushed (.crashed data) (.slice d5 L e5) (.slice s8 (Q.es.length + 1) c8), rfl, HK3.out, HF5.out, HG5.out⟩
 · skip
   go_simp
   go_at_call 76
   refine KC.out.mono ?_
   rintro e w5 ⟨v5, rfl, hO5, hB5⟩
   obtain ⟨d5, e5, hv5, hs5, hn5⟩ := hO5.form
   rw [HDL.out] at hv5
   subst hv5
   clear hs5 hn5
   have c15 := KS.out w5 hB5
   go_wp2_with fail
   refine hK.out _ _ (trivial) ?_
   clear hK K hq0
   intro hq0
   try go_frame
   refine tqA 7 (.agg #[.int .i64 3, .int .i64 0, .int .i64 0, .slice d5 L e5, .int .u32 0]) rfl (yA (by intro w hS; have hq := buildE3 w d5 L e5; go_simp)) hq0 ?_
   go_frame
   refine wpAnyH_ready (rs := [4, 8]) (by kernel_rfl) (by simp) ?_
   refine (consA rfl (fun K hK => ?_) (consA rfl (fun K hK => ?_) AllReadyH.nil))
   · skip
     go_simp
     refine hK.out _ _ (trivial) ?_
     clear hK K hq0
     intro hq0
     try go_frame
     refine rdA 8 rfl (fun K hK => ?_)
     refine step_sliceE (by rfl) (.tmp 15) rfl (encX (.crashed data, .slice d5 L e5)) rfl rfl ?_
     have c16 := KT.out w5 hB5 (encX (.crashed data, .slice d5 L e5))
     refine hK.out _ _ (trivial) ?_
     clear hK K hq0
     intro hq0
     try go_frame
     refine rdA 9 rfl (fun K hK => ?_)
     refine step_pushE (w := w5) rfl (.tmp 12) (.tmp 16) rfl base (.slice lp Q.es.length lc) Q.es.length _ (encX (.crashed data, .slice d5 L e5)) rfl (KL.out w5 hB5) rfl rfl (encX_one rfl) HLL.out (Nat.le_trans HBW.out hB5.size) _ _ ?_
     intro v8 w8 hO8 hg8 hd8
     obtain ⟨s8, c8, rfl⟩ := ownsRow_form hO8
     obtain ⟨cx, fx, hP, hFF, hG⟩ := (HK.out w5 hB5).push' (.crashed data) (.slice d5 L e5) (hO5.base_le HBW.out) _ lp lc HLV.out hO8 hg8 hd8
     refine hK.out _ _ (trivial) ?_
     clear hK K hq0
     intro hq0
     try go_frame
     refine tkA 10 (.pointer (some ⟨Q.p, 0, none⟩)) rfl hq0 ?_
     go_frame
     refine tkA 11 (.pointer (some ⟨Q.p, 1, none⟩)) rfl hq0 ?_
     go_frame
     refine rdA 12 rfl (fun K hK => ?_)
     go_simp
     refine hK.out _ _ (trivial) ?_
     clear hK K hq0
     intro hq0
     try go_frame
     refine wdA ?_
     clear hq0
     have hk1 := hP.put (R' := { R.pushed (.crashed data) with down := false }) 3 (.bool false) rfl rfl rfl
     have hk2 := hk1.put (R' := { R.pushed (.crashed data) with down := false, armed := 0 }) 2 (.int .i64 0) rfl rfl rfl
     have hk3 := hk2.put (R' := { R.pushed (.crashed data) with down := false, armed := 0, ages := R.ages + 1 }) 4 (.int .i64 (R.ages + 1)) rfl rfl rfl
     have x3 := hP.c3
     have y3 := hP.fz 3
     have x2 := hk1.c2
     have y2 := hk1.fz 2
     have x4 := hk2.c4
     have y4 := hk2.fz 4
     have HK3 := hid hk3
     have HG5 := hid (show Gr w Q.fp (Q.pushed (.crashed data) (.slice d5 L e5) (.slice s8 (Q.es.length + 1) c8)).fp from fun k hk => (hG k hk).elim Or.inl fun z => Or.inr (z.elim (fun y => Nat.le_trans hB5.size y) (fun y => (ownsRow_block hO5 k y).1)))
     have HF5 := hid (((((Fr.refl Q.fp w).drew.trans (Fr.of_below hB5) (Gr.refl _ _)).trans hFF (Gr.refl _ _)).setCell ((Q.mem _).2 (Or.inl rfl)) 3 (.bool false)).setCell ((Q.mem _).2 (Or.inl rfl)) 2 (.int .i64 0) |>.setCell ((Q.mem _).2 (Or.inl rfl)) 4 (.int .i64 (R.ages + 1)))
     clear hk1 hk2 hk3 hP hFF hG hO5 hO8 hg8 hd8 c15 c16 cx fx KC KS KT KL HK
     simp only [RQ.pushed, RF.pushed] at x3 y3 x2 y2 x4 y4
     generalize w8.setCell ⟨Q.p, 1, none⟩ (.slice s8 (Q.es.length + 1) c8) = W9 at *
     go_wp2
     go_ret
     exact ⟨rfl, Q.pushed (.crashed data) (.slice d5 L e5) (.slice s8 (Q.es.length + 1) c8), rfl, HK3.out, HF5.out, HG5.out⟩
   · skip
     refine step_sliceE (by rfl) (.tmp 15) rfl (encX (.crashed data, .slice d5 L e5)) rfl rfl ?_
     have c16 := KT.out w5 hB5 (encX (.crashed data, .slice d5 L e5))
     refine hK.out _ _ (trivial) ?_
     clear hK K hq0
     intro hq0
     try go_frame
     refine rdA 4 rfl (fun K hK => ?_)
     go_simp
     refine hK.out _ _ (trivial) ?_
     clear hK K hq0
     intro hq0
     try go_frame
     refine rdA 9 rfl (fun K hK => ?_)
     refine step_pushE (w := w5) rfl (.tmp 12) (.tmp 16) rfl base (.slice lp Q.es.length lc) Q.es.length _ (encX (.crashed data, .slice d5 L e5)) rfl (KL.out w5 hB5) rfl rfl (encX_one rfl) HLL.out (Nat.le_trans HBW.out hB5.size) _ _ ?_
     intro v8 w8 hO8 hg8 hd8
     obtain ⟨s8, c8, rfl⟩ := ownsRow_form hO8
     obtain ⟨cx, fx, hP, hFF, hG⟩ := (HK.out w5 hB5).push' (.crashed data) (.slice d5 L e5) (hO5.base_le HBW.out) _ lp lc HLV.out hO8 hg8 hd8
     refine hK.out _ _ (trivial) ?_
     clear hK K hq0
     intro hq0
     try go_frame
     refine tkA 10 (.pointer (some ⟨Q.p, 0, none⟩)) rfl hq0 ?_
     go_frame
     refine tkA 11 (.pointer (some ⟨Q.p, 1, none⟩)) rfl hq0 ?_
     go_frame
     refine rdA 12 rfl (fun K hK => ?_)
     go_simp
     refine hK.out _ _ (trivial) ?_
     clear hK K hq0
     intro hq0
     try go_frame
     refine wdA ?_
     clear hq0
     have hk1 := hP.put (R' := { R.pushed (.crashed data) with down := false }) 3 (.bool false) rfl rfl rfl
     have hk2 := hk1.put (R' := { R.pushed (.crashed data) with down := false, armed := 0 }) 2 (.int .i64 0) rfl rfl rfl
     have hk3 := hk2.put (R' := { R.pushed (.crashed data) with down := false, armed := 0, ages := R.ages + 1 }) 4 (.int .i64 (R.ages + 1)) rfl rfl rfl
     have x3 := hP.c3
     have y3 := hP.fz 3
     have x2 := hk1.c2
     have y2 := hk1.fz 2
     have x4 := hk2.c4
     have y4 := hk2.fz 4
     have HK3 := hid hk3
     have HG5 := hid (show Gr w Q.fp (Q.pushed (.crashed data) (.slice d5 L e5) (.slice s8 (Q.es.length + 1) c8)).fp from fun k hk => (hG k hk).elim Or.inl fun z => Or.inr (z.elim (fun y => Nat.le_trans hB5.size y) (fun y => (ownsRow_block hO5 k y).1)))
     have HF5 := hid (((((Fr.refl Q.fp w).drew.trans (Fr.of_below hB5) (Gr.refl _ _)).trans hFF (Gr.refl _ _)).setCell ((Q.mem _).2 (Or.inl rfl)) 3 (.bool false)).setCell ((Q.mem _).2 (Or.inl rfl)) 2 (.int .i64 0) |>.setCell ((Q.mem _).2 (Or.inl rfl)) 4 (.int .i64 (R.ages + 1)))
     clear hk1 hk2 hk3 hP hFF hG hO5 hO8 hg8 hd8 c15 c16 cx fx KC KS KT KL HK
     simp only [RQ.pushed, RF.pushed] at x3 y3 x2 y2 x4 y4
     generalize w8.setCell ⟨Q.p, 1, none⟩ (.slice s8 (Q.es.length + 1) c8) = W9 at *
     go_wp2
     go_ret
     exact ⟨rfl, Q.pushed (.crashed data) (.slice d5 L e5) (.slice s8 (Q.es.length + 1) c8), rfl, HK3.out, HF5.out, HG5.out⟩
end
section
open Go.RowKit
def dM : OW × Nat := (dW, 0)
structure PgS (b : List Int) (L : List Ev) (p i : Nat) (mine place : List Nat) : Prop where
 ln : mine.length = place.length
 pl : place = (mineOf (play b (L.take i)).2 p).map (·.2)
 mi : ∀ j, j < mine.length → mine.getD j 0 < i ∧ L.getD (mine.getD j 0) .synced = .wrote p ((mineOf (play b (L.take i)).2 p).getD j dM).1.data
theorem take_snocL (L : List Ev) (i : Nat) (hi : i < L.length) : L.take (i + 1) = L.take i ++ [L.getD i .synced] := by
 rw [List.take_succ_eq_append_getElem hi, List.getD_eq_getElem?_getD, List.getElem?_eq_getElem hi]; rfl
theorem play_step (b : List Int) (L : List Ev) (i : Nat) (hi : i < L.length) : play b (L.take (i + 1)) = (L.getD i .synced).on (play b (L.take i)) := by
 rw [take_snocL L i hi, play_snoc]
theorem PgS.start (b : List Int) (L : List Ev) (p : Nat) : PgS b L p 0 [] [] := ⟨rfl, rfl, fun j hj => by simp at hj⟩
theorem PgS.len {b : List Int} {L : List Ev} {p i : Nat} {mine place : List Nat} (h : PgS b L p i mine place) : mine.length = (mineOf (play b (L.take i)).2 p).length := by rw [h.ln, h.pl, List.length_map]
theorem PgS.place {b : List Int} {L : List Ev} {p i : Nat} {mine place : List Nat} (h : PgS b L p i mine place) (j : Nat) (hj : j < mine.length) : place.getD j 0 = ((mineOf (play b (L.take i)).2 p).getD j dM).2 := by
 rw [h.len] at hj
 rw [h.pl, List.getD_eq_getElem?_getD, List.getElem?_map, List.getElem?_eq_getElem hj, List.getD_eq_getElem?_getD, List.getElem?_eq_getElem hj]; rfl
theorem getD_appL {α : Type} (l r : List α) (j : Nat) (d : α) (h : j < l.length) : (l ++ r).getD j d = l.getD j d := by
 rw [List.getD_eq_getElem?_getD, List.getElem?_append_left h, ← List.getD_eq_getElem?_getD]
theorem getD_last {α : Type} (l : List α) (x d : α) : (l ++ [x]).getD l.length d = x := by
 rw [List.getD_eq_getElem?_getD, List.getElem?_append_right (Nat.le_refl _), Nat.sub_self]; rfl
theorem PgS.mine {b : List Int} {L : List Ev} {p i : Nat} {mine place : List Nat} (h : PgS b L p i mine place) (hi : i < L.length) {d : List Int} (he : L.getD i .synced = .wrote p d) : PgS b L p (i + 1) (mine ++ [i]) (place ++ [(play b (L.take i)).2.length]) := by
 have hm : mineOf (play b (L.take (i + 1))).2 p = mineOf (play b (L.take i)).2 p ++ [(⟨p, d⟩, (play b (L.take i)).2.length)] := by
   rw [play_step b L i hi, he]
   show mineOf ((play b (L.take i)).2 ++ [⟨p, d⟩]) p = _
   rw [mineOf_snoc, if_pos rfl]
 refine ⟨by rw [List.length_append, List.length_append, h.ln]; rfl, by rw [hm, List.map_append, h.pl]; rfl, fun j hj => ?_⟩
 rw [hm]
 rw [List.length_append, List.length_singleton] at hj
 by_cases e : j = mine.length
 · subst e
   have hl := h.len
   rw [getD_last]
   refine ⟨by omega, ?_⟩
   rw [he, hl, getD_last]
 · rw [getD_appL _ _ _ _ (by omega), getD_appL _ _ _ _ (by rw [← h.len]; omega)]
   obtain ⟨q1, q2⟩ := h.mi j (by omega)
   exact ⟨by omega, q2⟩
theorem PgS.keep {b : List Int} {L : List Ev} {p i : Nat} {mine place : List Nat} (h : PgS b L p i mine place) (hm : mineOf (play b (L.take (i + 1))).2 p = mineOf (play b (L.take i)).2 p) : PgS b L p (i + 1) mine place :=
 ⟨h.ln, by rw [hm]; exact h.pl, fun j hj => by rw [hm]; obtain ⟨q1, q2⟩ := h.mi j hj; exact ⟨by omega, q2⟩⟩
theorem PgS.other {b : List Int} {L : List Ev} {p i : Nat} {mine place : List Nat} (h : PgS b L p i mine place) (hi : i < L.length) {q : Nat} {d : List Int} (he : L.getD i .synced = .wrote q d) (hq : q ≠ p) : PgS b L p (i + 1) mine place := by
 refine h.keep ?_
 rw [play_step b L i hi, he]
 show mineOf ((play b (L.take i)).2 ++ [⟨q, d⟩]) p = _
 rw [mineOf_snoc, if_neg hq]
theorem PgS.flip {b : List Int} {L : List Ev} {p i : Nat} {mine place : List Nat} (h : PgS b L p i mine place) (hi : i < L.length) {q bit pat : Nat} (he : L.getD i .synced = .flipped q bit pat) : PgS b L p (i + 1) mine place := by
 refine h.keep ?_
 rw [play_step b L i hi, he]; rfl
theorem PgS.closed {b : List Int} {L : List Ev} {p i : Nat} (hi : i < L.length) (he : L.getD i .synced = .synced ∨ ∃ fs, L.getD i .synced = .crashed fs) : PgS b L p (i + 1) [] [] := by
 have hm : mineOf (play b (L.take (i + 1))).2 p = [] := by
   rw [play_step b L i hi]
   rcases he with e | ⟨fs, e⟩ <;> rw [e] <;> rfl
 exact ⟨rfl, by rw [hm]; rfl, fun j hj => by simp at hj⟩
theorem foldl_step {α β : Type} (f : β → α → β) (z : β) (l : List α) (d : α) (j : Nat) (hj : j < l.length) : (l.take (j + 1)).foldl f z = f ((l.take j).foldl f z) (l.getD j d) := by
 rw [List.take_succ_eq_append_getElem hj, List.foldl_append, List.getD_eq_getElem?_getD, List.getElem?_eq_getElem hj]; rfl
theorem pg_synced {b : List Int} {L : List Ev} {n p i : Nat} (hb : b.length = 256 * n) (hL : ∀ e ∈ L, e.ok n) (hp : p < n) (hi : i < L.length) (he : L.getD i .synced = .synced) : pgI (play b (L.take (i + 1))).1 p = (mineOf (play b (L.take i)).2 p).foldl (fun _ x => x.1.data) (pgI (play b (L.take i)).1 p) := by
 obtain ⟨h1, h2⟩ := play_ok hb (L.take i) (fun e h => hL e (List.mem_of_mem_take h))
 rw [play_step b L i hi, he]
 show pgI (layTo _ _ _) p = _
 rw [pg_layTo h1 h2 hp _ (Nat.le_refl _), List.take_length]
theorem pg_crashed {b : List Int} {L : List Ev} {n p i : Nat} (hb : b.length = 256 * n) (hL : ∀ e ∈ L, e.ok n) (hp : p < n) (hi : i < L.length) {fs : List Int} (he : L.getD i .synced = .crashed fs) : pgI (play b (L.take (i + 1))).1 p = (mineOf (play b (L.take i)).2 p).foldl (fun now x => if x.2 < fs.length then tornP now x.1.data (fateOf fs x.2) else now) (pgI (play b (L.take i)).1 p) := by
 obtain ⟨h1, h2⟩ := play_ok hb (L.take i) (fun e h => hL e (List.mem_of_mem_take h))
 rw [play_step b L i hi, he]
 show pgI (crashTo _ _ fs _) p = _
 rw [pg_crashTo fs h1 h2 hp _ (Nat.le_refl _), List.take_length]
theorem pg_flipped {b : List Int} {L : List Ev} {n p i : Nat} (hb : b.length = 256 * n) (hL : ∀ e ∈ L, e.ok n) (hp : p < n) (hi : i < L.length) {q bit pat : Nat} (he : L.getD i .synced = .flipped q bit pat) (hq : q < n) (hbit : bit < 2048) : pgI (play b (L.take (i + 1))).1 p = if q = p then flipP (pgI (play b (L.take i)).1 p) bit pat 32 else pgI (play b (L.take i)).1 p := by
 obtain ⟨h1, h2⟩ := play_ok hb (L.take i) (fun e h => hL e (List.mem_of_mem_take h))
 rw [play_step b L i hi, he]
 exact pg_flip h1 hp hq bit pat hbit
theorem pg_wrote {b : List Int} {L : List Ev} {p i : Nat} (hi : i < L.length) {q : Nat} {d : List Int} (he : L.getD i .synced = .wrote q d) : pgI (play b (L.take (i + 1))).1 p = pgI (play b (L.take i)).1 p := by
 rw [play_step b L i hi, he]; rfl
theorem reads_end {b : List Int} {L : List Ev} {p : Nat} {mine place : List Nat} (h : PgS b L p L.length mine place) (D : DS) (hD : play b L = (D.img, D.ops)) : D.readOf p = if mine.length = 0 then pgI D.img p else (L.getD (mine.getD (mine.length - 1) 0) .synced).data := by
 have ht : L.take L.length = L := List.take_length
 have hl := h.len
 rw [ht, hD] at hl
 rw [readOf_mine]
 by_cases e : mine.length = 0
 · rw [if_pos e]
   have : mineOf D.ops p = [] := List.eq_nil_of_length_eq_zero (by rw [← hl]; exact e)
   rw [this]; rfl
 · rw [if_neg e]
   obtain ⟨_, q2⟩ := h.mi (mine.length - 1) (by omega)
   rw [ht, hD] at q2
   rw [q2]
   have hlt : mine.length - 1 < (mineOf D.ops p).length := by rw [← hl]; omega
   have : (mineOf D.ops p).getLast? = some ((mineOf D.ops p).getD (mine.length - 1) dM) := by
     rw [List.getLast?_eq_getElem?, ← hl, List.getD_eq_getElem?_getD, List.getElem?_eq_getElem hlt]; rfl
   rw [this]; rfl
end
end Go.Proofs.YtjhocjjecfdphaaGreatDoor
