import Derived.Test.YtjbfaalaogdniaaGreatDoorIr1
namespace Go.Proofs.YtjbfaalaogdniaaGreatDoor
set_option linter.unusedVariables false
set_option linter.unusedSimpArgs false
open Go.RowKit
open Go.Proofs.YtjbfaalaogdniaaGreatDoor.Ca (Ct ct0 ctC argV AS)
attribute [local go_sem ↓] Go.wp_at_zero Go.wp_at_succ

set_option maxRecDepth 100000 in
set_option maxHeartbeats 2000000 in
theorem refused_any (w : World) (v : Value) (q n c : Int) (hc : c ≠ 0) (RD : Tel 23 #[v, .int .i64 q] w c) :
    Calls Tryz.prog 6 #[v, .int .i64 q, .int .i64 n, .int .i64 c] w fun e w' => e = .returned (.bool true) ∧ Below w.heap.size w w' := by
  have ADD := hid (iadd_bad w v q c ⟨n, n, 0, 0, 0, 0, zD⟩ hc RD)
  have FND := hid (fun w1 (hb : Below w.heap.size w w1) => ifind_bad w1 v q n c hc (RD.later hb))
  have BND := hid (fun w1 (hb : Below w.heap.size w w1) => ibounds_bad w1 v q c hc (RD.later hb))
  have LE := hid (Nat.le_refl w.heap.size)
  have AL := hid allocRc
  have LC := hid (rcC_len rc0_ok)
  have hO := hid (rcC_one rc0)
  have BR := hid built_rc0
  have hN := hid (show (Tryz.prog.info? 36).map (·.size) = some (rcC rc0).toArray.size by rw [Tryz.sizeRc, List.size_toArray, rcC_len rc0_ok])
  have EQ := hid (eqRc rc0 rc0_ok)
  have GR := hid Tryz.guardRc
  have BR2 := hid (built_rc2 n n)
  generalize hC2 : (rcC ⟨n, n, 0, 0, 0, 0, zD⟩).toArray = C2 at *
  generalize hC : rcC rc0 = C at *
  clear hC2 hC
  have e1 : (c == c) = true := by simp
  go_enter Tryz.func6, Tryz.ntmps6
  go_wp2_with (first | refine wpList_built (by rfl) 36 _ rfl _ rfl _ BR2.out ?_)
  refine ADD.out.mono ?_
  rintro e w1 ⟨rfl, hb1⟩
  have HB1 := hid hb1
  clear hb1
  clear ADD
  go_wp2_with fail
  refine (FND.out w1 HB1.out).mono ?_
  rintro e w2 ⟨rfl, hb2⟩
  have HB2 := hid (HB1.out.trans (hb2.mono HB1.out.size))
  clear hb2 FND
  go_wp2_with (first
    | (refine wpList_new AL.out LC.out Tryz.sizeRc rfl rfl rfl _ _ rfl rfl C rfl rfl LC.out hO.out ?_; refine Hid.out ?_))
  refine hid ?_
  have hr3 := hnew w2 (.cells C.toArray 36)
  have hb3 : Below w.heap.size w (w2.alloc (.cells C.toArray 36)) := HB2.out.alloc HB2.out.size _
  obtain ⟨G, hG⟩ : ∃ G, G = w2.heap.size := ⟨_, rfl⟩
  rw [← hG] at hr3 ⊢
  generalize w2.alloc (.cells C.toArray 36) = w3 at *
  have HR3 := hid hr3
  have HB3 := hid hb3
  clear hr3 hb3 hG
  go_wp2_with fail
  refine (BND.out w3 HB3.out).mono ?_
  rintro e w4 ⟨rfl, hb4⟩
  have R4 := hid ((hb4.block G (hlt HR3.out)).trans HR3.out)
  have HB4 := hid (HB3.out.trans (hb4.mono HB3.out.size))
  clear hb4 BND HR3
  have KQ := EQ.out
  have KG := GR.out
  go_wp2_with (first
    | refine wpList_load_row_w (by rfl) 36 _ (by rfl) _ (by rfl) 36 _ _ _ R4.out Tryz.underlying36 rfl hN.out ?_
    | refine wpList_built (by rfl) 36 _ rfl _ rfl _ BR.out ?_)
  go_ret
  exact ⟨rfl, HB4.out⟩
end Go.Proofs.YtjbfaalaogdniaaGreatDoor
