import Derived.Test.YtfogohpmphgkkaaDoorLg10
namespace Go.Proofs.YtfogohpmphgkkaaDoor
set_option linter.unusedVariables false
set_option linter.unusedSimpArgs false
open Go.RowKit Go.Extern.Stop Go.Stop Go.Extern
attribute [local go_sem ↓] Go.wp_at_zero Go.wp_at_succ

def noR : ByteArray := ⟨#[110, 111, 32, 114, 101, 97, 115, 111, 110]⟩
set_option maxRecDepth 100000 in
set_option maxHeartbeats 4000000 in
theorem ferr_nil (w : World) (hT : TabP w) (b : Nat) (c : ByteArray) (n : Int) (h0 : -9223372036854775808 ≤ n) (h1 : n ≤ 9223372036854775807) (hc : c.size ≤ 140737488351232) (f0 : w.cell? ⟨b, 0, none⟩ = some (.string c)) (f1 : w.cell? ⟨b, 1, none⟩ = some (.int .i64 n)) (f2 : w.cell? ⟨b, 2, none⟩ = some .nilIface) :
    Calls Tryd.prog 16 #[.pointer (some ⟨b, 0, none⟩)] w fun e w' => e = .returned (.string ((whereB c n ++ colon) ++ noR)) ∧ Below w.heap.size w w' := by
  have hO : ∀ (w : World), (binOp .neq 25 .nilIface .nilIface).run Tryd.prog w = .ok (.bool false) w := fun w => by kernel_rfl
  have P := hid (pwhere_any w hT c n h0 h1 hc)
  have hs := whereB_size c n h0 h1
  have a1 := strAdd (whereB c n) colon (by rw [show colon.size = 2 from rfl]; omega)
  have a2 := strAdd (whereB c n ++ colon) noR (by rw [ByteArray.size_append, show colon.size = 2 from rfl, show noR.size = 9 from rfl]; omega)
  unfold colon noR at *
  generalize whereB c n = u at *
  generalize u ++ (⟨#[58, 32]⟩ : ByteArray) = u2 at *
  generalize u2 ++ (⟨#[110, 111, 32, 114, 101, 97, 115, 111, 110]⟩ : ByteArray) = u3 at *
  clear hs
  go_enter Tryd.func16, Tryd.ntmps16
  go_wp2_with fail
  refine P.out.mono ?_
  rintro _ w1 ⟨rfl, hb⟩
  go_wp2
  go_ret
  exact ⟨rfl, hb⟩
set_option maxRecDepth 100000 in
set_option maxHeartbeats 4000000 in
theorem ferr_any (w : World) (hT : TabP w) (b : Nat) (c : ByteArray) (n : Int) (h0 : -9223372036854775808 ≤ n) (h1 : n ≤ 9223372036854775807) (hc : c.size ≤ 140737488351232) (t : TypeId) (x : Value) (m : FuncId) (s : ByteArray) (hsz : s.size ≤ 281474976710656) (f0 : w.cell? ⟨b, 0, none⟩ = some (.string c)) (f1 : w.cell? ⟨b, 1, none⟩ = some (.int .i64 n)) (f2 : w.cell? ⟨b, 2, none⟩ = some (.iface t x))
    (hM : ∀ w : World, (Go.method 225 t x "Error").run Tryd.prog w = .ok (m, x) w) (hEn : ∀ args (w : World), (callFunc m args).run Tryd.prog w = .ok (.enter m args) w) (hE : Calls Tryd.prog m #[x] w fun e w' => e = .returned (.string s) ∧ Below w.heap.size w w') :
    Calls Tryd.prog 16 #[.pointer (some ⟨b, 0, none⟩)] w fun e w' => e = .returned (.string ((whereB c n ++ colon) ++ s)) ∧ Below w.heap.size w w' := by
  have hN : ∀ (t : TypeId) (v : Value) (w : World), (binOp .neq 25 (.iface t v) .nilIface).run Tryd.prog w = .ok (.bool true) w := fun t v w => nil_neq Tryd.underlying25
  have P := hid (fun (w' : World) (hb : Below w.heap.size w w') => pwhere_any w' (hT.later hb) c n h0 h1 hc)
  have F0 := hid f0
  have F1 := hid f1
  replace hE := hid hE
  have hs := whereB_size c n h0 h1
  have a1 := strAdd (whereB c n) colon (by rw [show colon.size = 2 from rfl]; omega)
  have a2 := strAdd (whereB c n ++ colon) s (by rw [ByteArray.size_append, show colon.size = 2 from rfl]; omega)
  unfold colon at *
  generalize whereB c n = u at *
  generalize u ++ (⟨#[58, 32]⟩ : ByteArray) = u2 at *
  generalize u2 ++ s = u3 at *
  clear hs hsz
  go_enter Tryd.func16, Tryd.ntmps16
  go_wp2_with fail
  refine hE.out.mono ?_
  rintro _ w1 ⟨rfl, hb⟩
  have g0 := cellB hb F0.out
  have g1 := cellB hb F1.out
  replace hb := hid hb
  clear f0 f1 f2
  go_wp2_with fail
  refine (P.out w1 hb.out).mono ?_
  rintro _ w2 ⟨rfl, hb2⟩
  go_wp2
  go_ret
  exact ⟨rfl, bel3 hb.out hb2⟩
theorem Tryd.methodErrP (v : Value) (w : World) : (Go.method 225 34 v "Error").run Tryd.prog w = .ok (16, v) w := by kernel_rfl
theorem txt_size : ∀ i, i < 20 → (txt i).size ≤ 40 := by decide +kernel
theorem ferr_fx (w : World) (hT : TabP w) (A : Nat → Addr) (hS : Sen w A) (b : Nat) (c : ByteArray) (n : Int) (h0 : -9223372036854775808 ≤ n) (h1 : n ≤ 9223372036854775807) (hc : c.size ≤ 140737488351232) (i : Nat) (hi : i < 20) (f0 : w.cell? ⟨b, 0, none⟩ = some (.string c)) (f1 : w.cell? ⟨b, 1, none⟩ = some (.int .i64 n)) (f2 : w.cell? ⟨b, 2, none⟩ = some (.iface 88 (.pointer (some (A i))))) :
    Calls Tryd.prog 16 #[.pointer (some ⟨b, 0, none⟩)] w fun e w' => e = .returned (.string ((whereB c n ++ colon) ++ txt i)) ∧ Below w.heap.size w w' :=
  ferr_any w hT b c n h0 h1 hc 88 _ 71 (txt i) (by have := txt_size i hi; omega) f0 f1 f2 (Tryd.methodErr _) (enters_of Tryd.func71 (by kernel_rfl) rfl) ((error_any w (A i) (txt i) (hS.text i hi)).mono fun e w' ⟨h1, h2⟩ => ⟨h1, by rw [h2]; exact Below.refl _ _⟩)
theorem ferr_fa (w : World) (hT : TabP w) (A : Nat → Addr) (hS : Sen w A) (b b2 : Nat) (c : ByteArray) (n : Int) (h0 : -9223372036854775808 ≤ n) (h1 : n ≤ 9223372036854775807) (hc : c.size ≤ 140737488351232) (i : Nat) (hi : i < 20) (f0 : w.cell? ⟨b, 0, none⟩ = some (.string c)) (f1 : w.cell? ⟨b, 1, none⟩ = some (.int .i64 n)) (f2 : w.cell? ⟨b, 2, none⟩ = some (.iface 34 (.pointer (some ⟨b2, 0, none⟩))))
    (g0 : w.cell? ⟨b2, 0, none⟩ = some (.string c)) (g1 : w.cell? ⟨b2, 1, none⟩ = some (.int .i64 n)) (g2 : w.cell? ⟨b2, 2, none⟩ = some (.iface 88 (.pointer (some (A i))))) :
    Calls Tryd.prog 16 #[.pointer (some ⟨b, 0, none⟩)] w fun e w' => e = .returned (.string ((whereB c n ++ colon) ++ ((whereB c n ++ colon) ++ txt i))) ∧ Below w.heap.size w w' :=
  ferr_any w hT b c n h0 h1 hc 34 _ 16 _ (by have := txt_size i hi; have := whereB_size c n h0 h1; rw [ByteArray.size_append, ByteArray.size_append, show colon.size = 2 from rfl]; omega) f0 f1 f2 (Tryd.methodErrP _) (enters_of Tryd.func16 (by kernel_rfl) rfl) (ferr_fx w hT A hS b2 c n h0 h1 hc i hi g0 g1 g2)
set_option maxRecDepth 100000 in
set_option maxHeartbeats 4000000 in
theorem num_any (w : World) (A : Nat → Addr) (hS : Sen w A) (t : TypeId) (x : Value) (p : Nat → Bool) (c : Int) (hI : IsP w A (.iface t x) p) (hcd : CodeIs p c) :
    Calls Tryd.prog 17 #[.iface t x] w fun e w' => e = .returned (.int .i64 c) ∧ Below w.heap.size w w' := by
  have hN : ∀ (t : TypeId) (v : Value) (w : World), (binOp .eql 25 (.iface t v) .nilIface).run Tryd.prog w = .ok (.bool false) w := fun t v w => nil_other Tryd.underlying25
  replace hI := hid hI
  replace hcd := hid hcd
  go_enter Tryd.func17, Tryd.ntmps17
  go_wp2_with fail
  refine (list_any w A hS).mono ?_
  rintro e w1 ⟨rfl, rfl⟩
  have hB : Below w.heap.size w (w.alloc (.cells (lst A) 27)) := bel1 _ _
  have hS1 : Sen (w.alloc (.cells (lst A) 27)) A := hS.mono hB
  have hc : ∀ k v, (lst A)[k]? = some v → (w.alloc (.cells (lst A) 27)).cell? ⟨w.heap.size, k, none⟩ = some v := fun k v e => (World.cell?_alloc_at (w := w) (lst A) 27 w.heap.size k rfl).trans e
  have n0 : ∀ i, i < 20 → (w.alloc (.cells (lst A) 27)).cell? ⟨w.heap.size, i * 2, none⟩ = some (.int .i64 (nos i)) := fun i hi => hc _ _ (by rw [Nat.mul_comm]; exact lst_no A i hi)
  have n1 : ∀ i, i < 20 → (w.alloc (.cells (lst A) 27)).cell? ⟨w.heap.size, i * 2 + 1, none⟩ = some (.iface 88 (.pointer (some (A i)))) := fun i hi => hc _ _ (by rw [Nat.mul_comm]; exact lst_er A i hi)
  have hbe := hid hB
  generalize w.alloc (.cells (lst A) 27) = w1 at *
  generalize w.heap.size = b at hB n0 n1 ⊢
  replace n0 := hid n0
  replace n1 := hid n1
  replace hS1 := hid hS1
  clear hS hc hB
  go_wp2
  go_loopw [4] (fun i w' => ∃ k : Nat, k ≤ 20 ∧ i = .int .i64 k ∧ (∀ g, g < k → p g = false) ∧ Below w1.heap.size w1 w')
    (fun i _ => 20 - (intOf i).toNat)
  case atStart => exact ⟨0, by omega, rfl, fun g hg => by omega, Below.refl _ _⟩
  case round =>
    obtain ⟨k, hk, rfl, hp, hb⟩ := hrel
    replace hp := hid hp
    replace hb := hid hb
    by_cases hk2 : k < 20
    · have n0k : wr.cell? ⟨b, k * 2, none⟩ = some (.int .i64 (nos k)) := cellB hb.out (n0.out k hk2)
      have n1k : wr.cell? ⟨b, k * 2 + 1, none⟩ = some (.iface 88 (.pointer (some (A k)))) := cellB hb.out (n1.out k hk2)
      have hki : (k : Int) < 20 := by omega
      have I := hid (hI.out wr (bel3 hbe.out hb.out) k hk2)
      go_wp2_with fail
      refine (Is_any _ _ _ _ _ I.out).mono ?_
      rintro _ w2 ⟨rfl, hb2⟩
      replace n0k := cellB hb2 n0k
      replace hb2 := hid hb2
      clear n1k
      cases hpk : p k
      case true =>
        go_wp2
        go_ret
        refine ⟨?_, bel3 (bel3 hbe.out hb.out) hb2.out⟩
        rcases hcd.out with ⟨g0, h0, p0, q0, c0⟩ | ⟨q0, c0⟩
        · obtain rfl : g0 = k := by
            rcases Nat.lt_trichotomy g0 k with h | h | h
            · rw [hp.out g0 h] at p0; cases p0
            · exact h
            · rw [q0 k h] at hpk; cases hpk
          rw [c0]; rfl
        · rw [q0 k hk2] at hpk; cases hpk
      case false =>
        go_wp2
        go_roundw
        case rel => exact ⟨k + 1, by omega, by go_num, fun g hg => by
          by_cases h : g < k
          · exact hp.out g h
          · rw [show g = k by omega]; exact hpk, bel3 hb.out hb2.out⟩
        case measure => simp [intOf]; omega
    · obtain rfl : k = 20 := by omega
      go_wp2
      go_ret
      refine ⟨?_, bel3 hbe.out hb.out⟩
      rcases hcd.out with ⟨g0, h0, p0, q0, c0⟩ | ⟨q0, c0⟩
      · rw [hp.out g0 h0] at p0; cases p0
      · rw [c0]; rfl
set_option maxRecDepth 100000 in
set_option maxHeartbeats 4000000 in
theorem sentinel_at (w : World) (A : Nat → Addr) (hS : Sen w A) (i : Nat) (hi : i < 20) :
    Calls Tryd.prog 23 #[.int .i64 (nos i)] w fun e w' => e = .returned (.iface 88 (.pointer (some (A i)))) ∧ Below w.heap.size w w' := by
  go_enter Tryd.func23, Tryd.ntmps23
  go_wp2_with fail
  refine (list_any w A hS).mono ?_
  rintro e w1 ⟨rfl, rfl⟩
  have hB : Below w.heap.size w (w.alloc (.cells (lst A) 27)) := bel1 _ _
  have hS1 : Sen (w.alloc (.cells (lst A) 27)) A := hS.mono hB
  have hc : ∀ k v, (lst A)[k]? = some v → (w.alloc (.cells (lst A) 27)).cell? ⟨w.heap.size, k, none⟩ = some v := fun k v e => (World.cell?_alloc_at (w := w) (lst A) 27 w.heap.size k rfl).trans e
  have n0 : ∀ i, i < 20 → (w.alloc (.cells (lst A) 27)).cell? ⟨w.heap.size, i * 2, none⟩ = some (.int .i64 (nos i)) := fun i hi => hc _ _ (by rw [Nat.mul_comm]; exact lst_no A i hi)
  have n1 : ∀ i, i < 20 → (w.alloc (.cells (lst A) 27)).cell? ⟨w.heap.size, i * 2 + 1, none⟩ = some (.iface 88 (.pointer (some (A i)))) := fun i hi => hc _ _ (by rw [Nat.mul_comm]; exact lst_er A i hi)
  have hbe := hid hB
  generalize w.alloc (.cells (lst A) 27) = w1 at *
  generalize w.heap.size = b at hB n0 n1 ⊢
  replace n0 := hid n0
  replace n1 := hid n1
  replace hS1 := hid hS1
  clear hS hc hB
  go_wp2
  go_loopw [4] (fun j w' => ∃ k : Nat, k ≤ i ∧ j = .int .i64 k ∧ w' = w1)
    (fun j _ => 20 - (intOf j).toNat)
  case atStart => exact ⟨0, by omega, rfl, rfl⟩
  case round =>
    obtain ⟨k, hk, rfl, rfl⟩ := hrel
    have hk2 : k < 20 := by omega
    have n0k : wr.cell? ⟨b, k * 2, none⟩ = some (.int .i64 (nos k)) := n0.out k hk2
    have n1k : wr.cell? ⟨b, k * 2 + 1, none⟩ = some (.iface 88 (.pointer (some (A k)))) := n1.out k hk2
    have hki : (k : Int) < 20 := by omega
    by_cases h : k = i
    · subst h
      go_wp2
      go_ret
      exact ⟨rfl, hbe.out⟩
    · have hne : (nos k == nos i) = false := by simpa using fun e => h (nos_inj hk2 hi e)
      go_wp2
      go_roundw
      case rel => exact ⟨k + 1, by omega, by go_num, trivial⟩
      case measure => simp [intOf]; omega
set_option maxRecDepth 100000 in
set_option maxHeartbeats 4000000 in
theorem rfixed_0 (w : World) : Calls Tryd.prog 14 #[.int .i64 1] w fun e w' => e = .returned (.int .i64 1) ∧ w' = w := by
  go_enter Tryd.func14, Tryd.ntmps14
  go_wp2
  go_ret
  exact ⟨rfl, rfl⟩
set_option maxRecDepth 100000 in
set_option maxHeartbeats 4000000 in
theorem rfixed_1 (w : World) : Calls Tryd.prog 14 #[.int .i64 2] w fun e w' => e = .returned (.int .i64 2) ∧ w' = w := by
  go_enter Tryd.func14, Tryd.ntmps14
  go_wp2
  go_ret
  exact ⟨rfl, rfl⟩
set_option maxRecDepth 100000 in
set_option maxHeartbeats 4000000 in
theorem rfixed_2 (w : World) : Calls Tryd.prog 14 #[.int .i64 3] w fun e w' => e = .returned (.int .i64 3) ∧ w' = w := by
  go_enter Tryd.func14, Tryd.ntmps14
  go_wp2
  go_ret
  exact ⟨rfl, rfl⟩
set_option maxRecDepth 100000 in
set_option maxHeartbeats 4000000 in
theorem rfixed_3 (w : World) : Calls Tryd.prog 14 #[.int .i64 4] w fun e w' => e = .returned (.int .i64 4) ∧ w' = w := by
  go_enter Tryd.func14, Tryd.ntmps14
  go_wp2
  go_ret
  exact ⟨rfl, rfl⟩
set_option maxRecDepth 100000 in
set_option maxHeartbeats 4000000 in
theorem rfixed_4 (w : World) : Calls Tryd.prog 14 #[.int .i64 5] w fun e w' => e = .returned (.int .i64 5) ∧ w' = w := by
  go_enter Tryd.func14, Tryd.ntmps14
  go_wp2
  go_ret
  exact ⟨rfl, rfl⟩
set_option maxRecDepth 100000 in
set_option maxHeartbeats 4000000 in
theorem rfixed_5 (w : World) : Calls Tryd.prog 14 #[.int .i64 30] w fun e w' => e = .returned (.int .i64 30) ∧ w' = w := by
  go_enter Tryd.func14, Tryd.ntmps14
  go_wp2
  go_ret
  exact ⟨rfl, rfl⟩
set_option maxRecDepth 100000 in
set_option maxHeartbeats 4000000 in
theorem rfixed_6 (w : World) : Calls Tryd.prog 14 #[.int .i64 31] w fun e w' => e = .returned (.int .i64 31) ∧ w' = w := by
  go_enter Tryd.func14, Tryd.ntmps14
  go_wp2
  go_ret
  exact ⟨rfl, rfl⟩
set_option maxRecDepth 100000 in
set_option maxHeartbeats 4000000 in
theorem rfixed_7 (w : World) : Calls Tryd.prog 14 #[.int .i64 32] w fun e w' => e = .returned (.int .i64 32) ∧ w' = w := by
  go_enter Tryd.func14, Tryd.ntmps14
  go_wp2
  go_ret
  exact ⟨rfl, rfl⟩
set_option maxRecDepth 100000 in
set_option maxHeartbeats 4000000 in
theorem rfixed_8 (w : World) : Calls Tryd.prog 14 #[.int .i64 33] w fun e w' => e = .returned (.int .i64 33) ∧ w' = w := by
  go_enter Tryd.func14, Tryd.ntmps14
  go_wp2
  go_ret
  exact ⟨rfl, rfl⟩
set_option maxRecDepth 100000 in
set_option maxHeartbeats 4000000 in
theorem rfixed_9 (w : World) : Calls Tryd.prog 14 #[.int .i64 55] w fun e w' => e = .returned (.int .i64 55) ∧ w' = w := by
  go_enter Tryd.func14, Tryd.ntmps14
  go_wp2
  go_ret
  exact ⟨rfl, rfl⟩
set_option maxRecDepth 100000 in
set_option maxHeartbeats 4000000 in
theorem rfixed_10 (w : World) : Calls Tryd.prog 14 #[.int .i64 60] w fun e w' => e = .returned (.int .i64 60) ∧ w' = w := by
  go_enter Tryd.func14, Tryd.ntmps14
  go_wp2
  go_ret
  exact ⟨rfl, rfl⟩
set_option maxRecDepth 100000 in
set_option maxHeartbeats 4000000 in
theorem rfixed_11 (w : World) : Calls Tryd.prog 14 #[.int .i64 110] w fun e w' => e = .returned (.int .i64 110) ∧ w' = w := by
  go_enter Tryd.func14, Tryd.ntmps14
  go_wp2
  go_ret
  exact ⟨rfl, rfl⟩
set_option maxRecDepth 100000 in
set_option maxHeartbeats 4000000 in
theorem rfixed_12 (w : World) : Calls Tryd.prog 14 #[.int .i64 151] w fun e w' => e = .returned (.int .i64 151) ∧ w' = w := by
  go_enter Tryd.func14, Tryd.ntmps14
  go_wp2
  go_ret
  exact ⟨rfl, rfl⟩
set_option maxRecDepth 100000 in
set_option maxHeartbeats 4000000 in
theorem rfixed_13 (w : World) : Calls Tryd.prog 14 #[.int .i64 152] w fun e w' => e = .returned (.int .i64 152) ∧ w' = w := by
  go_enter Tryd.func14, Tryd.ntmps14
  go_wp2
  go_ret
  exact ⟨rfl, rfl⟩
set_option maxRecDepth 100000 in
set_option maxHeartbeats 4000000 in
theorem rfixed_14 (w : World) : Calls Tryd.prog 14 #[.int .i64 160] w fun e w' => e = .returned (.int .i64 160) ∧ w' = w := by
  go_enter Tryd.func14, Tryd.ntmps14
  go_wp2
  go_ret
  exact ⟨rfl, rfl⟩
set_option maxRecDepth 100000 in
set_option maxHeartbeats 4000000 in
theorem rfixed_15 (w : World) : Calls Tryd.prog 14 #[.int .i64 180] w fun e w' => e = .returned (.int .i64 180) ∧ w' = w := by
  go_enter Tryd.func14, Tryd.ntmps14
  go_wp2
  go_ret
  exact ⟨rfl, rfl⟩
set_option maxRecDepth 100000 in
set_option maxHeartbeats 4000000 in
theorem rfixed_16 (w : World) : Calls Tryd.prog 14 #[.int .i64 181] w fun e w' => e = .returned (.int .i64 181) ∧ w' = w := by
  go_enter Tryd.func14, Tryd.ntmps14
  go_wp2
  go_ret
  exact ⟨rfl, rfl⟩
set_option maxRecDepth 100000 in
set_option maxHeartbeats 4000000 in
theorem rfixed_17 (w : World) : Calls Tryd.prog 14 #[.int .i64 190] w fun e w' => e = .returned (.int .i64 190) ∧ w' = w := by
  go_enter Tryd.func14, Tryd.ntmps14
  go_wp2
  go_ret
  exact ⟨rfl, rfl⟩
set_option maxRecDepth 100000 in
set_option maxHeartbeats 4000000 in
theorem rfixed_18 (w : World) : Calls Tryd.prog 14 #[.int .i64 191] w fun e w' => e = .returned (.int .i64 191) ∧ w' = w := by
  go_enter Tryd.func14, Tryd.ntmps14
  go_wp2
  go_ret
  exact ⟨rfl, rfl⟩
set_option maxRecDepth 100000 in
set_option maxHeartbeats 4000000 in
theorem rfixed_19 (w : World) : Calls Tryd.prog 14 #[.int .i64 192] w fun e w' => e = .returned (.int .i64 192) ∧ w' = w := by
  go_enter Tryd.func14, Tryd.ntmps14
  go_wp2
  go_ret
  exact ⟨rfl, rfl⟩
theorem rfixed_at (w : World) (i : Nat) (hi : i < 20) : Calls Tryd.prog 14 #[.int .i64 (nos i)] w fun e w' => e = .returned (.int .i64 (nos i)) ∧ w' = w := by
  have : i = 0 ∨ i = 1 ∨ i = 2 ∨ i = 3 ∨ i = 4 ∨ i = 5 ∨ i = 6 ∨ i = 7 ∨ i = 8 ∨ i = 9 ∨ i = 10 ∨ i = 11 ∨ i = 12 ∨ i = 13 ∨ i = 14 ∨ i = 15 ∨ i = 16 ∨ i = 17 ∨ i = 18 ∨ i = 19 := by omega
  rcases this with h | h | h | h | h | h | h | h | h | h | h | h | h | h | h | h | h | h | h | h <;> subst h
  · exact rfixed_0 w
  · exact rfixed_1 w
  · exact rfixed_2 w
  · exact rfixed_3 w
  · exact rfixed_4 w
  · exact rfixed_5 w
  · exact rfixed_6 w
  · exact rfixed_7 w
  · exact rfixed_8 w
  · exact rfixed_9 w
  · exact rfixed_10 w
  · exact rfixed_11 w
  · exact rfixed_12 w
  · exact rfixed_13 w
  · exact rfixed_14 w
  · exact rfixed_15 w
  · exact rfixed_16 w
  · exact rfixed_17 w
  · exact rfixed_18 w
  · exact rfixed_19 w
set_option maxRecDepth 100000 in
set_option maxHeartbeats 4000000 in
theorem rfixed_none (w : World) (e : Int) (h : ∀ i, i < 20 → e ≠ nos i) : Calls Tryd.prog 14 #[.int .i64 e] w fun r w' => r = .returned (.int .i64 4) ∧ w' = w := by
  have h0 : (e == 1) = false := by have := h 0 (by decide); simpa [nos] using this
  have h1 : (e == 2) = false := by have := h 1 (by decide); simpa [nos] using this
  have h2 : (e == 3) = false := by have := h 2 (by decide); simpa [nos] using this
  have h3 : (e == 4) = false := by have := h 3 (by decide); simpa [nos] using this
  have h4 : (e == 5) = false := by have := h 4 (by decide); simpa [nos] using this
  have h5 : (e == 30) = false := by have := h 5 (by decide); simpa [nos] using this
  have h6 : (e == 31) = false := by have := h 6 (by decide); simpa [nos] using this
  have h7 : (e == 32) = false := by have := h 7 (by decide); simpa [nos] using this
  have h8 : (e == 33) = false := by have := h 8 (by decide); simpa [nos] using this
  have h9 : (e == 55) = false := by have := h 9 (by decide); simpa [nos] using this
  have h10 : (e == 60) = false := by have := h 10 (by decide); simpa [nos] using this
  have h11 : (e == 110) = false := by have := h 11 (by decide); simpa [nos] using this
  have h12 : (e == 151) = false := by have := h 12 (by decide); simpa [nos] using this
  have h13 : (e == 152) = false := by have := h 13 (by decide); simpa [nos] using this
  have h14 : (e == 160) = false := by have := h 14 (by decide); simpa [nos] using this
  have h15 : (e == 180) = false := by have := h 15 (by decide); simpa [nos] using this
  have h16 : (e == 181) = false := by have := h 16 (by decide); simpa [nos] using this
  have h17 : (e == 190) = false := by have := h 17 (by decide); simpa [nos] using this
  have h18 : (e == 191) = false := by have := h 18 (by decide); simpa [nos] using this
  have h19 : (e == 192) = false := by have := h 19 (by decide); simpa [nos] using this
  clear h
  go_enter Tryd.func14, Tryd.ntmps14
  go_wp2
  go_ret
  exact ⟨rfl, rfl⟩
set_option maxRecDepth 100000 in
set_option maxHeartbeats 4000000 in
theorem wrap_none (w : World) (A : Nat → Addr) (hS : Sen w A) (c : ByteArray) (at_ : Int) (e : Int) (h0 : e ≠ 0) (h : ∀ i, i < 20 → e ≠ nos i) :
    Calls Tryd.prog 9 #[.string c, .int .i64 at_, .int .i64 e] w fun r w' => r = .returned (.iface 34 (.pointer (some ⟨w.heap.size, 0, none⟩))) ∧ w' = w.alloc (.cells #[.string c, .int .i64 at_, .iface 88 (.pointer (some (A 3)))] 39) := by
  have hO : ∀ (w : World), (binOp .eql 25 .nilIface .nilIface).run Tryd.prog w = .ok (.bool true) w := fun w => by kernel_rfl
  have he : (e == 0) = false := by simpa using h0
  have F := hid (fixed_none w e h)
  have c3 : w.cell? ⟨3, 0, none⟩ = some (.iface 88 (.pointer (some (A 3)))) := hS.cell 3 (by decide)
  generalize A 3 = a at *
  clear h h0
  go_enter Tryd.func9, Tryd.ntmps9
  go_wp2_with fail
  refine F.out.mono ?_
  rintro _ _ ⟨rfl, rfl⟩
  go_wp2
  go_ret
  exact ⟨rfl, rfl⟩
theorem wrap_zero (w : World) (c : ByteArray) (at_ : Int) :
    Calls Tryd.prog 9 #[.string c, .int .i64 at_, .int .i64 0] w fun r w' => r = .returned .nilIface ∧ w' = w := by
  go_enter Tryd.func9, Tryd.ntmps9
  go_wp2
  go_ret
  exact ⟨rfl, rfl⟩
theorem code_nil (w : World) : Calls Tryd.prog 8 #[.nilIface] w fun r w' => r = .returned (.int .i64 0) ∧ w' = w := by
  have hO : ∀ (w : World), (binOp .eql 25 .nilIface .nilIface).run Tryd.prog w = .ok (.bool true) w := fun w => by kernel_rfl
  go_enter Tryd.func8, Tryd.ntmps8
  go_wp2
  go_ret
  exact ⟨rfl, rfl⟩
set_option maxRecDepth 100000 in
set_option maxHeartbeats 4000000 in
theorem fault_any (w : World) (hT : TabP w) (A : Nat → Addr) (hS : Sen w A) (b : Nat) (c : ByteArray) (n : Int) (h0 : -9223372036854775808 ≤ n) (h1 : n ≤ 9223372036854775807) (hc : c.size ≤ 140737488351232) (i : Nat) (hi : i < 20) (f0 : w.cell? ⟨b, 0, none⟩ = some (.string c)) (f1 : w.cell? ⟨b, 1, none⟩ = some (.int .i64 n)) (f2 : w.cell? ⟨b, 2, none⟩ = some (.iface 88 (.pointer (some (A i))))) :
    Calls Tryd.prog 15 #[.iface 34 (.pointer (some ⟨b, 0, none⟩)), .int .i64 (nos i), .string c, .int .i64 n] w fun e w' => e = .returned (.bool true) ∧ Below w.heap.size w w' := by
  have hN : ∀ (t : TypeId) (v : Value) (w : World), (binOp .eql 25 (.iface t v) .nilIface).run Tryd.prog w = .ok (.bool false) w := fun t v w => nil_other Tryd.underlying25
  have hz : (nos i == 0) = false := by have := (nos_lo i hi).1; simp; omega
  have HT := hid hT
  have hE := er_same_neq (A i)
  have hTA := Tryd.assertFault
  have X := hid (num_any w A hS 34 _ _ (nos i) (isP_fa1 hS b hi f2) (codeIs_one hi))
  have HS0 := hid hS
  clear hT hS
  go_enter Tryd.func15, Tryd.ntmps15
  go_wp2_with fail
  refine X.out.mono ?_
  rintro _ w1 ⟨rfl, hb1⟩
  have HB1 := hid hb1
  have HS := hid (HS0.out.mono hb1)
  replace f0 := cellB hb1 f0
  replace f1 := cellB hb1 f1
  replace f2 := cellB hb1 f2
  clear hb1 X HS0
  go_wp2_with fail
  refine wp_region_noPanic ?_
  refine wp_region_held_drew (S := fun w' => Below w1.heap.size w1 w') (by kernel_rfl) (Below.refl _ _).drew (fun hHeld => ?_)
  refine wpAnyH_take (i := 0) (oi := { dst := some 28, op := Op.move (Operand.tmp 10), type := 4, pos := "law.go:87", after := #[], guard := none }) (v := .bool true) rfl (by kernel_rfl) (by kernel_rfl) (by kernel_rfl) (fun _ _ _ h => h) (Or.inl ⟨by rfl, by intro w hS; go_simp⟩) hHeld ?_
  try simp only [Act.put, List.setIfInBounds_toArray, List.set_cons_zero, List.set_cons_succ]
  refine wpAnyH_take (i := 1) (oi := { dst := some 29, op := Op.unOp UnOp.not 4 (Operand.tmp 28), type := 4, pos := "law.go:87", after := #[{ on := 0, ground := Ground.data }], guard := none }) (v := .bool false) rfl (by kernel_rfl) (by kernel_rfl) (by kernel_rfl) (fun _ _ _ h => h) (Or.inl ⟨by rfl, by intro w hS; go_simp⟩) hHeld ?_
  try simp only [Act.put, List.setIfInBounds_toArray, List.set_cons_zero, List.set_cons_succ]
  refine wpAnyH_take (i := 2) (oi := { dst := some 30, op := Op.move (Operand.tmp 29), type := 4, pos := "law.go:87", after := #[{ on := 1, ground := Ground.data }], guard := none }) (v := .bool false) rfl (by kernel_rfl) (by kernel_rfl) (by kernel_rfl) (fun _ _ _ h => h) (Or.inl ⟨by rfl, by intro w hS; go_simp⟩) hHeld ?_
  try simp only [Act.put, List.setIfInBounds_toArray, List.set_cons_zero, List.set_cons_succ]
  refine wpAnyH_take (i := 3) (oi := { dst := some 31, op := Op.move (Operand.tmp 9), type := 34, pos := "law.go:87", after := #[{ on := 2, ground := Ground.guard }], guard := some (2, false) }) (v := .pointer (some ⟨b, 0, none⟩)) rfl (by kernel_rfl) (by kernel_rfl) (by kernel_rfl) (fun _ _ _ h => h) (Or.inl ⟨by rfl, by intro w hS; go_simp⟩) hHeld ?_
  try simp only [Act.put, List.setIfInBounds_toArray, List.set_cons_zero, List.set_cons_succ]
  refine wpAnyH_take (i := 4) (oi := { dst := some 32, op := Op.binOp BinOp.eql 34 (Operand.tmp 31) (Operand.const (Value.pointer none)) 34, type := 4, pos := "law.go:87", after := #[{ on := 3, ground := Ground.data }, { on := 2, ground := Ground.guard }], guard := some (2, false) }) (v := .bool false) rfl (by kernel_rfl) (by kernel_rfl) (by kernel_rfl) (fun _ _ _ h => h) (Or.inl ⟨by rfl, by intro w hS; go_simp⟩) hHeld ?_
  try simp only [Act.put, List.setIfInBounds_toArray, List.set_cons_zero, List.set_cons_succ]
  refine wpAnyH_take (i := 5) (oi := { dst := some 33, op := Op.pick (Operand.tmp 30) (Operand.const (Value.bool true)) (Operand.tmp 32), type := 4, pos := "law.go:87", after := #[{ on := 2, ground := Ground.data }, { on := 4, ground := Ground.data }], guard := none }) (v := .bool false) rfl (by kernel_rfl) (by kernel_rfl) (by kernel_rfl) (fun _ _ _ h => h) (Or.inl ⟨by rfl, by intro w hS; go_simp⟩) hHeld ?_
  try simp only [Act.put, List.setIfInBounds_toArray, List.set_cons_zero, List.set_cons_succ]
  refine wpAnyH_take (i := 6) (oi := { dst := some 34, op := Op.move (Operand.tmp 33), type := 4, pos := "law.go:87", after := #[{ on := 5, ground := Ground.data }, { on := 2, ground := Ground.chain }], guard := none }) (v := .bool false) rfl (by kernel_rfl) (by kernel_rfl) (by kernel_rfl) (fun _ _ _ h => h) (Or.inl ⟨by rfl, by intro w hS; go_simp⟩) hHeld ?_
  try simp only [Act.put, List.setIfInBounds_toArray, List.set_cons_zero, List.set_cons_succ]
  refine wpAnyH_take (i := 7) (oi := { dst := some 35, op := Op.move (Operand.tmp 9), type := 34, pos := "law.go:87", after := #[{ on := 6, ground := Ground.guard }], guard := some (6, false) }) (v := .pointer (some ⟨b, 0, none⟩)) rfl (by kernel_rfl) (by kernel_rfl) (by kernel_rfl) (fun _ _ _ h => h) (Or.inl ⟨by rfl, by intro w hS; go_simp⟩) hHeld ?_
  try simp only [Act.put, List.setIfInBounds_toArray, List.set_cons_zero, List.set_cons_succ]
  refine wpAnyH_take (i := 12) (oi := { dst := some 40, op := Op.move (Operand.tmp 2), type := 9, pos := "law.go:87", after := #[{ on := 6, ground := Ground.guard }], guard := some (6, false) }) (v := .string c) rfl (by kernel_rfl) (by kernel_rfl) (by kernel_rfl) (fun _ _ _ h => h) (Or.inl ⟨by rfl, by intro w hS; go_simp⟩) hHeld ?_
  try simp only [Act.put, List.setIfInBounds_toArray, List.set_cons_zero, List.set_cons_succ]
  refine wpAnyH_take (i := 8) (oi := { dst := some 36, op := Op.nilCheck (Operand.tmp 35), type := 0, pos := "law.go:87", after := #[{ on := 7, ground := Ground.data }, { on := 6, ground := Ground.guard }], guard := some (6, false) }) (v := .pointer (some ⟨b, 0, none⟩)) rfl (by kernel_rfl) (by kernel_rfl) (by kernel_rfl) (fun _ _ _ h => h) (Or.inl ⟨by rfl, by intro w hS; go_simp⟩) hHeld ?_
  try simp only [Act.put, List.setIfInBounds_toArray, List.set_cons_zero, List.set_cons_succ]
  refine wpAnyH_take (i := 9) (oi := { dst := some 37, op := Op.fieldAddr 39 (Operand.tmp 36) 0, type := 0, pos := "law.go:87", after := #[{ on := 8, ground := Ground.data }, { on := 6, ground := Ground.guard }], guard := some (6, false) }) (v := .pointer (some ⟨b, 0, none⟩)) rfl (by kernel_rfl) (by kernel_rfl) (by kernel_rfl) (fun _ _ _ h => h) (Or.inl ⟨by rfl, by intro w hS; go_simp⟩) hHeld ?_
  try simp only [Act.put, List.setIfInBounds_toArray, List.set_cons_zero, List.set_cons_succ]
  refine wpAnyH_take (i := 10) (oi := { dst := some 38, op := Op.fieldAddr 37 (Operand.tmp 37) 0, type := 0, pos := "law.go:87", after := #[{ on := 9, ground := Ground.data }, { on := 6, ground := Ground.guard }], guard := some (6, false) }) (v := .pointer (some ⟨b, 0, none⟩)) rfl (by kernel_rfl) (by kernel_rfl) (by kernel_rfl) (fun _ _ _ h => h) (Or.inl ⟨by rfl, by intro w hS; go_simp⟩) hHeld ?_
  try simp only [Act.put, List.setIfInBounds_toArray, List.set_cons_zero, List.set_cons_succ]
  refine wpAnyH_take (i := 11) (oi := { dst := some 39, op := Op.load 9 (Operand.tmp 38), type := 9, pos := "law.go:87", after := #[{ on := 10, ground := Ground.data }, { on := 6, ground := Ground.guard }], guard := some (6, false) }) (v := .string c) rfl (by kernel_rfl) (by kernel_rfl) (by kernel_rfl) (fun _ _ _ h => h) (Or.inl ⟨by rfl, by intro w hS; have hc := ((hS.cell (block_lt_of_cell f0)).trans f0); go_simp⟩) hHeld ?_
  try simp only [Act.put, List.setIfInBounds_toArray, List.set_cons_zero, List.set_cons_succ]
  refine wpAnyH_take (i := 13) (oi := { dst := some 41, op := Op.binOp BinOp.neq 9 (Operand.tmp 39) (Operand.tmp 40) 9, type := 4, pos := "law.go:87", after := #[{ on := 11, ground := Ground.data }, { on := 12, ground := Ground.data }, { on := 6, ground := Ground.guard }], guard := some (6, false) }) (v := .bool false) rfl (by kernel_rfl) (by kernel_rfl) (by kernel_rfl) (fun _ _ _ h => h) (Or.inl ⟨by rfl, by intro w hS; go_simp⟩) hHeld ?_
  try simp only [Act.put, List.setIfInBounds_toArray, List.set_cons_zero, List.set_cons_succ]
  refine wpAnyH_take (i := 14) (oi := { dst := some 42, op := Op.pick (Operand.tmp 34) (Operand.const (Value.bool true)) (Operand.tmp 41), type := 4, pos := "law.go:87", after := #[{ on := 6, ground := Ground.data }, { on := 13, ground := Ground.data }], guard := none }) (v := .bool false) rfl (by kernel_rfl) (by kernel_rfl) (by kernel_rfl) (fun _ _ _ h => h) (Or.inl ⟨by rfl, by intro w hS; go_simp⟩) hHeld ?_
  try simp only [Act.put, List.setIfInBounds_toArray, List.set_cons_zero, List.set_cons_succ]
  refine wpAnyH_take (i := 15) (oi := { dst := some 43, op := Op.move (Operand.tmp 42), type := 4, pos := "law.go:87", after := #[{ on := 14, ground := Ground.data }, { on := 6, ground := Ground.chain }], guard := none }) (v := .bool false) rfl (by kernel_rfl) (by kernel_rfl) (by kernel_rfl) (fun _ _ _ h => h) (Or.inl ⟨by rfl, by intro w hS; go_simp⟩) hHeld ?_
  try simp only [Act.put, List.setIfInBounds_toArray, List.set_cons_zero, List.set_cons_succ]
  refine wpAnyH_take (i := 16) (oi := { dst := some 44, op := Op.move (Operand.tmp 9), type := 34, pos := "law.go:87", after := #[{ on := 15, ground := Ground.guard }], guard := some (15, false) }) (v := .pointer (some ⟨b, 0, none⟩)) rfl (by kernel_rfl) (by kernel_rfl) (by kernel_rfl) (fun _ _ _ h => h) (Or.inl ⟨by rfl, by intro w hS; go_simp⟩) hHeld ?_
  try simp only [Act.put, List.setIfInBounds_toArray, List.set_cons_zero, List.set_cons_succ]
  refine wpAnyH_take (i := 21) (oi := { dst := some 49, op := Op.move (Operand.tmp 3), type := 3, pos := "law.go:87", after := #[{ on := 15, ground := Ground.guard }], guard := some (15, false) }) (v := .int .i64 n) rfl (by kernel_rfl) (by kernel_rfl) (by kernel_rfl) (fun _ _ _ h => h) (Or.inl ⟨by rfl, by intro w hS; go_simp⟩) hHeld ?_
  try simp only [Act.put, List.setIfInBounds_toArray, List.set_cons_zero, List.set_cons_succ]
  refine wpAnyH_take (i := 17) (oi := { dst := some 45, op := Op.nilCheck (Operand.tmp 44), type := 0, pos := "law.go:87", after := #[{ on := 16, ground := Ground.data }, { on := 15, ground := Ground.guard }], guard := some (15, false) }) (v := .pointer (some ⟨b, 0, none⟩)) rfl (by kernel_rfl) (by kernel_rfl) (by kernel_rfl) (fun _ _ _ h => h) (Or.inl ⟨by rfl, by intro w hS; go_simp⟩) hHeld ?_
  try simp only [Act.put, List.setIfInBounds_toArray, List.set_cons_zero, List.set_cons_succ]
  refine wpAnyH_take (i := 18) (oi := { dst := some 46, op := Op.fieldAddr 39 (Operand.tmp 45) 0, type := 0, pos := "law.go:87", after := #[{ on := 17, ground := Ground.data }, { on := 15, ground := Ground.guard }], guard := some (15, false) }) (v := .pointer (some ⟨b, 0, none⟩)) rfl (by kernel_rfl) (by kernel_rfl) (by kernel_rfl) (fun _ _ _ h => h) (Or.inl ⟨by rfl, by intro w hS; go_simp⟩) hHeld ?_
  try simp only [Act.put, List.setIfInBounds_toArray, List.set_cons_zero, List.set_cons_succ]
  refine wpAnyH_take (i := 19) (oi := { dst := some 47, op := Op.fieldAddr 37 (Operand.tmp 46) 1, type := 0, pos := "law.go:87", after := #[{ on := 18, ground := Ground.data }, { on := 15, ground := Ground.guard }], guard := some (15, false) }) (v := .pointer (some ⟨b, 1, none⟩)) rfl (by kernel_rfl) (by kernel_rfl) (by kernel_rfl) (fun _ _ _ h => h) (Or.inl ⟨by rfl, by intro w hS; go_simp⟩) hHeld ?_
  try simp only [Act.put, List.setIfInBounds_toArray, List.set_cons_zero, List.set_cons_succ]
  refine wpAnyH_take (i := 20) (oi := { dst := some 48, op := Op.load 3 (Operand.tmp 47), type := 3, pos := "law.go:87", after := #[{ on := 19, ground := Ground.data }, { on := 15, ground := Ground.guard }], guard := some (15, false) }) (v := .int .i64 n) rfl (by kernel_rfl) (by kernel_rfl) (by kernel_rfl) (fun _ _ _ h => h) (Or.inl ⟨by rfl, by intro w hS; have hc := ((hS.cell (block_lt_of_cell f1)).trans f1); go_simp⟩) hHeld ?_
  try simp only [Act.put, List.setIfInBounds_toArray, List.set_cons_zero, List.set_cons_succ]
  refine wpAnyH_take (i := 22) (oi := { dst := some 50, op := Op.binOp BinOp.neq 3 (Operand.tmp 48) (Operand.tmp 49) 3, type := 4, pos := "law.go:87", after := #[{ on := 20, ground := Ground.data }, { on := 21, ground := Ground.data }, { on := 15, ground := Ground.guard }], guard := some (15, false) }) (v := .bool false) rfl (by kernel_rfl) (by kernel_rfl) (by kernel_rfl) (fun _ _ _ h => h) (Or.inl ⟨by rfl, by intro w hS; go_simp⟩) hHeld ?_
  try simp only [Act.put, List.setIfInBounds_toArray, List.set_cons_zero, List.set_cons_succ]
  refine wpAnyH_take (i := 23) (oi := { dst := some 51, op := Op.pick (Operand.tmp 43) (Operand.const (Value.bool true)) (Operand.tmp 50), type := 4, pos := "law.go:87", after := #[{ on := 15, ground := Ground.data }, { on := 22, ground := Ground.data }], guard := none }) (v := .bool false) rfl (by kernel_rfl) (by kernel_rfl) (by kernel_rfl) (fun _ _ _ h => h) (Or.inl ⟨by rfl, by intro w hS; go_simp⟩) hHeld ?_
  try simp only [Act.put, List.setIfInBounds_toArray, List.set_cons_zero, List.set_cons_succ]
  refine wpAnyH_take (i := 24) (oi := { dst := some 52, op := Op.move (Operand.tmp 51), type := 4, pos := "law.go:87", after := #[{ on := 23, ground := Ground.data }, { on := 15, ground := Ground.chain }], guard := none }) (v := .bool false) rfl (by kernel_rfl) (by kernel_rfl) (by kernel_rfl) (fun _ _ _ h => h) (Or.inl ⟨by rfl, by intro w hS; go_simp⟩) hHeld ?_
  try simp only [Act.put, List.setIfInBounds_toArray, List.set_cons_zero, List.set_cons_succ]
  refine wpAnyH_take (i := 25) (oi := { dst := some 53, op := Op.move (Operand.tmp 9), type := 34, pos := "law.go:87", after := #[{ on := 24, ground := Ground.guard }], guard := some (24, false) }) (v := .pointer (some ⟨b, 0, none⟩)) rfl (by kernel_rfl) (by kernel_rfl) (by kernel_rfl) (fun _ _ _ h => h) (Or.inl ⟨by rfl, by intro w hS; go_simp⟩) hHeld ?_
  try simp only [Act.put, List.setIfInBounds_toArray, List.set_cons_zero, List.set_cons_succ]
  refine wpAnyH_take (i := 29) (oi := { dst := some 57, op := Op.move (Operand.tmp 1), type := 3, pos := "law.go:87", after := #[{ on := 24, ground := Ground.guard }], guard := some (24, false) }) (v := .int .i64 (nos i)) rfl (by kernel_rfl) (by kernel_rfl) (by kernel_rfl) (fun _ _ _ h => h) (Or.inl ⟨by rfl, by intro w hS; go_simp⟩) hHeld ?_
  try simp only [Act.put, List.setIfInBounds_toArray, List.set_cons_zero, List.set_cons_succ]
  refine wpAnyH_take (i := 26) (oi := { dst := some 54, op := Op.nilCheck (Operand.tmp 53), type := 0, pos := "law.go:87", after := #[{ on := 25, ground := Ground.data }, { on := 24, ground := Ground.guard }], guard := some (24, false) }) (v := .pointer (some ⟨b, 0, none⟩)) rfl (by kernel_rfl) (by kernel_rfl) (by kernel_rfl) (fun _ _ _ h => h) (Or.inl ⟨by rfl, by intro w hS; go_simp⟩) hHeld ?_
  try simp only [Act.put, List.setIfInBounds_toArray, List.set_cons_zero, List.set_cons_succ]
  refine wpAnyH_take (i := 27) (oi := { dst := some 55, op := Op.fieldAddr 39 (Operand.tmp 54) 1, type := 0, pos := "law.go:87", after := #[{ on := 26, ground := Ground.data }, { on := 24, ground := Ground.guard }], guard := some (24, false) }) (v := .pointer (some ⟨b, 2, none⟩)) rfl (by kernel_rfl) (by kernel_rfl) (by kernel_rfl) (fun _ _ _ h => h) (Or.inl ⟨by rfl, by intro w hS; go_simp⟩) hHeld ?_
  try simp only [Act.put, List.setIfInBounds_toArray, List.set_cons_zero, List.set_cons_succ]
  refine wpAnyH_take (i := 28) (oi := { dst := some 56, op := Op.load 25 (Operand.tmp 55), type := 25, pos := "law.go:87", after := #[{ on := 27, ground := Ground.data }, { on := 24, ground := Ground.guard }], guard := some (24, false) }) (v := .iface 88 (.pointer (some (A i)))) rfl (by kernel_rfl) (by kernel_rfl) (by kernel_rfl) (fun _ _ _ h => h) (Or.inl ⟨by rfl, by intro w hS; have hc := ((hS.cell (block_lt_of_cell f2)).trans f2); go_simp⟩) hHeld ?_
  try simp only [Act.put, List.setIfInBounds_toArray, List.set_cons_zero, List.set_cons_succ]
  refine wpAnyH_ready (rs := [30]) (by kernel_rfl) (by simp) ?_
  refine (AllReadyH.cons (o := { dst := some 58, op := Op.call { callee := Callee.value (Operand.func 23), args := #[Operand.tmp 57], argTypes := #[3] }, type := 25, pos := "law.go:87", after := #[{ on := 29, ground := Ground.data }, { on := 24, ground := Ground.chain }, { on := 24, ground := Ground.guard }], guard := some (24, false) }) rfl (fun K hK => ?_) AllReadyH.nil)
  go_simp
  go_at_call 23
  refine (sentinel_at _ A (HS.out.mono (hHeld.mono (Nat.le_refl _))) i hi).mono ?_
  rintro e w4 ⟨rfl, hb4⟩
  go_wp2_with fail
  refine hK.out _ _ (hHeld.trans (hb4.mono hHeld.size)) (fun hHeld2 => ?_)
  clear hK K hHeld
  have hHeld := hHeld2
  clear hHeld2
  try simp only [Act.put, List.setIfInBounds_toArray, List.set_cons_zero, List.set_cons_succ]
  refine wpAnyH_take (i := 31) (oi := { dst := some 59, op := Op.binOp BinOp.neq 25 (Operand.tmp 56) (Operand.tmp 58) 25, type := 4, pos := "law.go:87", after := #[{ on := 28, ground := Ground.data }, { on := 30, ground := Ground.data }, { on := 24, ground := Ground.guard }], guard := some (24, false) }) (v := .bool false) rfl (by kernel_rfl) (by kernel_rfl) (by kernel_rfl) (fun _ _ _ h => h) (Or.inl ⟨by rfl, by intro w hS; go_simp⟩) hHeld ?_
  try simp only [Act.put, List.setIfInBounds_toArray, List.set_cons_zero, List.set_cons_succ]
  refine wpAnyH_take (i := 32) (oi := { dst := some 60, op := Op.pick (Operand.tmp 52) (Operand.const (Value.bool true)) (Operand.tmp 59), type := 4, pos := "law.go:87", after := #[{ on := 24, ground := Ground.data }, { on := 31, ground := Ground.data }], guard := none }) (v := .bool false) rfl (by kernel_rfl) (by kernel_rfl) (by kernel_rfl) (fun _ _ _ h => h) (Or.inl ⟨by rfl, by intro w hS; go_simp⟩) hHeld ?_
  try simp only [Act.put, List.setIfInBounds_toArray, List.set_cons_zero, List.set_cons_succ]
  refine wpAnyH_take (i := 33) (oi := { dst := some 61, op := Op.move (Operand.tmp 60), type := 4, pos := "law.go:87", after := #[{ on := 32, ground := Ground.data }, { on := 30, ground := Ground.chain }], guard := none }) (v := .bool false) rfl (by kernel_rfl) (by kernel_rfl) (by kernel_rfl) (fun _ _ _ h => h) (Or.inl ⟨by rfl, by intro w hS; go_simp⟩) hHeld ?_
  try simp only [Act.put, List.setIfInBounds_toArray, List.set_cons_zero, List.set_cons_succ]
  refine wpAnyH_take (i := 34) (oi := { dst := some 62, op := Op.move (Operand.tmp 9), type := 34, pos := "law.go:87", after := #[{ on := 33, ground := Ground.guard }], guard := some (33, false) }) (v := .pointer (some ⟨b, 0, none⟩)) rfl (by kernel_rfl) (by kernel_rfl) (by kernel_rfl) (fun _ _ _ h => h) (Or.inl ⟨by rfl, by intro w hS; go_simp⟩) hHeld ?_
  try simp only [Act.put, List.setIfInBounds_toArray, List.set_cons_zero, List.set_cons_succ]
  refine wpAnyH_take (i := 36) (oi := { dst := some 64, op := Op.move (Operand.tmp 9), type := 34, pos := "law.go:87", after := #[{ on := 33, ground := Ground.guard }], guard := some (33, false) }) (v := .pointer (some ⟨b, 0, none⟩)) rfl (by kernel_rfl) (by kernel_rfl) (by kernel_rfl) (fun _ _ _ h => h) (Or.inl ⟨by rfl, by intro w hS; go_simp⟩) hHeld ?_
  try simp only [Act.put, List.setIfInBounds_toArray, List.set_cons_zero, List.set_cons_succ]
  refine wpAnyH_take (i := 37) (oi := { dst := some 65, op := Op.nilCheck (Operand.tmp 64), type := 0, pos := "law.go:87", after := #[{ on := 36, ground := Ground.data }, { on := 33, ground := Ground.guard }], guard := some (33, false) }) (v := .pointer (some ⟨b, 0, none⟩)) rfl (by kernel_rfl) (by kernel_rfl) (by kernel_rfl) (fun _ _ _ h => h) (Or.inl ⟨by rfl, by intro w hS; go_simp⟩) hHeld ?_
  try simp only [Act.put, List.setIfInBounds_toArray, List.set_cons_zero, List.set_cons_succ]
  refine wpAnyH_take (i := 38) (oi := { dst := some 66, op := Op.fieldAddr 39 (Operand.tmp 65) 1, type := 0, pos := "law.go:87", after := #[{ on := 37, ground := Ground.data }, { on := 33, ground := Ground.guard }], guard := some (33, false) }) (v := .pointer (some ⟨b, 2, none⟩)) rfl (by kernel_rfl) (by kernel_rfl) (by kernel_rfl) (fun _ _ _ h => h) (Or.inl ⟨by rfl, by intro w hS; go_simp⟩) hHeld ?_
  try simp only [Act.put, List.setIfInBounds_toArray, List.set_cons_zero, List.set_cons_succ]
  refine wpAnyH_take (i := 39) (oi := { dst := some 67, op := Op.load 25 (Operand.tmp 66), type := 25, pos := "law.go:87", after := #[{ on := 38, ground := Ground.data }, { on := 33, ground := Ground.guard }], guard := some (33, false) }) (v := .iface 88 (.pointer (some (A i)))) rfl (by kernel_rfl) (by kernel_rfl) (by kernel_rfl) (fun _ _ _ h => h) (Or.inl ⟨by rfl, by intro w hS; have hc := ((hS.cell (block_lt_of_cell f2)).trans f2); go_simp⟩) hHeld ?_
  try simp only [Act.put, List.setIfInBounds_toArray, List.set_cons_zero, List.set_cons_succ]
  refine wpAnyH_ready (rs := [35]) (by kernel_rfl) (by simp) ?_
  refine (AllReadyH.cons (o := { dst := some 63, op := Op.call { callee := Callee.value (Operand.func 10), args := #[Operand.tmp 62], argTypes := #[34] }, type := 25, pos := "law.go:87", after := #[{ on := 34, ground := Ground.data }, { on := 33, ground := Ground.chain }, { on := 33, ground := Ground.guard }], guard := some (33, false) }) rfl (fun K hK => ?_) AllReadyH.nil)
  go_simp
  go_at_call 10
  refine (un_any _ b _ (cellB hHeld f2)).mono ?_
  rintro e w4 ⟨rfl, rfl⟩
  go_wp2_with fail
  refine hK.out _ _ (hHeld) (fun hHeld2 => ?_)
  clear hK K hHeld
  have hHeld := hHeld2
  clear hHeld2
  try simp only [Act.put, List.setIfInBounds_toArray, List.set_cons_zero, List.set_cons_succ]
  refine wpAnyH_take (i := 40) (oi := { dst := some 68, op := Op.binOp BinOp.neq 25 (Operand.tmp 63) (Operand.tmp 67) 25, type := 4, pos := "law.go:87", after := #[{ on := 35, ground := Ground.data }, { on := 39, ground := Ground.data }, { on := 33, ground := Ground.guard }], guard := some (33, false) }) (v := .bool false) rfl (by kernel_rfl) (by kernel_rfl) (by kernel_rfl) (fun _ _ _ h => h) (Or.inl ⟨by rfl, by intro w hS; go_simp⟩) hHeld ?_
  try simp only [Act.put, List.setIfInBounds_toArray, List.set_cons_zero, List.set_cons_succ]
  refine wpAnyH_take (i := 41) (oi := { dst := some 69, op := Op.pick (Operand.tmp 61) (Operand.const (Value.bool true)) (Operand.tmp 68), type := 4, pos := "law.go:87", after := #[{ on := 33, ground := Ground.data }, { on := 40, ground := Ground.data }], guard := none }) (v := .bool false) rfl (by kernel_rfl) (by kernel_rfl) (by kernel_rfl) (fun _ _ _ h => h) (Or.inl ⟨by rfl, by intro w hS; go_simp⟩) hHeld ?_
  try simp only [Act.put, List.setIfInBounds_toArray, List.set_cons_zero, List.set_cons_succ]
  refine wpAnyH_done (by kernel_rfl) ?_ _
  refine NoPanic.normal ?_
  have HB2 := hid hHeld
  clear hHeld
  have hME := Tryd.methodErrP
  go_wp2_with fail
  refine (ferr_fx _ (HT.out.later (bel3 HB1.out HB2.out)) A (HS.out.mono HB2.out) b c n h0 h1 hc i hi (cellB HB2.out f0) (cellB HB2.out f1) (cellB HB2.out f2)).mono ?_
  rintro _ w5 ⟨rfl, hb5⟩
  replace hb5 := hid hb5
  go_wp2_with fail
  refine (rwhere_any w5 c n h0 h1 hc).mono ?_
  rintro _ w6 ⟨rfl, hb6⟩
  replace hb6 := hid hb6
  have hs := whereB_size c n h0 h1
  have hts := txt_size i hi
  have a1 := strAdd (whereB c n) colon (by rw [show colon.size = 2 from rfl]; omega)
  have a2 := strAdd (whereB c n ++ colon) (txt i) (by rw [ByteArray.size_append, show colon.size = 2 from rfl]; omega)
  have hcol : (⟨#[58, 32]⟩ : ByteArray) = colon := rfl
  go_wp2_with fail
  refine (text_any w6 i hi).mono ?_
  rintro _ _ ⟨rfl, rfl⟩
  rw [show colon = (⟨#[58, 32]⟩ : ByteArray) from rfl] at a1 a2 ⊢
  generalize whereB c n = u at *
  generalize u ++ (⟨#[58, 32]⟩ : ByteArray) = u2 at *
  generalize u2 ++ txt i = u3 at *
  clear hcol hs hts
  go_wp2
  go_ret
  exact ⟨by simp, bel3 (bel3 (bel3 HB1.out HB2.out) hb5.out) hb6.out⟩
end Go.Proofs.YtfogohpmphgkkaaDoor
