import Derived.Test.YtfogohpmphgkkaaDoorLg1
namespace Go.Proofs.YtfogohpmphgkkaaDoor
set_option linter.unusedVariables false
set_option linter.unusedSimpArgs false
open Go.RowKit
attribute [local go_sem ↓] Go.wp_at_zero Go.wp_at_succ

theorem Tryd.comp88 : (Tryd.prog.info? 88).map (·.comparable) = some true := by kernel_rfl
theorem Tryd.size113 : (Tryd.prog.info? 113).map (·.size) = some 1 := by kernel_rfl
theorem nil_other {P : Program} {w : World} {ti tp : TypeId} {v : Value} {ms : Array (String × TypeId)} (hi : P.underlying ti = some (.interface ms)) : (binOp .eql ti (.iface tp v) .nilIface).run P w = .ok (.bool false) w := by
  have h : ∀ d : Nat, (Op.equalIn (d + 1) ti (.iface tp v) .nilIface).run P w = .ok false w := fun d => by simp [Op.equalIn, run_underlying hi]
  simp only [binOp]
  simp [Op.equal, Op.maxDepth, h 9999]
theorem Tryd.methodErr (v : Value) (w : World) : (Go.method 225 88 v "Error").run Tryd.prog w = .ok (71, v) w := by kernel_rfl
theorem er_ne (w : World) (A : Nat → Addr) (hS : Sen w A) (i j : Nat) (hi : i < 20) (hj : j < 20) (h : i ≠ j) : (binOp .eql 25 (.iface 88 (.pointer (some (A i)))) (.iface 88 (.pointer (some (A j))))).run Tryd.prog w = .ok (.bool false) w := by
  obtain ⟨k, hk, hcmp⟩ := Option.map_eq_some_iff.1 Tryd.comp88
  obtain ⟨q, hq, hqs⟩ := Option.map_eq_some_iff.1 Tryd.size113
  obtain ⟨c, t, hb⟩ := hS.blk i hi
  obtain ⟨c', t', hb'⟩ := hS.blk j hj
  exact run_eql_iface_ptr_other (P := Tryd.prog) w Tryd.underlying25 Tryd.underlying88 hk hcmp hq (by rw [hqs]; decide) (hS.ne i j hi hj h) hb hb'
theorem er_same (w : World) (a : Addr) : (binOp .eql 25 (.iface 88 (.pointer (some a))) (.iface 88 (.pointer (some a)))).run Tryd.prog w = .ok (.bool true) w := by
  obtain ⟨k, hk, hcmp⟩ := Option.map_eq_some_iff.1 Tryd.comp88
  obtain ⟨q, hq, hqs⟩ := Option.map_eq_some_iff.1 Tryd.size113
  exact run_eql_iface_ptr_same (P := Tryd.prog) w a Tryd.underlying25 Tryd.underlying88 hk hcmp hq
set_option maxRecDepth 100000 in
set_option maxHeartbeats 2000000 in
theorem ledgerNames_any (w : World) (A : Nat → Addr) (hS : Sen w A) : Calls Tryd.prog 3 #[] w fun e w' => e = .returned (.bool true) ∧ Below w.heap.size w w' := by
  go_enter Tryd.func3, Tryd.ntmps3
  go_wp2_with fail
  refine (list_any w A hS).mono ?_
  rintro e w1 ⟨rfl, rfl⟩
  have hB : Below w.heap.size w (w.alloc (.cells (lst A) 27)) := (Below.refl _ _).alloc (Nat.le_refl _) _
  have hS1 : Sen (w.alloc (.cells (lst A) 27)) A := hS.mono hB
  have hc : ∀ k v, (lst A)[k]? = some v → (w.alloc (.cells (lst A) 27)).cell? ⟨w.heap.size, k, none⟩ = some v := fun k v e => (World.cell?_alloc_at (w := w) (lst A) 27 w.heap.size k rfl).trans e
  have n0 : ∀ i, i < 20 → (w.alloc (.cells (lst A) 27)).cell? ⟨w.heap.size, i * 2, none⟩ = some (.int .i64 (nos i)) := fun i hi => hc _ _ (by rw [Nat.mul_comm]; exact lst_no A i hi)
  have n1 : ∀ i, i < 20 → (w.alloc (.cells (lst A) 27)).cell? ⟨w.heap.size, i * 2 + 1, none⟩ = some (.iface 88 (.pointer (some (A i)))) := fun i hi => hc _ _ (by rw [Nat.mul_comm]; exact lst_er A i hi)
  generalize hW : w.alloc (.cells (lst A) 27) = w1 at *
  replace hW := hid hW
  replace hB := hid hB
  have hbe := hid (show Below w.heap.size w w1 from hB.out)
  generalize w.heap.size = b at hB n0 n1 ⊢
  replace n0 := hid n0
  replace n1 := hid n1
  replace hS1 := hid hS1
  clear hS hc hW
  go_wp2
  go_loopw [2] (fun i w' => ∃ k : Nat, k ≤ 20 ∧ i = .int .i64 k ∧ Below w1.heap.size w1 w')
    (fun i _ => 20 - (intOf i).toNat)
  case atStart => exact ⟨0, by omega, rfl, Below.refl _ _⟩
  case round =>
    obtain ⟨k, hk, rfl, hb⟩ := hrel
    have hS2 : Sen wr A := hS1.out.mono hb
    have hlt : ∀ {a : Addr} {v}, w1.cell? a = some v → wr.cell? a = some v := fun e => by rw [← e]; exact hb.cell (block_lt_of_cell e)
    by_cases hk2 : k < 20
    · have c0 : wr.cell? ⟨b, k * 2, none⟩ = some (.int .i64 (nos k)) := hlt (n0.out k hk2)
      have c1 : wr.cell? ⟨b, k * 2 + 1, none⟩ = some (.iface 88 (.pointer (some (A k)))) := hlt (n1.out k hk2)
      have hE : ∀ w : World, w.heap = wr.heap → w.cell? (A k) = some (.string (txt k)) := fun w e => by rw [← hS2.text k hk2]; simp only [World.cell?, e]
      replace hE := hid hE
      have hM := Tryd.methodErr
      have hN : ∀ (v : Value) (w : World), (binOp .eql 25 (.iface 88 v) .nilIface).run Tryd.prog w = .ok (.bool false) w := fun v w => nil_other Tryd.underlying25
      have hki : (k : Int) < 20 := by omega
      replace hS2 := hid hS2
      clear hlt
      go_wp2_with fail
      go_quiet (first | (go_at_call 7; refine Calls.quiet_of_same (text_any _ k hk2)) | (go_at_call 71; refine Calls.quiet_of_same (error_any _ (A k) _ (hE.out _ rfl))))
      go_wp2
      have hbq : Below w1.heap.size w1 (wr.drewN nq) := below_drewN hb _
      generalize wr.drewN nq = wq at *
      go_loopw [3] (fun j w' => ∃ m : Nat, m ≤ k ∧ j = .int .i64 m ∧ Below w1.heap.size w1 w')
        (fun j _ => k - (intOf j).toNat)
      case atStart => exact ⟨0, by omega, rfl, hbq⟩
      case round =>
        obtain ⟨m, hm, rfl, hbm⟩ := hrel
        have hS3 : Sen wr A := hS1.out.mono hbm
        have hlt : ∀ {a : Addr} {v}, w1.cell? a = some v → wr.cell? a = some v := fun e => by rw [← e]; exact hbm.cell (block_lt_of_cell e)
        by_cases hm2 : m < k
        · have c1 : wr.cell? ⟨b, k * 2 + 1, none⟩ = some (.iface 88 (.pointer (some (A k)))) := hlt (n1.out k hk2)
          have c2 : wr.cell? ⟨b, m * 2 + 1, none⟩ = some (.iface 88 (.pointer (some (A m)))) := hlt (n1.out m (by omega))
          have hne := fun n => er_ne (wr.drewN n) A (hS1.out.mono (below_drewN hbm n)) k m hk2 (by omega) (by omega)
          have hmi : (m : Int) < (k : Int) := by omega
          have hki : (k : Int) < 20 := by omega
          have hmj : (m : Int) < 20 := by omega
          replace hS3 := hid hS3
          clear hlt
          go_wp2_with fail
          go_quiet (fail)
          go_wp2
          go_roundw
          case rel => exact ⟨m + 1, by omega, by go_num, below_drewN hbm _⟩
          case measure => simp [intOf]; omega
        · obtain rfl : m = k := by omega
          go_wp2
          go_roundw
          case rel => exact ⟨m + 1, by omega, by go_num, hbm⟩
          case measure => simp [intOf]; omega
    · obtain rfl : k = 20 := by omega
      go_wp2
      go_ret
      exact ⟨rfl, hbe.out.trans (hb.mono hbe.out.size)⟩
end Go.Proofs.YtfogohpmphgkkaaDoor
