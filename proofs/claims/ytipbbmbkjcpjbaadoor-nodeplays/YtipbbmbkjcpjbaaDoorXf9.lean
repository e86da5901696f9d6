import Derived.Test.YtipbbmbkjcpjbaaDoorXe9
namespace Go.Proofs.YtipbbmbkjcpjbaaDoor
set_option linter.unusedVariables false
set_option linter.unusedSimpArgs false
open Go.RowKit
attribute [local go_sem ↓] Go.wp_at_zero Go.wp_at_succ

/-- What a step's list reads as. -/
def VOk (w : World) (o : NOp) : Prop := ∃ (zs : List Int) (sp : Option Addr) (cap : Nat), o.v = .slice sp zs.length cap ∧ Src w sp cap zs ∧ (sp = none → cap = 0) ∧ zs.length ≤ 140737488351232
/-- The script in memory. -/
def SC (w : World) (sp : Option Addr) (ops : List NOp) : Prop := ∃ b o, (0 < ops.length → b < w.heap.size ∧ sp = some ⟨b, o, none⟩) ∧ ∀ i, i < ops.length → w.rangeAt b (o + i * 203) (opC (ops.getD i zOp))
set_option maxRecDepth 100000 in
set_option maxHeartbeats 2000000 in
theorem upTo_any (w : World) (hG : Gb w) (ops : List NOp) (sp : Option Addr) (cap : Nat) (hS : SC w sp ops) (hok : ∀ o ∈ ops, NOk o) (hlen : (ops.length : Int) ≤ 9223372036854775807) (lo hi : Int)
    (hp : ∀ o ∈ ops, lo ≤ o.kd → o.kd ≤ hi → ∀ w1, Below w.heap.size w w1 → Calls Tryd.prog 7 #[.agg (opC o).toArray] w1 fun e w' => e = .returned (.bool true) ∧ Below w1.heap.size w1 w') :
    Calls Tryd.prog 6 #[.slice sp ops.length cap, .int .i64 lo, .int .i64 hi] w fun e w' => e = .returned (.bool true) ∧ Below w.heap.size w w' := by
  obtain ⟨b, o0, hb, hr⟩ := hS
  have HP := hid hp
  have HR := hid hr
  have HOK := hid hok
  generalize hn : ops.length = n at *
  have HN := hid hn
  obtain ⟨z, hz⟩ : ∃ z, z = zOp := ⟨_, rfl⟩
  have HZ := hid hz
  have zok : NOk z := by rw [hz]; exact zOp_ok
  clear hp hr hok hn hz
  go_enter Tryd.func6, Tryd.ntmps6
  go_wp2
  go_loopw [7] (fun i wr => ∃ j : Nat, j ≤ n ∧ i = .int .i64 j ∧ Below w.heap.size w wr) (fun i _ => n - (intOf i).toNat)
  case atStart => exact ⟨0, Nat.zero_le _, rfl, Below.refl _ _⟩
  case round =>
    obtain ⟨j, hj, rfl, hB⟩ := hrel
    by_cases hlt' : j < n
    · have i1 : (j : Int) < (n : Int) := by omega
      obtain ⟨hbb, rfl⟩ := hb (by omega)
      have hmem : ops.getD j zOp ∈ ops := by rw [List.getD_eq_getElem?_getD, List.getElem?_eq_getElem (by rw [HN.out]; exact hlt')]; exact List.getElem_mem _
      have ok := HOK.out _ hmem
      have rj := rng_below (HR.out j hlt') hB hbb
      have KP := hid (HP.out _ hmem)
      generalize ops.getD j zOp = o at *
      have g0 := hnew wr (.cells (opC o).toArray 32)
      have hB1 := hB.alloc hB.size (.cells (opC o).toArray 32)
      have c0 : (wr.alloc (.cells (opC o).toArray 32)).cell? ⟨wr.heap.size, 0, none⟩ = some (.int .i64 o.kd) := by rw [cell_of_row _ _ _ _ _ _ g0]; rfl
      by_cases h1 : o.kd < lo
      · go_wp2_with (first | refine wpList_allocO rfl rfl z HZ.out ?_ | refine wpList_load_mid rfl 32 _ rfl b (o0 + j * 203) rfl (opC o) _ rj Tryd.underlying32 rfl (by rw [Tryd.sizeOp, opC_len ok]) ?_ | (refine wpList_store_row rfl 32 _ _ rfl _ _ rfl rfl 32 _ (by exact hnew _ (.cells (opC z).toArray 32)) (by rw [Tryd.sizeOp, opC_size ok]) (by rw [opC_size ok, opC_size zok]) (all_oneCell_toArray (opC_one ok)) ?_; rw [setRow_alloc]))
        go_roundw
        case rel => exact ⟨j + 1, by omega, by go_num, hB1⟩
        case measure => simp [intOf]; omega
      · by_cases h2 : hi < o.kd
        · go_wp2_with (first | refine wpList_allocO rfl rfl z HZ.out ?_ | refine wpList_load_mid rfl 32 _ rfl b (o0 + j * 203) rfl (opC o) _ rj Tryd.underlying32 rfl (by rw [Tryd.sizeOp, opC_len ok]) ?_ | (refine wpList_store_row rfl 32 _ _ rfl _ _ rfl rfl 32 _ (by exact hnew _ (.cells (opC z).toArray 32)) (by rw [Tryd.sizeOp, opC_size ok]) (by rw [opC_size ok, opC_size zok]) (all_oneCell_toArray (opC_one ok)) ?_; rw [setRow_alloc]))
          go_roundw
          case rel => exact ⟨j + 1, by omega, by go_num, hB1⟩
          case measure => simp [intOf]; omega
        · have KQ := hid (KP.out (by omega) (by omega) _ hB1)
          go_wp2_with (first | refine wpList_allocO rfl rfl z HZ.out ?_ | refine wpList_load_mid rfl 32 _ rfl b (o0 + j * 203) rfl (opC o) _ rj Tryd.underlying32 rfl (by rw [Tryd.sizeOp, opC_len ok]) ?_ | (refine wpList_store_row rfl 32 _ _ rfl _ _ rfl rfl 32 _ (by exact hnew _ (.cells (opC z).toArray 32)) (by rw [Tryd.sizeOp, opC_size ok]) (by rw [opC_size ok, opC_size zok]) (all_oneCell_toArray (opC_one ok)) ?_; rw [setRow_alloc]) | refine wpList_load_row rfl 32 _ rfl _ rfl 32 _ _ _ g0 Tryd.underlying32 rfl (by rw [Tryd.sizeOp, opC_size ok]) ?_)
          refine KQ.out.mono ?_
          rintro e w3 ⟨rfl, hb3⟩
          have hB3 := hB1.trans (hb3.mono hB1.size)
          go_wp2
          go_roundw
          case rel => exact ⟨j + 1, by omega, by go_num, hB3⟩
          case measure => simp [intOf]; omega
    · obtain rfl : n = j := by omega
      clear hlt'
      go_wp2
      go_ret
      exact ⟨rfl, hB⟩
end Go.Proofs.YtipbbmbkjcpjbaaDoor
