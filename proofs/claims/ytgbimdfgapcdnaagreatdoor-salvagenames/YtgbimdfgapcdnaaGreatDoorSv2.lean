import Derived.Test.YtgbimdfgapcdnaaGreatDoorFb
import Derived.Maps.OwnSet
import Derived.Carry
namespace Go.Proofs.YtgbimdfgapcdnaaGreatDoor
set_option linter.unusedVariables false
set_option linter.unusedSimpArgs false
open Go.RowKit
attribute [local go_sem ↓] Go.wp_at_zero Go.wp_at_succ

/-- A number of a bit. -/
def inR (v : Value) : Option (DataW Unit × List MemPlace) := match v with
  | .int .i64 a => if 0 ≤ a ∧ a < 512 then some (.lit (.int .i64 a), []) else none
  | _ => none
theorem inR_mk {a : Int} (h0 : 0 ≤ a) (h1 : a < 512) : inR (.int .i64 a) = some (.lit (.int .i64 a), []) := by
  show (if 0 ≤ a ∧ a < 512 then some (DataW.lit (Lit.int IntKind.i64 a), []) else none) = _; rw [if_pos ⟨h0, h1⟩]
theorem inR_inv {v : Value} {x : DataW Unit × List MemPlace} (h : inR v = some x) : ∃ a : Int, v = .int .i64 a ∧ 0 ≤ a ∧ a < 512 := by
  unfold inR at h
  split at h
  · rename_i a
    split at h
    · rename_i hc; exact ⟨a, rfl, hc⟩
    · cases h
  · cases h
theorem wf_u32m (x : Int) : (Lit.int .u32 (x % 4294967296)).wf = true := by
  have h0 := Int.emod_nonneg x (show (4294967296 : Int) ≠ 0 by decide)
  have h1 := Int.emod_lt_of_pos x (show (0 : Int) < 4294967296 by decide)
  exact WalkArith.wf_u32 (by omega)
theorem keyed32 : Maps.Keyed Tryz.prog 56 := Maps.int_keyed Tryz.underlying56
/-- A map of bits. -/
def MB (w : World) (m n : Nat) : Prop := ∃ M, w.ownsMap Tryz.prog 56 inR m n M
theorem MB.mono {w : World} {m n n' : Nat} (h : MB w m n) (hn : n ≤ n') : MB w m n' := ⟨h.choose, h.choose_spec.mono hn⟩
theorem MB.lt {w : World} {m n : Nat} (h : MB w m n) : m < w.heap.size := h.choose_spec.lt
theorem MB.of_heap {w w1 : World} {m n : Nat} (h : MB w m n) (hk : w1.heap[m]? = w.heap[m]?) : MB w1 m n := by
  obtain ⟨M, es, clock, hb, F, hs, hD⟩ := h
  exact ⟨M, es, clock, hk.trans hb, F, hs, hD⟩
theorem MB.below {w w1 : World} {m n : Nat} (h : MB w m n) (hb : Below w.heap.size w w1) : MB w1 m n := h.of_heap (hb.block m h.lt)
theorem wpList_mb {w : World} {ops : Array Oper} {rest : List Oper} {o : Oper} {a : Act} {Q : Exit → Act → World → Prop} (hg : o.guard = none) (m x v : Operand) (hop : o.op = Op.mapUpdate 65 m x v)
    (b n : Nat) (hm : a.eval m = .map (some b)) (hown : MB w b n) (hn : n < 1000) (k c : Int) (hx : a.eval x = .int .u32 k) (hv : a.eval v = .int .i64 c) (hk : (Lit.int .u32 k).wf = true) (h0 : 0 ≤ c) (h1 : c < 512)
    (hK : ∀ w', MB w' b (n + 1) → w.grownBy w' (some b) → wpList Tryz.prog ops Q rest (a.put o.dst undef) w') : wpList Tryz.prog ops Q (o :: rest) a w := by
  obtain ⟨M, hM⟩ := hown
  exact wpList_mapUpdate_own w hg m x v 65 hop 56 3 keyed32 Tryz.underlying65 inR b n M hm hM (by unfold maxLen; omega) _ _ _ hx hv (Maps.keyOf_int_mk Tryz.underlying56 hk) _ _ (inR_mk h0 h1) fun w' h1 h2 => hK w' ⟨_, h1⟩ h2
theorem build_0 (w : World) : (Instr.buildSlice 22 1 #[(0, .int .u8 0)]).run Tryz.prog w = .ok (.slice (some ⟨w.heap.size, 0, none⟩) 1 1) (w.alloc (.cells #[.int .u8 0] 5)) := by kernel_rfl
theorem build_x (w : World) (x : Int) : (Instr.buildSlice 22 1 #[(0, .int .u8 x)]).run Tryz.prog w = .ok (.slice (some ⟨w.heap.size, 0, none⟩) 1 1) (w.alloc (.cells #[.int .u8 x] 5)) := by kernel_rfl
theorem sum_1 (w : World) (b : Nat) (x : Int) (h0 : 0 ≤ x) (h1 : x < 256) (h : w.heap[b]? = some (.cells #[.int .u8 x] 5)) :
    Calls Tryz.prog 54 #[.slice (some ⟨b, 0, none⟩) 1 1] w fun e w' => ∃ d : Nat, d < 4294967296 ∧ e = .returned (.int .u32 (d : Int)) ∧ Below w.heap.size w w' := by
  have hS : Src w (some ⟨b, 0, none⟩) 1 [x] := ⟨by simp, by simp [maxLen], b, 0, fun _ => hlt h, fun _ => rfl, fun j hj => by
    obtain rfl : j = 0 := by simpa using hj
    rw [cell_of_row _ _ _ _ _ _ h]; rfl⟩
  refine (sum_any w [x] (fun y hy => by obtain rfl := List.mem_singleton.1 hy; omega) _ _ hS).mono fun e w' q => ⟨_, ?_, q⟩
  exact inv_lt (feed_lt _ (fun y hy => by obtain rfl := List.mem_singleton.1 hy; omega) _ (inv_lt (by decide)))
theorem upd_1 (w : World) (b : Nat) (c : Nat) (hc : c < 4294967296) (h : w.heap[b]? = some (.cells #[.int .u8 0] 5)) :
    Calls Tryz.prog 69 #[.int .u32 (c : Int), .slice (some ⟨b, 0, none⟩) 1 1] w fun e w' => ∃ d : Nat, d < 4294967296 ∧ e = .returned (.int .u32 (d : Int)) ∧ Below w.heap.size w w' := by
  have hS : Src w (some ⟨b, 0, none⟩) 1 [0] := ⟨by simp, by simp [maxLen], b, 0, fun _ => hlt h, fun _ => rfl, fun j hj => by
    obtain rfl : j = 0 := by simpa using hj
    rw [cell_of_row _ _ _ _ _ _ h]; rfl⟩
  refine (upd_any w c hc [0] (fun y hy => by obtain rfl := List.mem_singleton.1 hy; omega) _ _ hS).mono fun e w' q => ⟨_, ?_, q⟩
  exact inv_lt (feed_lt _ (fun y hy => by obtain rfl := List.mem_singleton.1 hy; omega) _ (inv_lt hc))
theorem xor_nat (a b : Nat) : ∃ d : Nat, d < 4294967296 ∧ bits .xor .u32 (a : Int) (b : Int) = (d : Int) := by
  have h := bits_bd .xor (a : Int) (b : Int)
  exact ⟨(bits .xor .u32 (a : Int) (b : Int)).toNat, by omega, by omega⟩
set_option maxRecDepth 100000 in
set_option maxHeartbeats 1000000 in
theorem sv_diff (w : World) :
    Calls Tryz.prog 59 #[.int .i64 60] w fun e w' => ∃ m, e = .returned (.map (some m)) ∧ w.heap.size ≤ m ∧ MB w' m 1000 ∧ Below w.heap.size w w' := by
  have hmm : ∀ w : World, (Instr.makeMap 65 (some (.int .i64 512))).run Tryz.prog w = .ok (.map (some w.heap.size)) (w.alloc (.map #[] 0)) := fun w => by kernel_rfl
  have hb0 := build_0
  have hbx := build_x
  have M0 : MB (w.alloc (.map #[] 0)) w.heap.size 0 := ⟨_, World.ownsMap_made w Tryz.prog 56 inR⟩
  have B0 := (Below.refl w.heap.size w).alloc (Nat.le_refl _) (.map #[] 0)
  obtain ⟨m, hm⟩ : ∃ m, m = w.heap.size := ⟨_, rfl⟩
  have HM := hid hm
  go_enter Tryz.func59, Tryz.ntmps59
  clear hm
  go_wp2
  rw [← HM.out] at M0 B0
  rw [← HM.out]
  go_loopw [13] (fun i wr => ∃ k : Nat, k ≤ 32 ∧ i = .int .i64 k ∧ MB wr m k ∧ Below m w wr) (fun i _ => 32 - (intOf i).toNat)
  case atStart => exact ⟨0, by omega, rfl, M0, B0⟩
  case round =>
    obtain ⟨k, hk, rfl, hM, hB⟩ := hrel
    by_cases hlt : k < 32
    · have i1 : (k : Int) < 32 := by omega
      go_wp2_with (first | (at_mapUpdate; refine wpList_mb rfl (.tmp 16) (.tmp 18) (.tmp 22) rfl m k rfl hM (by omega) _ _ rfl rfl (wf_u32m _) (by omega) (by omega) ?_; intro w2 hM2 hg2))
      go_roundw
      case rel => exact ⟨k + 1, by omega, by go_num, hM2, hB.trans (grown_keeps hg2 (fun k hk => by obtain rfl := Option.some.inj hk; exact Nat.le_refl _) (Nat.le_of_lt hM.lt))⟩
      case measure => simp [intOf]; omega
    · obtain rfl : k = 32 := by omega
      clear hlt M0 B0
      have HBw := hid hB
      have HMw := hid hM
      clear hB hM
      go_wp2_with fail
      go_wp2
      have hz : (wr.alloc (.cells #[.int .u8 0] 5)).heap[wr.heap.size]? = some (.cells #[.int .u8 0] 5) := hnew _ _
      have hM1 : MB (wr.alloc (.cells #[.int .u8 0] 5)) m 32 := HMw.out.below ((Below.refl wr.heap.size wr).alloc (Nat.le_refl _) _)
      have hB1 : Below m w (wr.alloc (.cells #[.int .u8 0] 5)) := HBw.out.alloc (Nat.le_of_lt HMw.out.lt) _
      obtain ⟨z, hzz⟩ : ∃ z, z = wr.heap.size := ⟨_, rfl⟩
      have hmz : m < z := by rw [hzz]; exact HMw.out.lt
      rw [← hzz] at hz ⊢
      clear HBw HMw hzz
      generalize wr.alloc (.cells #[.int .u8 0] 5) = w3 at *
      go_loopw [25] (fun i wr => ∃ k : Nat, k ≤ 8 ∧ i = .int .i64 k ∧ MB wr m (32 + 60 * k) ∧ Below m w wr ∧ wr.heap[z]? = some (.cells #[.int .u8 0] 5)) (fun i _ => 8 - (intOf i).toNat)
      case atStart => exact ⟨0, by omega, rfl, hM1, hB1, hz⟩
      case round =>
        rename_i wr2 _ _ _ _
        obtain ⟨k, hk, rfl, hM, hB, hz⟩ := hrel
        by_cases hk8 : k < 8
        · have i1 : (k : Int) < 8 := by omega
          have p0 : 0 ≤ (2 : Int) ^ k % 256 := Int.emod_nonneg _ (by decide)
          have p1 : (2 : Int) ^ k % 256 < 256 := Int.emod_lt_of_pos _ (by decide)
          go_wp2_with fail
          refine (sum_1 _ wr.heap.size (2 ^ k % 256) p0 p1 (hnew _ _)).mono ?_
          rintro e w4 ⟨d4, hd4, rfl, hb4⟩
          have B4 : Below wr.heap.size wr w4 := ((Below.refl wr.heap.size wr).alloc (Nat.le_refl _) _).trans (hb4.mono (by rw [World.size_alloc]; omega))
          have z4 : w4.heap[z]? = some (.cells #[.int .u8 0] 5) := (B4.block z (hlt hz)).trans hz
          clear hb4 p0 p1
          go_wp2_with fail
          refine (sum_1 _ z 0 (by decide) (by decide) z4).mono ?_
          rintro e w5 ⟨d5, hd5, rfl, hb5⟩
          have B5 : Below wr.heap.size wr w5 := B4.trans (hb5.mono B4.size)
          have z5 : w5.heap[z]? = some (.cells #[.int .u8 0] 5) := (B5.block z (hlt hz)).trans hz
          have M5 : MB w5 m (32 + 60 * k) := hM.below B5
          have C5 : Below m w w5 := hB.trans (B5.mono (Nat.le_of_lt hM.lt))
          obtain ⟨d6, hd6, hx6⟩ := xor_nat d4 d5
          clear hb5 B4 B5 hM hB hz z4
          go_wp2_with fail
          go_loopw [7, 8] (fun v7 v8 wr => ∃ (j d : Nat), j ≤ 60 ∧ d < 4294967296 ∧ v7 = .int .u32 (d : Int) ∧ v8 = .int .i64 (59 - (j : Int)) ∧ MB wr m (32 + 60 * k + j) ∧ Below m w wr ∧ wr.heap[z]? = some (.cells #[.int .u8 0] 5)) (fun _ v8 _ => (intOf v8 + 1).toNat)
          case atStart => exact ⟨0, d6, by omega, hd6, rfl, rfl, M5, C5, z5⟩
          case round =>
            clear M5 C5 z5 hd6 hx6 hd4 hd5
            obtain ⟨j, d, hj, hd, rfl, rfl, hM, hB, hz⟩ := hrel
            by_cases hj6 : j < 60
            · have j1 : (j : Int) < 60 := by omega
              have c1 : (0 : Int) ≤ 8 * (59 - (j : Int)) + (k : Int) := by omega
              have c2 : 8 * (59 - (j : Int)) + (k : Int) < 512 := by omega
              go_wp2_with (first | (at_mapUpdate; refine wpList_mb rfl (.tmp 41) (.tmp 42) (.tmp 46) rfl m _ rfl hM (by omega) _ _ rfl rfl (WalkArith.wf_u32 (by omega)) c1 c2 ?_; intro w6 hM6 hg6; refine Hid.out ?_))
              refine hid ?_
              have B6 : Below m w w6 := hB.trans (grown_keeps hg6 (fun k hk => by obtain rfl := Option.some.inj hk; exact Nat.le_refl _) (Nat.le_of_lt hM.lt))
              have z6 : w6.heap[z]? = some (.cells #[.int .u8 0] 5) := by
                rw [← hz]; exact hg6.block z (hlt hz) (fun e => by have := Option.some.inj e; omega)
              clear hM hB hz hg6 c1 c2
              go_wp2_with fail
              refine (upd_1 _ z d hd z6).mono ?_
              rintro e w7 ⟨d7, hd7, rfl, hb7⟩
              have z7 : w7.heap[z]? = some (.cells #[.int .u8 0] 5) := (hb7.block z (hlt z6)).trans z6
              have M7 := hM6.below hb7
              have B7 := B6.trans (hb7.mono (Nat.le_of_lt hM6.lt))
              clear hb7 hM6 B6 z6
              go_wp2_with fail
              refine (upd_1 _ z 0 (by decide) z7).mono ?_
              rintro e w8 ⟨d8, hd8, rfl, hb8⟩
              have z8 : w8.heap[z]? = some (.cells #[.int .u8 0] 5) := (hb8.block z (hlt z7)).trans z7
              have M8 := M7.below hb8
              have B8 := B7.trans (hb8.mono (Nat.le_of_lt M7.lt))
              obtain ⟨d9, hd9, hx9⟩ := xor_nat d7 d8
              clear hb8 M7 B7 z7
              go_wp2
              go_roundw
              case rel => exact ⟨j + 1, d9, by omega, hd9, rfl, (by congr 1; omega), M8, B8, z8⟩
              case measure => simp [intOf]; omega
            · have c3 : ¬ (0 : Int) ≤ 59 - (j : Int) := by omega
              have jj : j ≤ 60 := hj
              clear hj6 hj
              go_wp2
              go_roundw
              case rel => exact ⟨_, _, _, _, ⟨k + 1, by omega, (by push_cast; rfl), hM.mono (by omega)⟩, rfl, rfl, rfl, rfl⟩
              case measure => simp [intOf]; omega
        · obtain rfl : k = 8 := by omega
          clear hk8
          go_wp2
          go_ret
          exact ⟨m, rfl, by rw [HM.out]; exact Nat.le_refl _, hM.mono (by omega), HM.out ▸ hB⟩
end Go.Proofs.YtgbimdfgapcdnaaGreatDoor
