import Derived.Test.YtjpcegjgandnjaaGreatDoorRows
import Derived.Test.YtjpcegjgandnjaaGreatDoorQ01
namespace Go.Proofs.YtjpcegjgandnjaaGreatDoor
set_option linter.unusedVariables false
set_option linter.unusedSimpArgs false
open Go.RowKit

theorem rot_and : ∀ n : Nat, n < 32 → 1 ≤ n → bits BinOp.and IntKind.u64 (IntKind.u64.wrap (-(n : Int))) 31 = 32 - n := by decide

/-- x turned n places down, as the program reckons it. -/
def ror (x : Int) (n : Nat) : Int := bits .or .u32 (x * 2 ^ (32 - n) % 4294967296) (x / 2 ^ n)

set_option maxRecDepth 100000 in
set_option maxHeartbeats 400000 in
theorem rot_any (x k s : Int) (hx : 0 ≤ x) (hx2 : x ≤ 4294967295) (hs : 0 ≤ s) (hs2 : s ≤ 31) (hk : bits BinOp.and IntKind.u64 (IntKind.u64.wrap k) 31 = s) (w : World) :
    Calls Tryz.prog 203 #[.int .u32 x, .int .i64 k] w fun e w' => e = .returned (.int .u32 (bits .or .u32 (x * 2 ^ s.toNat % 4294967296) (x / 2 ^ (32 - s).toNat))) ∧ w' = w := by
  go_enter Tryz.func203, Tryz.ntmps203
  go_wp2
  go_ret
  exact ⟨rfl, rfl⟩

set_option maxRecDepth 100000 in
set_option maxHeartbeats 400000 in
theorem dturn_any (x : Int) (n : Nat) (hx : 0 ≤ x) (hx2 : x ≤ 4294967295) (hn : 1 ≤ n) (hn2 : n ≤ 31) (w : World) :
    Calls Tryz.prog 184 #[.int .u32 x, .int .i64 n] w fun e w' => e = .returned (.int .u32 (ror x n)) ∧ w' = w := by
  have i1 : (1 : Int) ≤ n := by omega
  have i2 : (n : Int) ≤ 31 := by omega
  go_enter Tryz.func184, Tryz.ntmps184
  go_wp2_with fail
  refine (rot_any x _ (32 - n) hx hx2 (by omega) (by omega) (rot_and n (by omega) hn) _).mono ?_
  rintro e w' ⟨rfl, rfl⟩
  go_wp2
  go_ret
  exact ⟨by rw [ror, show ((32 : Int) - (32 - n)).toNat = n by omega]; rfl, rfl⟩

def pickF (x y z : Int) : Int := bits BinOp.xor IntKind.u32 (bits BinOp.and IntKind.u32 x y) (bits BinOp.and IntKind.u32 (bits BinOp.xor IntKind.u32 IntKind.u32.max x) z)
def mostF (x y z : Int) : Int := bits BinOp.xor IntKind.u32 (bits BinOp.xor IntKind.u32 (bits BinOp.and IntKind.u32 x y) (bits BinOp.and IntKind.u32 x z)) (bits BinOp.and IntKind.u32 y z)
def high1F (x : Int) : Int := bits BinOp.xor IntKind.u32 (bits BinOp.xor IntKind.u32 (ror x 6) (ror x 11)) (ror x 25)
def high0F (x : Int) : Int := bits BinOp.xor IntKind.u32 (bits BinOp.xor IntKind.u32 (ror x 2) (ror x 13)) (ror x 22)
def low1F (x : Int) : Int := bits BinOp.xor IntKind.u32 (bits BinOp.xor IntKind.u32 (ror x 17) (ror x 19)) (x / 1024)
def low0F (x : Int) : Int := bits BinOp.xor IntKind.u32 (bits BinOp.xor IntKind.u32 (ror x 7) (ror x 18)) (x / 8)

set_option maxRecDepth 100000 in
set_option maxHeartbeats 400000 in
theorem pick_any (x y z : Int) (w : World) :
    Calls Tryz.prog 154 #[.int .u32 x, .int .u32 y, .int .u32 z] w fun e w' => e = .returned (.int .u32 (pickF x y z)) ∧ w' = w := by
  have hsg : IntKind.u32.signed = false := rfl
  go_enter Tryz.func154, Tryz.ntmps154
  go_wp2
  go_ret
  exact ⟨rfl, rfl⟩
set_option maxRecDepth 100000 in
set_option maxHeartbeats 400000 in
theorem most_any (x y z : Int) (w : World) :
    Calls Tryz.prog 156 #[.int .u32 x, .int .u32 y, .int .u32 z] w fun e w' => e = .returned (.int .u32 (mostF x y z)) ∧ w' = w := by
  go_enter Tryz.func156, Tryz.ntmps156
  go_wp2
  go_ret
  exact ⟨rfl, rfl⟩

set_option maxRecDepth 100000 in
set_option maxHeartbeats 400000 in
theorem high1_any (x : Int) (hx : 0 ≤ x) (hx2 : x ≤ 4294967295) (w : World) :
    Calls Tryz.prog 153 #[.int .u32 x] w fun e w' => e = .returned (.int .u32 (high1F x)) ∧ w' = w := by
  go_enter Tryz.func153, Tryz.ntmps153
  go_wp2_with fail
  refine (dturn_any x 6 hx hx2 (by omega) (by omega) _).mono ?_
  rintro e w' ⟨rfl, rfl⟩
  go_wp2_with fail
  refine (dturn_any x 11 hx hx2 (by omega) (by omega) _).mono ?_
  rintro e w' ⟨rfl, rfl⟩
  go_wp2_with fail
  refine (dturn_any x 25 hx hx2 (by omega) (by omega) _).mono ?_
  rintro e w' ⟨rfl, rfl⟩
  go_wp2_with fail
  go_ret
  exact ⟨rfl, rfl⟩
set_option maxRecDepth 100000 in
set_option maxHeartbeats 400000 in
theorem high0_any (x : Int) (hx : 0 ≤ x) (hx2 : x ≤ 4294967295) (w : World) :
    Calls Tryz.prog 155 #[.int .u32 x] w fun e w' => e = .returned (.int .u32 (high0F x)) ∧ w' = w := by
  go_enter Tryz.func155, Tryz.ntmps155
  go_wp2_with fail
  refine (dturn_any x 2 hx hx2 (by omega) (by omega) _).mono ?_
  rintro e w' ⟨rfl, rfl⟩
  go_wp2_with fail
  refine (dturn_any x 13 hx hx2 (by omega) (by omega) _).mono ?_
  rintro e w' ⟨rfl, rfl⟩
  go_wp2_with fail
  refine (dturn_any x 22 hx hx2 (by omega) (by omega) _).mono ?_
  rintro e w' ⟨rfl, rfl⟩
  go_wp2_with fail
  go_ret
  exact ⟨rfl, rfl⟩
set_option maxRecDepth 100000 in
set_option maxHeartbeats 400000 in
theorem low1_any (x : Int) (hx : 0 ≤ x) (hx2 : x ≤ 4294967295) (w : World) :
    Calls Tryz.prog 182 #[.int .u32 x] w fun e w' => e = .returned (.int .u32 (low1F x)) ∧ w' = w := by
  go_enter Tryz.func182, Tryz.ntmps182
  go_wp2_with fail
  refine (dturn_any x 17 hx hx2 (by omega) (by omega) _).mono ?_
  rintro e w' ⟨rfl, rfl⟩
  go_wp2_with fail
  refine (dturn_any x 19 hx hx2 (by omega) (by omega) _).mono ?_
  rintro e w' ⟨rfl, rfl⟩
  go_wp2_with fail
  go_ret
  exact ⟨rfl, rfl⟩
set_option maxRecDepth 100000 in
set_option maxHeartbeats 400000 in
theorem low0_any (x : Int) (hx : 0 ≤ x) (hx2 : x ≤ 4294967295) (w : World) :
    Calls Tryz.prog 183 #[.int .u32 x] w fun e w' => e = .returned (.int .u32 (low0F x)) ∧ w' = w := by
  go_enter Tryz.func183, Tryz.ntmps183
  go_wp2_with fail
  refine (dturn_any x 7 hx hx2 (by omega) (by omega) _).mono ?_
  rintro e w' ⟨rfl, rfl⟩
  go_wp2_with fail
  refine (dturn_any x 18 hx hx2 (by omega) (by omega) _).mono ?_
  rintro e w' ⟨rfl, rfl⟩
  go_wp2_with fail
  go_ret
  exact ⟨rfl, rfl⟩
end Go.Proofs.YtjpcegjgandnjaaGreatDoor
namespace Go.Proofs.YtjpcegjgandnjaaGreatDoor
set_option linter.unusedVariables false
set_option linter.unusedSimpArgs false
open Go.RowKit
attribute [local go_sem ↓] Go.wp_at_zero Go.wp_at_succ

theorem Tryz.size87 : (Tryz.prog.info? 87).map (·.size) = some 1 := by kernel_rfl
theorem Tryz.size176 : (Tryz.prog.info? 176).map (·.size) = some 8 := by kernel_rfl
theorem Tryz.size177 : (Tryz.prog.info? 177).map (·.size) = some 64 := by kernel_rfl
theorem Tryz.size276 : (Tryz.prog.info? 276).map (·.size) = some 64 := by kernel_rfl
theorem Tryz.size34 : (Tryz.prog.info? 34).map (·.size) = some 32 := by kernel_rfl
theorem Tryz.size180 : (Tryz.prog.info? 180).map (·.size) = some 73 := by kernel_rfl

def word4 (a b c d : Int) : Int := bits .or .u32 (bits .or .u32 (bits .or .u32 (IntKind.u32.wrap (IntKind.u32.wrap a * 16777216)) (IntKind.u32.wrap (IntKind.u32.wrap b * 65536))) (IntKind.u32.wrap (IntKind.u32.wrap c * 256))) (IntKind.u32.wrap d)
def w16 (bs : List Int) (n : Nat) : List Int := (List.range n).map fun t => word4 (bs[4 * t]?.getD 0) (bs[4 * t + 1]?.getD 0) (bs[4 * t + 2]?.getD 0) (bs[4 * t + 3]?.getD 0)
theorem w16_len (bs : List Int) (n : Nat) : (w16 bs n).length = n := by simp [w16]
theorem w16_succ (bs : List Int) (n : Nat) : w16 bs (n + 1) = w16 bs n ++ [word4 (bs[4 * n]?.getD 0) (bs[4 * n + 1]?.getD 0) (bs[4 * n + 2]?.getD 0) (bs[4 * n + 3]?.getD 0)] := by
  simp [w16, List.range_succ]
/-- Every element fits 32 bits. -/
def Bd32 (v : List Int) : Prop := ∀ j : Nat, 0 ≤ v[j]?.getD 0 ∧ v[j]?.getD 0 ≤ 4294967295
theorem bd32_nil : Bd32 [] := fun j => by simp
theorem bd32_snoc {v : List Int} (h : Bd32 v) {x : Int} (hx : 0 ≤ x ∧ x ≤ 4294967295) : Bd32 (v ++ [x]) := fun j => by
  by_cases c : j < v.length
  · rw [List.getElem?_append_left c]; exact h j
  · rw [List.getElem?_append_right (by omega)]
    by_cases d : j - v.length = 0
    · rw [d]; simpa using hx
    · rw [List.getElem?_eq_none (by simp; omega)]; simp
theorem w16_bd (bs : List Int) : ∀ n, Bd32 (w16 bs n)
  | 0 => bd32_nil
  | n + 1 => by rw [w16_succ]; exact bd32_snoc (w16_bd bs n) (bits_bd _ _ _)
def nextW (v : List Int) (t : Nat) : Int := IntKind.u32.wrap (IntKind.u32.wrap (IntKind.u32.wrap (low1F (v[t - 2]?.getD 0) + v[t - 7]?.getD 0) + low0F (v[t - 15]?.getD 0)) + v[t - 16]?.getD 0)
def schedTo (bs : List Int) : Nat → List Int
  | 0 => w16 bs 16
  | n + 1 => schedTo bs n ++ [nextW (schedTo bs n) (16 + n)]
theorem schedTo_len (bs : List Int) : ∀ n, (schedTo bs n).length = 16 + n
  | 0 => by simp [schedTo, w16_len]
  | n + 1 => by simp [schedTo, schedTo_len bs n]; omega
theorem schedTo_bd (bs : List Int) : ∀ n, Bd32 (schedTo bs n)
  | 0 => w16_bd bs 16
  | n + 1 => bd32_snoc (schedTo_bd bs n) (wrap_bd _)
def sched (bs : List Int) : List Int := schedTo bs 48
theorem sched_len (bs : List Int) : (sched bs).length = 64 := schedTo_len bs 48
set_option maxRecDepth 100000 in
set_option maxHeartbeats 1000000 in
theorem schedule_any (bs : List Int) (hl : bs.length = 64) (w : World) :
    Calls Tryz.prog 152 #[.agg (ints .u8 bs).toArray] w fun e w' => e = .returned (.agg (ints .u32 (sched bs)).toArray) ∧ Below w.heap.size w w' := by
  go_enter Tryz.func152, Tryz.ntmps152
  go_wp2
  go_loopw [4, 5, 7] (fun _ _ i wr => ∃ n : Nat, n ≤ 16 ∧ i = .int .i64 n ∧ wr.heap[w.heap.size]? = some (Obj.cells (ints .u8 bs).toArray 177) ∧ wr.heap[w.heap.size + 1]? = some (Obj.cells (ints .u32 (padz [] 64)).toArray 276) ∧ wr.heap[w.heap.size + 1 + 1]? = some (Obj.cells (ints .u32 (padz (w16 bs n) 64)).toArray 276) ∧ Below w.heap.size w wr) (fun _ _ i _ => 16 - (intOf i).toNat)
  case atStart => exact ⟨0, by omega, rfl, heap3_old w _ _ _, heap3_mid w _ _ _, heap3_new w _ _ _, below3 w _ _ _⟩
  case round =>
    obtain ⟨n, hn, rfl, h1, h2, h3, hB⟩ := hrel
    by_cases hlt : n < 16
    · have i1 : (n : Int) < 16 := by omega
      have c0 : wr.cell? ⟨w.heap.size, (4 * (n : Int)).toNat, none⟩ = some (.int .u8 (bs.getD (4 * n) 0)) := by rw [show (4 * (n : Int)).toNat = 4 * n by omega]; exact cell_ints h1 (4 * n) (by omega)
      have c1 : wr.cell? ⟨w.heap.size, (4 * (n : Int) + 1).toNat, none⟩ = some (.int .u8 (bs.getD (4 * n + 1) 0)) := by rw [show (4 * (n : Int) + 1).toNat = 4 * n + 1 by omega]; exact cell_ints h1 (4 * n + 1) (by omega)
      have c2 : wr.cell? ⟨w.heap.size, (4 * (n : Int) + 2).toNat, none⟩ = some (.int .u8 (bs.getD (4 * n + 2) 0)) := by rw [show (4 * (n : Int) + 2).toNat = 4 * n + 2 by omega]; exact cell_ints h1 (4 * n + 2) (by omega)
      have c3 : wr.cell? ⟨w.heap.size, (4 * (n : Int) + 3).toNat, none⟩ = some (.int .u8 (bs.getD (4 * n + 3) 0)) := by rw [show (4 * (n : Int) + 3).toNat = 4 * n + 3 by omega]; exact cell_ints h1 (4 * n + 3) (by omega)
      have c4 := cell_ints h3 n (by rw [padz_len _ _ (by rw [w16_len]; omega)]; omega)
      have f4 : wr.frozen? ⟨w.heap.size + 1 + 1, n, none⟩ = false := frozen_of_row _ _ _ _ _ h3
      have j0 : (0 : Int) ≤ 4 * (n : Int) := by omega
      have j1 : (0 : Int) ≤ 4 * (n : Int) + 1 := by omega
      have j2 : (0 : Int) ≤ 4 * (n : Int) + 2 := by omega
      have j3 : (0 : Int) ≤ 4 * (n : Int) + 3 := by omega
      have k0 : 4 * (n : Int) < 64 := by omega
      have k1 : 4 * (n : Int) + 1 < 64 := by omega
      have k2 : 4 * (n : Int) + 2 < 64 := by omega
      have k3 : 4 * (n : Int) + 3 < 64 := by omega
      have k4 : (n : Int) < 64 := by omega
      have r1 : IntKind.i64.wrap (4 * (n : Int) + 1) = 4 * (n : Int) + 1 := wrap_i64_id _ (by omega) (by omega)
      have r2 : IntKind.i64.wrap (4 * (n : Int) + 2) = 4 * (n : Int) + 2 := wrap_i64_id _ (by omega) (by omega)
      have r3 : IntKind.i64.wrap (4 * (n : Int) + 3) = 4 * (n : Int) + 3 := wrap_i64_id _ (by omega) (by omega)
      have hne : w.heap.size + 1 + 1 ≠ w.heap.size := by omega
      go_wp2
      go_region_held3 (fun w' => w'.cell? ⟨w.heap.size, (4 * (n : Int)).toNat, none⟩ = some (.int .u8 (bs.getD (4 * n) 0)) ∧ w'.cell? ⟨w.heap.size, (4 * (n : Int) + 1).toNat, none⟩ = some (.int .u8 (bs.getD (4 * n + 1) 0)) ∧ w'.cell? ⟨w.heap.size, (4 * (n : Int) + 2).toNat, none⟩ = some (.int .u8 (bs.getD (4 * n + 2) 0)) ∧ w'.cell? ⟨w.heap.size, (4 * (n : Int) + 3).toNat, none⟩ = some (.int .u8 (bs.getD (4 * n + 3) 0))) (go_keep) (fail)
      go_wp2
      go_roundw
      case rel => exact ⟨n + 1, by omega, by go_num, heap_set_far h1 _ _ (by show w.heap.size ≠ w.heap.size + 1 + 1; omega), heap_set_far h2 _ _ (by show w.heap.size + 1 ≠ w.heap.size + 1 + 1; omega), (by have := heap_set_ints h3 n (word4 (bs[4 * n]?.getD 0) (bs[4 * n + 1]?.getD 0) (bs[4 * n + 2]?.getD 0) (bs[4 * n + 3]?.getD 0)); rw [w16_succ, ← padz_set _ _ _ (by rw [w16_len]; omega), w16_len]; exact this), (hB.setCell (by simp; omega) _).drew⟩
      case measure => simp [intOf]; omega
    · obtain rfl : n = 16 := by omega
      clear hlt
      go_wp2
      obtain ⟨wo, ho⟩ : ∃ wo : World, wo = wr := ⟨_, rfl⟩
      go_loopw [6] (fun i wr => ∃ n : Nat, n ≤ 48 ∧ i = .int .i64 (16 + n : Nat) ∧ wr.heap[w.heap.size + 1]? = some (Obj.cells (ints .u32 (padz [] 64)).toArray 276) ∧ wr.heap[w.heap.size + 1 + 1]? = some (Obj.cells (ints .u32 (padz (schedTo bs n) 64)).toArray 276) ∧ Below w.heap.size w wr) (fun i _ => 64 - (intOf i).toNat)
      case atStart => exact ⟨0, by omega, rfl, h2, h3, hB⟩
      case round =>
        clear h1 h2 h3 hB ho
        obtain ⟨n, hn, rfl, h2, h3, hB⟩ := hrel
        have hlen := schedTo_len bs n
        have hbd := schedTo_bd bs n
        by_cases hlt : n < 48
        · have hnx : schedTo bs (n + 1) = schedTo bs n ++ [nextW (schedTo bs n) (16 + n)] := rfl
          have HN := hid hnx
          clear hnx
          generalize schedTo bs n = v at *
          obtain ⟨t, ht⟩ : ∃ t : Nat, t = 16 + n := ⟨_, rfl⟩
          rw [← ht] at hlen HN ⊢
          have t1 : 16 ≤ t := by omega
          have t2 : t < 64 := by omega
          have HT := hid ht
          clear ht
          have i1 : (16 : Int) ≤ t := by omega
          have i2 : (t : Int) < 64 := by omega
          have c2 : wr.cell? ⟨w.heap.size + 1 + 1, ((t : Int) - 2).toNat, none⟩ = some (.int .u32 (v[t - 2]?.getD 0)) := by rw [show ((t : Int) - 2).toNat = t - 2 by omega]; exact cell_padz h3 (by omega) (t - 2) (by omega)
          have c7 : wr.cell? ⟨w.heap.size + 1 + 1, ((t : Int) - 7).toNat, none⟩ = some (.int .u32 (v[t - 7]?.getD 0)) := by rw [show ((t : Int) - 7).toNat = t - 7 by omega]; exact cell_padz h3 (by omega) (t - 7) (by omega)
          have c15 : wr.cell? ⟨w.heap.size + 1 + 1, ((t : Int) - 15).toNat, none⟩ = some (.int .u32 (v[t - 15]?.getD 0)) := by rw [show ((t : Int) - 15).toNat = t - 15 by omega]; exact cell_padz h3 (by omega) (t - 15) (by omega)
          have c16 : wr.cell? ⟨w.heap.size + 1 + 1, ((t : Int) - 16).toNat, none⟩ = some (.int .u32 (v[t - 16]?.getD 0)) := by rw [show ((t : Int) - 16).toNat = t - 16 by omega]; exact cell_padz h3 (by omega) (t - 16) (by omega)
          have cT := cell_ints h3 t (by rw [padz_len _ _ (by omega)]; omega)
          have fT : wr.frozen? ⟨w.heap.size + 1 + 1, t, none⟩ = false := frozen_of_row _ _ _ _ _ h3
          have j2 : (2 : Int) ≤ (t : Int) := by omega
          have j7 : (7 : Int) ≤ (t : Int) := by omega
          have j15 : (15 : Int) ≤ (t : Int) := by omega
          have j16 : (16 : Int) ≤ (t : Int) := by omega
          have k2 : (t : Int) - 2 < 64 := by omega
          have k7 : (t : Int) - 7 < 64 := by omega
          have k15 : (t : Int) - 15 < 64 := by omega
          have k16 : (t : Int) - 16 < 64 := by omega
          have r2 : IntKind.i64.wrap ((t : Int) - 2) = (t : Int) - 2 := wrap_i64_id _ (by omega) (by omega)
          have r7 : IntKind.i64.wrap ((t : Int) - 7) = (t : Int) - 7 := wrap_i64_id _ (by omega) (by omega)
          have r15 : IntKind.i64.wrap ((t : Int) - 15) = (t : Int) - 15 := wrap_i64_id _ (by omega) (by omega)
          have r16 : IntKind.i64.wrap ((t : Int) - 16) = (t : Int) - 16 := wrap_i64_id _ (by omega) (by omega)
          have b2 := hbd (t - 2)
          have b15 := hbd (t - 15)
          have KL1 := hid (fun w => low1_any (v[t - 2]?.getD 0) b2.1 b2.2 w)
          have KL0 := hid (fun w => low0_any (v[t - 15]?.getD 0) b15.1 b15.2 w)
          clear b2 b15 hbd
          go_wp2
          go_region_held3 (fun w' => w'.cell? ⟨w.heap.size + 1 + 1, ((t : Int) - 2).toNat, none⟩ = some (.int .u32 (v[t - 2]?.getD 0)) ∧ w'.cell? ⟨w.heap.size + 1 + 1, ((t : Int) - 7).toNat, none⟩ = some (.int .u32 (v[t - 7]?.getD 0)) ∧ w'.cell? ⟨w.heap.size + 1 + 1, ((t : Int) - 15).toNat, none⟩ = some (.int .u32 (v[t - 15]?.getD 0)) ∧ w'.cell? ⟨w.heap.size + 1 + 1, ((t : Int) - 16).toNat, none⟩ = some (.int .u32 (v[t - 16]?.getD 0)))
            (first | (simp [*]; done) | (refine ⟨?_, ?_, ?_, ?_⟩ <;> (show World.cell? (World.setCell _ _ _) _ = _; rw [World.cell?_setCell_other _ _ _ _ (by intro h; injection h; omega)]; assumption)))
            (first | (go_at_call 182; refine (KL1.out _).mono ?_; rintro e w' ⟨rfl, rfl⟩) | (go_at_call 183; refine (KL0.out _).mono ?_; rintro e w' ⟨rfl, rfl⟩))
          go_wp2
          go_roundw
          case rel => (repeat apply Exists.intro); exact ⟨⟨n + 1, by omega, by rw [show 16 + (n + 1) = t + 1 by have := HT.out; omega]; go_num, heap_set_far h2 _ _ (by show w.heap.size + 1 ≠ w.heap.size + 1 + 1; omega), (by have := heap_set_ints h3 t (nextW v t); rw [HN.out, ← padz_set _ _ _ (by omega), hlen]; exact this), (hB.setCell (by simp; omega) _).drew⟩, rfl⟩
          case measure => simp [intOf]; omega
        · obtain rfl : n = 48 := by omega
          rw [padz_full _ _ hlen] at h3
          have hsc : schedTo bs 48 = sched bs := rfl
          rw [hsc] at h3 hlen
          clear hsc hlt hbd
          have ho := all_oneCell_toArray (ints_one .u32 (sched bs))
          have hZ : (padz [] 64).length = 64 := padz_len [] 64 (by simp)
          generalize padz [] 64 = Z at *
          go_wp2_with (first | refine wpList_load_row rfl 276 _ rfl _ rfl 276 _ _ _ h3 Tryz.underlying276 rfl (by rw [Tryz.size276, ints_size, hlen]) ?_ | refine wpList_store_row rfl 276 _ _ rfl _ _ rfl rfl 276 _ h2 (by rw [Tryz.size276, ints_size, hlen]) (by rw [ints_size, ints_size, hlen, hZ]) ho ?_)
          exact bodyPost_ret (v := .agg (ints .u32 (sched bs)).toArray) (results_cell_row Tryz.results152 _ _ (w.heap.size + 1) 276 _ _ _ rfl (setRow_heap _ _ _ _ _ _ h2) Tryz.underlying276 rfl (by rw [Tryz.size276, ints_size, hlen])) rfl ⟨rfl, below_setRow hB (by omega) _⟩
end Go.Proofs.YtjpcegjgandnjaaGreatDoor
namespace Go.Proofs.YtjpcegjgandnjaaGreatDoor
set_option linter.unusedVariables false
set_option linter.unusedSimpArgs false
open Go.RowKit
attribute [local go_sem ↓] Go.wp_at_zero Go.wp_at_succ

/-- The round constants, the first state. -/
def kTab : List Int := [1116352408, 1899447441, 3049323471, 3921009573, 961987163, 1508970993, 2453635748, 2870763221, 3624381080, 310598401, 607225278, 1426881987, 1925078388, 2162078206, 2614888103, 3248222580, 3835390401, 4022224774, 264347078, 604807628, 770255983, 1249150122, 1555081692, 1996064986, 2554220882, 2821834349, 2952996808, 3210313671, 3336571891, 3584528711, 113926993, 338241895, 666307205, 773529912, 1294757372, 1396182291, 1695183700, 1986661051, 2177026350, 2456956037, 2730485921, 2820302411, 3259730800, 3345764771, 3516065817, 3600352804, 4094571909, 275423344, 430227734, 506948616, 659060556, 883997877, 958139571, 1322822218, 1537002063, 1747873779, 1955562222, 2024104815, 2227730452, 2361852424, 2428436474, 2756734187, 3204031479, 3329325298]
def fTab : List Int := [1779033703, 3144134277, 1013904242, 2773480762, 1359893119, 2600822924, 528734635, 1541459225]
theorem kTab_len : kTab.length = 64 := rfl

def step1 (k x : Int) : List Int → List Int
  | [a, b, c, d, e, f, g, h] => [IntKind.u32.wrap (IntKind.u32.wrap (IntKind.u32.wrap (IntKind.u32.wrap (IntKind.u32.wrap (h + high1F e) + pickF e f g) + k) + x) + IntKind.u32.wrap (high0F a + mostF a b c)), a, b, c, IntKind.u32.wrap (d + IntKind.u32.wrap (IntKind.u32.wrap (IntKind.u32.wrap (IntKind.u32.wrap (h + high1F e) + pickF e f g) + k) + x)), e, f, g]
  | l => l
def roundsTo (st ws : List Int) : Nat → List Int
  | 0 => st
  | n + 1 => step1 (kTab[n]?.getD 0) (ws[n]?.getD 0) (roundsTo st ws n)
theorem list8 (l : List Int) (h : l.length = 8) : ∃ a b c d e f g i, l = [a, b, c, d, e, f, g, i] := by
  match l, h with
  | [a, b, c, d, e, f, g, i], _ => exact ⟨a, b, c, d, e, f, g, i, rfl⟩
def Bd8 (l : List Int) : Prop := ∀ x ∈ l, 0 ≤ x ∧ x ≤ 4294967295
theorem bd8_step (k x : Int) (l : List Int) (hl : l.length = 8) (h : Bd8 l) : Bd8 (step1 k x l) ∧ (step1 k x l).length = 8 := by
  obtain ⟨a, b, c, d, e, f, g, i, rfl⟩ := list8 l hl
  refine ⟨?_, rfl⟩
  intro y hy
  simp only [step1, List.mem_cons, List.not_mem_nil, or_false] at hy
  rcases hy with rfl | rfl | rfl | rfl | rfl | rfl | rfl | rfl
  · exact wrap_bd _
  · exact h _ (by simp)
  · exact h _ (by simp)
  · exact h _ (by simp)
  · exact wrap_bd _
  · exact h _ (by simp)
  · exact h _ (by simp)
  · exact h _ (by simp)
theorem roundsTo_ok (st ws : List Int) (hl : st.length = 8) (h : Bd8 st) : ∀ n, Bd8 (roundsTo st ws n) ∧ (roundsTo st ws n).length = 8
  | 0 => ⟨h, hl⟩
  | n + 1 => bd8_step _ _ _ (roundsTo_ok st ws hl h n).2 (roundsTo_ok st ws hl h n).1
/-- The state behind a block. -/
def mixF (st bs : List Int) : List Int := List.zipWith (fun x y => IntKind.u32.wrap (x + y)) st (roundsTo st (sched bs) 64)

theorem run_index_arr {P : Program} {t e : TypeId} {len : Nat} {kd : IntKind} (ht : P.underlying t = some (.array len e)) (hu : P.underlying e = some (.int kd)) (hs : (P.info? e).map (·.size) = some 1) (cs : Array Value) (n : Nat) (hn : n < len) (v : Value) (hv : cs[n]? = some v) (w : World) :
    (Instr.index t (.agg cs) (.int .i64 n)).run P w = .ok v w := by
  obtain ⟨i, hi⟩ := info_of_underlying hu
  have hc : P.cellsOf e = 1 := by simp [Program.cellsOf, hi] at hs ⊢; exact hs
  have hcond : (0 : Int) ≤ (n : Int) ∧ (n : Int) < (len : Int) := by omega
  simp only [Instr.index, asIntOf, Sem.run_bind, Sem.run_pure, Result.andThen_ok, run_underlying ht, if_pos hcond, run_sizeOf w hi, hc, Nat.mul_one, Int.toNat_natCast]
  exact part_int hu cs n v hv w

/-- The state while the words are added to it. -/
def addTo (st r : List Int) (n : Nat) : List Int := List.zipWith (fun x y => IntKind.u32.wrap (x + y)) (st.take n) (r.take n) ++ st.drop n
theorem addTo_len (st r : List Int) (n : Nat) (h : st.length = 8) (h2 : r.length = 8) (hn : n ≤ 8) : (addTo st r n).length = 8 := by
  simp [addTo, h, h2]; omega
theorem addTo_end (st r : List Int) (h : st.length = 8) (h2 : r.length = 8) : addTo st r 8 = List.zipWith (fun x y => IntKind.u32.wrap (x + y)) st r := by
  simp [addTo, List.take_of_length_le, List.drop_of_length_le, h, h2]
theorem addTo_get (st r : List Int) (n : Nat) (h : st.length = 8) (h2 : r.length = 8) (hn : n < 8) : (addTo st r n).getD n 0 = st[n]?.getD 0 := by
  rw [addTo, List.getD_eq_getElem?_getD, List.getElem?_append_right (by simp; omega)]
  simp [h, h2, show min n 8 = n by omega]
theorem addTo_set (st r : List Int) (n : Nat) (h : st.length = 8) (h2 : r.length = 8) (hn : n < 8) : (addTo st r n).set n (IntKind.u32.wrap (st[n]?.getD 0 + r[n]?.getD 0)) = addTo st r (n + 1) := by
  unfold addTo
  have e : (List.zipWith (fun x y => IntKind.u32.wrap (x + y)) (st.take n) (r.take n)).length = n := by simp [h, h2]; omega
  rw [List.set_append_right _ _ (by omega), e, Nat.sub_self, List.drop_eq_getElem_cons (by omega : n < st.length), List.set_cons_zero,
    List.take_succ_eq_append_getElem (by omega : n < st.length), List.take_succ_eq_append_getElem (by omega : n < r.length), List.zipWith_append (by simp [h, h2]), List.append_assoc]
  simp [h, h2, hn]

set_option maxRecDepth 100000 in
set_option maxHeartbeats 1000000 in
theorem mix_any (st bs : List Int) (hst : st.length = 8) (hb : bs.length = 64) (hbd : Bd8 st) (w : World) (hsz : 22 ≤ w.heap.size) (hK : ∀ j, j < 64 → w.cell? ⟨21, j, none⟩ = some (.int .u32 (kTab[j]?.getD 0))) :
    Calls Tryz.prog 122 #[.agg (ints .u32 st).toArray, .agg (ints .u8 bs).toArray] w fun e w' => e = .returned (.agg (ints .u32 (mixF st bs)).toArray) ∧ Below w.heap.size w w' := by
  have hR := roundsTo_ok st (sched bs) hst hbd
  have HE := hid (show mixF st bs = List.zipWith (fun x y => IntKind.u32.wrap (x + y)) st (roundsTo st (sched bs) 64) from rfl)
  have hsl := sched_len bs
  have hsb : Bd32 (sched bs) := schedTo_bd bs 48
  go_enter Tryz.func122, Tryz.ntmps122
  go_wp2_with (first | refine wpList_load_row rfl 177 _ rfl _ rfl 177 _ _ _ (by exact heap3_mid w _ _ _) Tryz.underlying177 rfl (by rw [Tryz.size177, ints_size, hb]) ?_)
  refine (schedule_any bs hb _).mono ?_
  rintro e w1 ⟨rfl, hb1⟩
  have d0 := hbel hb1 (heap3_old w _ _ _) (by simp; omega)
  have d2 := hbel hb1 (heap3_new w _ _ _) (by simp)
  have hB1 : Below w.heap.size w w1 := (below3 w _ _ _).trans (hb1.mono (by simp; omega))
  have hs1 : w.heap.size + 1 + 1 < w1.heap.size := hlt d2
  clear hb1
  have ho58 := all_oneCell_toArray (ints_one .u32 (sched bs))
  go_wp2_with (first | (refine wpList_store_row rfl 276 _ _ rfl _ _ rfl rfl 276 _ (by exact hnew _ _) (by rw [Tryz.size276, ints_size, hsl]) (by rw [ints_size, hsl]; rfl) ho58 ?_; rw [setRow_alloc]))
  simp only [Act.put, List.setIfInBounds_toArray, List.set_cons_zero, List.set_cons_succ]
  have e0 := hold (o := Obj.cells (ints .u32 (sched bs)).toArray 276) d0
  have e2 := hold (o := Obj.cells (ints .u32 (sched bs)).toArray 276) d2
  have e3 := hnew w1 (Obj.cells (ints .u32 (sched bs)).toArray 276)
  have hB2 : Below w.heap.size w (w1.alloc (Obj.cells (ints .u32 (sched bs)).toArray 276)) := hB1.alloc (by omega) _
  clear d0 d2 hB1 ho58
  generalize w1.alloc (Obj.cells (ints .u32 (sched bs)).toArray 276) = w2 at *
  generalize hM : w1.heap.size = M at *
  clear hM
  obtain ⟨s0, s1, s2, s3, s4, s5, s6, s7, rfl⟩ := list8 st hst
  have c0 : w2.cell? ⟨w.heap.size, 0, none⟩ = some (.int .u32 s0) := cell_ints e0 0 (by simp)
  have c1 : w2.cell? ⟨w.heap.size, 1, none⟩ = some (.int .u32 s1) := cell_ints e0 1 (by simp)
  have c2 : w2.cell? ⟨w.heap.size, 2, none⟩ = some (.int .u32 s2) := cell_ints e0 2 (by simp)
  have c3 : w2.cell? ⟨w.heap.size, 3, none⟩ = some (.int .u32 s3) := cell_ints e0 3 (by simp)
  have c4 : w2.cell? ⟨w.heap.size, 4, none⟩ = some (.int .u32 s4) := cell_ints e0 4 (by simp)
  have c5 : w2.cell? ⟨w.heap.size, 5, none⟩ = some (.int .u32 s5) := cell_ints e0 5 (by simp)
  have c6 : w2.cell? ⟨w.heap.size, 6, none⟩ = some (.int .u32 s6) := cell_ints e0 6 (by simp)
  have c7 : w2.cell? ⟨w.heap.size, 7, none⟩ = some (.int .u32 s7) := cell_ints e0 7 (by simp)
  go_region_held3 (fun w' => w'.cell? ⟨w.heap.size, 0, none⟩ = some (.int .u32 s0) ∧ w'.cell? ⟨w.heap.size, 1, none⟩ = some (.int .u32 s1) ∧ w'.cell? ⟨w.heap.size, 2, none⟩ = some (.int .u32 s2) ∧ w'.cell? ⟨w.heap.size, 3, none⟩ = some (.int .u32 s3)) (go_keep) (fail)
  go_wp2
  go_region_held3 (fun w' => w'.cell? ⟨w.heap.size, 4, none⟩ = some (.int .u32 s4) ∧ w'.cell? ⟨w.heap.size, 5, none⟩ = some (.int .u32 s5) ∧ w'.cell? ⟨w.heap.size, 6, none⟩ = some (.int .u32 s6) ∧ w'.cell? ⟨w.heap.size, 7, none⟩ = some (.int .u32 s7)) (go_keep) (fail)
  clear c0 c1 c2 c3 c4 c5 c6 c7
  go_wp2
  go_loopw [6, 7, 8, 9, 10, 11, 12, 13, 14, 15, 16, 37] (fun a b c d e f g h _ _ _ i wr => ∃ (n : Nat) (xa xb xc xd xe xf xg xh : Int), n ≤ 64 ∧ i = .int .i64 n ∧ a = .int .u32 xa ∧ b = .int .u32 xb ∧ c = .int .u32 xc ∧ d = .int .u32 xd ∧ e = .int .u32 xe ∧ f = .int .u32 xf ∧ g = .int .u32 xg ∧ h = .int .u32 xh ∧ Hid (roundsTo [s0, s1, s2, s3, s4, s5, s6, s7] (sched bs) n = [xa, xb, xc, xd, xe, xf, xg, xh]) ∧ wr.heap[w.heap.size]? = some (Obj.cells (ints .u32 [s0, s1, s2, s3, s4, s5, s6, s7]).toArray 176) ∧ wr.heap[w.heap.size + 1 + 1]? = some (Obj.cells (ints .u32 [0, 0, 0, 0, 0, 0, 0, 0]).toArray 176) ∧ wr.heap[M]? = some (Obj.cells (ints .u32 (sched bs)).toArray 276) ∧ Below w.heap.size w wr) (fun _ _ _ _ _ _ _ _ _ _ _ i _ => 64 - (intOf i).toNat)
  case atStart => exact ⟨0, s0, s1, s2, s3, s4, s5, s6, s7, by omega, rfl, rfl, rfl, rfl, rfl, rfl, rfl, rfl, rfl, rfl, e0, e2, e3, hB2.drew.drew⟩
  case round =>
    clear e0 e2 e3 hB2
    obtain ⟨n, xa, xb, xc, xd, xe, xf, xg, xh, hn, rfl, rfl, rfl, rfl, rfl, rfl, rfl, rfl, rfl, HR, e0, e2, e3, hB⟩ := hrel
    by_cases hlt : n < 64
    · have hr := (hR n).1
      rw [HR.out] at hr
      have ba := hr xa (by simp)
      have be := hr xe (by simp)
      clear hr
      have i1 : (n : Int) < 64 := by omega
      have cK : wr.cell? ⟨21, n, none⟩ = some (.int .u32 (kTab[n]?.getD 0)) := (hB.cell (p := ⟨21, n, none⟩) (by show 21 < w.heap.size; omega)).trans (hK n hlt)
      have cW : wr.cell? ⟨M, n, none⟩ = some (.int .u32 ((sched bs)[n]?.getD 0)) := by rw [cell_ints e3 n (by omega)]; simp
      have K1 := hid (fun w => high1_any xe be.1 be.2 w)
      have K2 := hid (fun w => pick_any xe xf xg w)
      have K3 := hid (fun w => high0_any xa ba.1 ba.2 w)
      have K4 := hid (fun w => most_any xa xb xc w)
      clear ba be hR HE hK hsb hsl
      go_wp2
      go_region_held3 (fun w' => w'.cell? ⟨21, n, none⟩ = some (.int .u32 (kTab[n]?.getD 0)) ∧ w'.cell? ⟨M, n, none⟩ = some (.int .u32 ((sched bs)[n]?.getD 0))) (go_keep) (first | (go_at_call 153; refine (K1.out _).mono ?_; rintro e w' ⟨rfl, rfl⟩) | (go_at_call 154; refine (K2.out _).mono ?_; rintro e w' ⟨rfl, rfl⟩))
      go_wp2_with (first | (go_at_call 155; refine (K3.out _).mono ?_; rintro e w' ⟨rfl, rfl⟩) | (go_at_call 156; refine (K4.out _).mono ?_; rintro e w' ⟨rfl, rfl⟩))
      go_roundw
      case rel => exact ⟨n + 1, _, _, _, _, _, _, _, _, by omega, by go_num, rfl, rfl, rfl, rfl, rfl, rfl, rfl, rfl, (by show roundsTo _ _ (n + 1) = _; rw [roundsTo, HR.out]; rfl), e0, e2, e3, hB.drew⟩
      case measure => simp [intOf]; omega
    · obtain rfl : n = 64 := by omega
      clear hlt
      go_wp2
      obtain ⟨wo, ho⟩ : ∃ wo : World, wo = wr := ⟨_, rfl⟩
      clear ho
      go_loopw [17, 18, 86] (fun _ _ i wr => ∃ n : Nat, n ≤ 8 ∧ i = .int .i64 n ∧ wr.heap[w.heap.size]? = some (Obj.cells (ints .u32 (addTo [s0, s1, s2, s3, s4, s5, s6, s7] [xa, xb, xc, xd, xe, xf, xg, xh] n)).toArray 176) ∧ wr.heap[w.heap.size + 1 + 1]? = some (Obj.cells (ints .u32 [0, 0, 0, 0, 0, 0, 0, 0]).toArray 176) ∧ Below w.heap.size w wr) (fun _ _ i _ => 8 - (intOf i).toNat)
      case atStart => exact ⟨0, by omega, rfl, e0, e2, hB⟩
      case round =>
        clear e0 e2 e3 hB
        obtain ⟨n, hn, rfl, e0, e2, hB⟩ := hrel
        by_cases hlt : n < 8
        · have i1 : (n : Int) < 8 := by omega
          have hix : ∀ w, (Instr.index 176 (.agg #[Value.int IntKind.u32 xa, Value.int IntKind.u32 xb, Value.int IntKind.u32 xc, Value.int IntKind.u32 xd, Value.int IntKind.u32 xe, Value.int IntKind.u32 xf, Value.int IntKind.u32 xg, Value.int IntKind.u32 xh]) (.int .i64 n)).run Tryz.prog w = .ok (.int .u32 ([xa, xb, xc, xd, xe, xf, xg, xh][n]?.getD 0)) w := fun w => run_index_arr Tryz.underlying176 Tryz.underlying87 Tryz.size87 (ints .u32 [xa, xb, xc, xd, xe, xf, xg, xh]).toArray n hlt _ (by have := ints_get .u32 [xa, xb, xc, xd, xe, xf, xg, xh] n hlt; simpa using this) w
          have cS : wr.cell? ⟨w.heap.size, n, none⟩ = some (.int .u32 ([s0, s1, s2, s3, s4, s5, s6, s7][n]?.getD 0)) := by
            rw [cell_ints e0 n (by rw [addTo_len _ _ _ rfl rfl hn]; exact hlt), addTo_get _ _ _ rfl rfl hlt]
          have fS : wr.frozen? ⟨w.heap.size, n, none⟩ = false := frozen_of_row _ _ _ _ _ e0
          have HS := hid (addTo_set [s0, s1, s2, s3, s4, s5, s6, s7] [xa, xb, xc, xd, xe, xf, xg, xh] n rfl rfl hlt)
          generalize hrn : [xa, xb, xc, xd, xe, xf, xg, xh][n]?.getD 0 = rn at *
          generalize hsn : [s0, s1, s2, s3, s4, s5, s6, s7][n]?.getD 0 = sn at *
          clear hrn hsn
          go_wp2
          go_roundw
          case rel => exact ⟨n + 1, by omega, by go_num, (by have := heap_set_ints e0 n (IntKind.u32.wrap (sn + rn)); rw [HS.out] at this; exact this), heap_set_far e2 _ _ (by show w.heap.size + 1 + 1 ≠ w.heap.size; omega), hB.setCell (by simp) _⟩
          case measure => simp [intOf]; omega
        · obtain rfl : n = 8 := by omega
          rw [addTo_end _ _ rfl rfl, ← HR.out, ← HE.out] at e0
          have hz : (mixF [s0, s1, s2, s3, s4, s5, s6, s7] bs).length = 8 := by rw [HE.out, HR.out]; rfl
          have ho := all_oneCell_toArray (ints_one .u32 (mixF [s0, s1, s2, s3, s4, s5, s6, s7] bs))
          clear hlt hR hsb hsl HE HR
          go_wp2_with (first | refine wpList_load_row rfl 176 _ rfl _ rfl 176 _ _ _ e0 Tryz.underlying176 rfl (by rw [Tryz.size176, ints_size, hz]) ?_ | refine wpList_store_row rfl 176 _ _ rfl _ _ rfl rfl 176 _ e2 (by rw [Tryz.size176, ints_size, hz]) (by rw [ints_size, ints_size, hz]; rfl) ho ?_)
          exact bodyPost_ret (v := .agg (ints .u32 (mixF [s0, s1, s2, s3, s4, s5, s6, s7] bs)).toArray) (results_cell_row Tryz.results122 _ _ (w.heap.size + 1 + 1) 176 _ _ _ rfl (setRow_heap _ _ _ _ _ _ e2) Tryz.underlying176 rfl (by rw [Tryz.size176, ints_size, hz])) rfl ⟨rfl, below_setRow hB (by omega) _⟩
end Go.Proofs.YtjpcegjgandnjaaGreatDoor
namespace Go.Proofs.YtjpcegjgandnjaaGreatDoor
set_option linter.unusedVariables false
set_option linter.unusedSimpArgs false
open Go.RowKit
attribute [local go_sem ↓] Go.wp_at_zero Go.wp_at_succ

def wb (x : Int) : List Int := [x / 16777216, x / 65536 % 256, x / 256 % 256, x % 256]
def stBytes (st : List Int) : List Int := st.flatMap wb
theorem stBytes_len : ∀ st : List Int, (stBytes st).length = 4 * st.length
  | [] => rfl
  | x :: st => by have := stBytes_len st; simp only [stBytes, List.flatMap_cons, List.length_append, wb, List.length_cons, List.length_nil] at this ⊢; omega
theorem stBytes_take (st : List Int) (n : Nat) (h : n < st.length) : stBytes (st.take (n + 1)) = stBytes (st.take n) ++ wb (st[n]?.getD 0) := by
  rw [List.take_succ_eq_append_getElem h, stBytes, List.flatMap_append, List.getElem?_eq_getElem h]; simp [stBytes]
theorem padz_set4 (v : List Int) (n k : Nat) (a b c d : Int) (hk : v.length = k) (h : k + 4 ≤ n) : ((((padz v n).set k a).set (k + 1) b).set (k + 2) c).set (k + 3) d = padz (v ++ [a, b, c, d]) n := by
  have e0 := padz_set v n a (by omega)
  have e1 := padz_set (v ++ [a]) n b (by simp; omega)
  have e2 := padz_set (v ++ [a] ++ [b]) n c (by simp; omega)
  have e3 := padz_set (v ++ [a] ++ [b] ++ [c]) n d (by simp; omega)
  simp only [List.length_append, List.length_cons, List.length_nil, hk] at e0 e1 e2 e3
  rw [e0, e1, e2, e3]; simp

set_option maxRecDepth 100000 in
set_option maxHeartbeats 1000000 in
theorem stateBytes_any (st : List Int) (hst : st.length = 8) (hbd : Bd8 st) (w : World) :
    Calls Tryz.prog 88 #[.agg (ints .u32 st).toArray] w fun e w' => e = .returned (.agg (ints .u8 (stBytes st)).toArray) ∧ Below w.heap.size w w' := by
  go_enter Tryz.func88, Tryz.ntmps88
  go_wp2_with (first | refine wpList_load_row rfl 176 _ rfl _ rfl 176 _ _ _ (by exact heap3_old w _ _ _) Tryz.underlying176 rfl (by rw [Tryz.size176, ints_size, hst]) ?_)
  go_loopw [4, 5, 6, 8] (fun _ _ _ i wr => ∃ n : Nat, n ≤ 8 ∧ i = .int .i64 n ∧ wr.heap[w.heap.size + 1]? = some (Obj.cells (ints .u8 (padz [] 32)).toArray 34) ∧ wr.heap[w.heap.size + 1 + 1]? = some (Obj.cells (ints .u8 (padz (stBytes (st.take n)) 32)).toArray 34) ∧ Below w.heap.size w wr) (fun _ _ _ i _ => 8 - (intOf i).toNat)
  case atStart => exact ⟨0, by omega, rfl, heap3_mid w _ _ _, heap3_new w _ _ _, below3 w _ _ _⟩
  case round =>
    obtain ⟨n, hn, rfl, h2, h3, hB⟩ := hrel
    have hlen : (stBytes (st.take n)).length = 4 * n := by rw [stBytes_len, List.length_take]; omega
    by_cases hlt : n < 8
    · have hix : ∀ w, (Instr.index 176 (.agg (ints .u32 st).toArray) (.int .i64 n)).run Tryz.prog w = .ok (.int .u32 (st[n]?.getD 0)) w := fun w => run_index_arr Tryz.underlying176 Tryz.underlying87 Tryz.size87 (ints .u32 st).toArray n hlt _ (by have := ints_get .u32 st n (by omega); simpa using this) w
      have hxb : 0 ≤ st[n]?.getD 0 ∧ st[n]?.getD 0 ≤ 4294967295 := by
        rw [List.getElem?_eq_getElem (by omega)]; exact hbd _ (List.getElem_mem _)
      have HT := hid (stBytes_take st n (by omega))
      have HS := hid (fun a b c d => padz_set4 (stBytes (st.take n)) 32 (4 * n) a b c d hlen (by omega))
      generalize st[n]?.getD 0 = x at *
      have fz : ∀ j, wr.frozen? ⟨w.heap.size + 1 + 1, j, none⟩ = false := fun j => frozen_of_row _ _ _ _ _ h3
      have cz : ∀ j, j < 32 → wr.cell? ⟨w.heap.size + 1 + 1, j, none⟩ = some (.int .u8 ((padz (stBytes (st.take n)) 32).getD j 0)) := fun j hj => cell_ints h3 j (by rw [padz_len _ _ (by omega)]; exact hj)
      have c0 := cz (4 * n) (by omega)
      have c1 := cz (4 * n + 1) (by omega)
      have c2 := cz (4 * n + 2) (by omega)
      have c3 := cz (4 * n + 3) (by omega)
      have i1 : (n : Int) < 8 := by omega
      go_wp2
      go_roundw
      case rel => exact ⟨n + 1, by omega, by go_num, heap_set_far (heap_set_far (heap_set_far (heap_set_far h2 _ _ (by show w.heap.size + 1 ≠ w.heap.size + 1 + 1; omega)) _ _ (by show w.heap.size + 1 ≠ w.heap.size + 1 + 1; omega)) _ _ (by show w.heap.size + 1 ≠ w.heap.size + 1 + 1; omega)) _ _ (by show w.heap.size + 1 ≠ w.heap.size + 1 + 1; omega), (by have := heap_set_ints (heap_set_ints (heap_set_ints (heap_set_ints h3 (4 * n) (x / 16777216)) (4 * n + 1) (x / 65536 % 256)) (4 * n + 2) (x / 256 % 256)) (4 * n + 3) (x % 256); rw [HS.out, show [x / 16777216, x / 65536 % 256, x / 256 % 256, x % 256] = wb x from rfl, ← HT.out] at this; exact this), (((hB.setCell (by simp; omega) _).setCell (by simp; omega) _).setCell (by simp; omega) _).setCell (by simp; omega) _⟩
      case measure => simp [intOf]; omega
    · obtain rfl : n = 8 := by omega
      rw [show st.take 8 = st from List.take_of_length_le (by omega)] at h3 hlen
      rw [padz_full _ _ hlen] at h3
      have ho := all_oneCell_toArray (ints_one .u8 (stBytes st))
      have hZ : (padz [] 32).length = 32 := padz_len [] 32 (by simp)
      generalize padz [] 32 = Z at *
      clear hlt hn
      go_wp2_with (first | refine wpList_load_row rfl 34 _ rfl _ rfl 34 _ _ _ h3 Tryz.underlying34 rfl (by rw [Tryz.size34, ints_size, hlen]) ?_ | refine wpList_store_row rfl 34 _ _ rfl _ _ rfl rfl 34 _ h2 (by rw [Tryz.size34, ints_size, hlen]) (by rw [ints_size, ints_size, hlen, hZ]) ho ?_)
      exact bodyPost_ret (v := .agg (ints .u8 (stBytes st)).toArray) (results_cell_row Tryz.results88 _ _ (w.heap.size + 1) 34 _ _ _ rfl (setRow_heap _ _ _ _ _ _ h2) Tryz.underlying34 rfl (by rw [Tryz.size34, ints_size, hlen])) rfl ⟨rfl, below_setRow hB (by omega) _⟩
end Go.Proofs.YtjpcegjgandnjaaGreatDoor
namespace Go.Proofs.YtjpcegjgandnjaaGreatDoor
set_option linter.unusedVariables false
set_option linter.unusedSimpArgs false
open Go.RowKit
attribute [local go_sem ↓] Go.wp_at_zero Go.wp_at_succ

/-- The package's two tables lie in memory as their text says. -/
def Glob (w : World) : Prop := 22 ≤ w.heap.size ∧ w.rangeAt 21 0 (ints .u32 kTab) ∧ w.rangeAt 20 0 (ints .u32 fTab)
theorem Glob.below {w w1 : World} {B : Nat} (h : Glob w) (hb : Below B w w1) (hB : 22 ≤ B) : Glob w1 :=
  ⟨Nat.le_trans h.1 hb.size, rng_below h.2.1 hb (by omega), rng_below h.2.2 hb (by omega)⟩
theorem Glob.k {w : World} (h : Glob w) : ∀ j, j < 64 → w.cell? ⟨21, j, none⟩ = some (.int .u32 (kTab[j]?.getD 0)) := fun j hj => by
  have := h.2.1 j (.int .u32 (kTab[j]?.getD 0)) (by have := ints_get .u32 kTab j (by rw [kTab_len]; exact hj); simpa using this)
  rwa [Nat.zero_add] at this

/-- A hasher's cells. -/
def hcells (st bk : List Int) (tk : Int) : List Value := ints .u32 st ++ (ints .u8 bk ++ [.int .u64 tk])
theorem hcells_len (st bk : List Int) (tk : Int) (h1 : st.length = 8) (h2 : bk.length = 64) : (hcells st bk tk).length = 73 := by simp [hcells, ints_len, h1, h2]
theorem hcells_one (st bk : List Int) (tk : Int) : ∀ v ∈ hcells st bk tk, v.oneCell' = true := fun v hv => by
  simp only [hcells, List.mem_append, List.mem_singleton] at hv
  rcases hv with hv | hv | rfl
  · exact ints_one _ _ v hv
  · exact ints_one _ _ v hv
  · rfl
/-- At block g lies a hasher. -/
def Hsh (w : World) (g : Nat) (st bk : List Int) (tk : Int) : Prop := w.heap[g]? = some (.cells (hcells st bk tk).toArray 180 (0, 0)) ∧ st.length = 8 ∧ bk.length = 64
theorem Hsh.state {w : World} {g : Nat} {st bk : List Int} {tk : Int} (h : Hsh w g st bk tk) : w.rangeAt g 0 (ints .u32 st) := fun j v hv => by
  have hj : j < (ints .u32 st).length := (List.getElem?_eq_some_iff.1 hv).1
  rw [cell_of_row _ _ _ _ _ _ h.1]; simp only [hcells, Nat.zero_add, List.getElem?_toArray]; rw [List.getElem?_append_left hj, hv]
theorem Hsh.block {w : World} {g : Nat} {st bk : List Int} {tk : Int} (h : Hsh w g st bk tk) : w.rangeAt g 8 (ints .u8 bk) := fun j v hv => by
  have hj : j < (ints .u8 bk).length := (List.getElem?_eq_some_iff.1 hv).1
  have hs : (ints .u32 st).length = 8 := by rw [ints_len, h.2.1]
  rw [cell_of_row _ _ _ _ _ _ h.1]; simp only [hcells, List.getElem?_toArray]; rw [List.getElem?_append_right (by omega), hs, show 8 + j - 8 = j by omega, List.getElem?_append_left hj, hv]
theorem Hsh.taken {w : World} {g : Nat} {st bk : List Int} {tk : Int} (h : Hsh w g st bk tk) : w.cell? ⟨g, 72, none⟩ = some (.int .u64 tk) := by
  have hs : (ints .u32 st).length = 8 := by rw [ints_len, h.2.1]
  have hb : (ints .u8 bk).length = 64 := by rw [ints_len, h.2.2]
  rw [cell_of_row _ _ _ _ _ _ h.1]; simp only [hcells, List.getElem?_toArray]; rw [List.getElem?_append_right (by omega), hs, List.getElem?_append_right (by omega), hb]; rfl
def z64 : List Int := padz [] 64

theorem built_first : Tryz.prog.built 180 [(0, .agg (ints .u32 fTab).toArray)] = some (hcells fTab z64 0).toArray := by kernel_rfl

set_option maxRecDepth 100000 in
set_option maxHeartbeats 400000 in
theorem new_any (w : World) (hG : Glob w) :
    Calls Tryz.prog 54 #[] w fun e w' => e = .returned (.pointer (some ⟨w.heap.size, 0, none⟩)) ∧ w' = w.alloc (.cells (hcells fTab z64 0).toArray 180) := by
  go_enter Tryz.func54, Tryz.ntmps54
  go_wp2_with (first | refine wpList_load_mid rfl 176 _ rfl 20 0 rfl (ints .u32 fTab) _ hG.2.2 Tryz.underlying176 rfl (by rw [Tryz.size176, ints_len]; rfl) ?_ | (refine wpList_build rfl 180 _ rfl ?_ ?_))
  · rw [built_first]; rfl
  · rw [built_first]
    go_ret
    exact ⟨rfl, rfl⟩

set_option maxRecDepth 100000 in
set_option maxHeartbeats 400000 in
theorem filled_any (w : World) (g : Nat) (st bk : List Int) (tk : Int) (h : Hsh w g st bk tk) (h0 : 0 ≤ tk) (h1 : tk ≤ 18446744073709551615) :
    Calls Tryz.prog 85 #[.pointer (some ⟨g, 0, none⟩)] w fun e w' => e = .returned (.int .i64 (tk % 64)) ∧ w' = w := by
  have hc := h.taken
  go_enter Tryz.func85, Tryz.ntmps85
  go_wp2
  go_ret
  exact ⟨rfl, rfl⟩
def z8 : List Int := padz [] 8
theorem zero55 (w : World) : (zeroValue 180).run Tryz.prog w = .ok (.agg (hcells z8 z64 0).toArray) w := by kernel_rfl
theorem zh_len : (hcells z8 z64 0).length = 73 := hcells_len _ _ _ rfl rfl
end Go.Proofs.YtjpcegjgandnjaaGreatDoor
