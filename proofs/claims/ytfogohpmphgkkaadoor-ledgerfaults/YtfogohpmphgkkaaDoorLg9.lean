import Derived.Test.YtfogohpmphgkkaaDoorLg1
import Derived.Shelf.LaysM
import Derived.Shelf.Strconv.Itoa3
import Derived.Lib.AppendIntMem
import Derived.Lib.ItoaLen
namespace Go.Proofs.YtfogohpmphgkkaaDoor
set_option linter.unusedVariables false
set_option linter.unusedSimpArgs false
open Go.RowKit Go.Shelf Go.Sort
attribute [local go_sem ↓] Go.wp_at_zero Go.wp_at_succ

def itoaRen : Go.Shelf.Ren := ⟨fun | 171 => 21 | 243 => 26 | 246 => 27 | 283 => 28 | 284 => 29 | 285 => 30 | 286 => 31 | 129 => 33 | 317 => 32 | 318 => 34 | 319 => 35 | 320 => 36 | 337 => 37 | 338 => 38 | n => n, fun | 3 => 3 | 9 => 9 | 2 => 2 | 4 => 4 | 171 => 72 | 0 => 0 | 53 => 73 | 37 => 61 | 5 => 5 | 173 => 76 | 212 => 79 | 51 => 80 | 20 => 20 | 213 => 81 | 46 => 83 | 232 => 86 | 233 => 87 | n => n, fun | 17 => 20 | 18 => 21 | 19 => 22 | n => n⟩
theorem itoaLays : Go.Proofs.LaysM.n171 Tryd.prog itoaRen := {
  mixed := by kernel_rfl
  f129 := Tryd.func33.trans (congrArg some (by kernel_rfl))
  f171 := Tryd.func21.trans (congrArg some (by kernel_rfl))
  f243 := Tryd.func26.trans (congrArg some (by kernel_rfl))
  f246 := Tryd.func27.trans (congrArg some (by kernel_rfl))
  f283 := Tryd.func28.trans (congrArg some (by kernel_rfl))
  f284 := Tryd.func29.trans (congrArg some (by kernel_rfl))
  f285 := Tryd.func30.trans (congrArg some (by kernel_rfl))
  f286 := Tryd.func31.trans (congrArg some (by kernel_rfl))
  f317 := Tryd.func32.trans (congrArg some (by kernel_rfl))
  f318 := Tryd.func34.trans (congrArg some (by kernel_rfl))
  f319 := Tryd.func35.trans (congrArg some (by kernel_rfl))
  f320 := Tryd.func36.trans (congrArg some (by kernel_rfl))
  f337 := Tryd.func37.trans (congrArg some (by kernel_rfl))
  f338 := Tryd.func38.trans (congrArg some (by kernel_rfl))
  t0 := Tryd.underlying0
  a0 := Tryd.isAgg0
  z0 := Tryd.sizeOf0
  v0 := Tryd.zeroValue0
  t2 := Tryd.underlying2
  a2 := Tryd.isAgg2
  z2 := Tryd.sizeOf2
  v2 := Tryd.zeroValue2
  t3 := Tryd.underlying3
  a3 := Tryd.isAgg3
  z3 := Tryd.sizeOf3
  v3 := Tryd.zeroValue3
  t4 := Tryd.underlying4
  a4 := Tryd.isAgg4
  z4 := Tryd.sizeOf4
  v4 := Tryd.zeroValue4
  t5 := Tryd.underlying5
  a5 := Tryd.isAgg5
  z5 := Tryd.sizeOf5
  v5 := Tryd.zeroValue5
  t9 := Tryd.underlying9
  a9 := Tryd.isAgg9
  z9 := Tryd.sizeOf9
  v9 := Tryd.zeroValue9
  t20 := Tryd.underlying20
  a20 := Tryd.isAgg20
  z20 := Tryd.sizeOf20
  v20 := Tryd.zeroValue20
  t37 := Tryd.underlying61
  a37 := Tryd.isAgg61
  z37 := Tryd.sizeOf61
  v37 := Tryd.zeroValue61
  t46 := Tryd.underlying83
  a46 := Tryd.isAgg83
  z46 := Tryd.sizeOf83
  v46 := Tryd.zeroValue83
  t51 := Tryd.underlying80
  a51 := Tryd.isAgg80
  z51 := Tryd.sizeOf80
  v51 := Tryd.zeroValue80
  t53 := Tryd.underlying73
  a53 := Tryd.isAgg73
  z53 := Tryd.sizeOf73
  v53 := Tryd.zeroValue73
  t171 := Tryd.underlying72
  a171 := Tryd.isAgg72
  z171 := Tryd.sizeOf72
  v171 := Tryd.zeroValue72
  t173 := Tryd.underlying76
  a173 := Tryd.isAgg76
  z173 := Tryd.sizeOf76
  v173 := Tryd.zeroValue76
  t212 := Tryd.underlying79
  a212 := Tryd.isAgg79
  z212 := Tryd.sizeOf79
  v212 := Tryd.zeroValue79
  t213 := Tryd.underlying81
  a213 := Tryd.isAgg81
  z213 := Tryd.sizeOf81
  t232 := Tryd.underlying86
  a232 := Tryd.isAgg86
  z232 := Tryd.sizeOf86
  v232 := Tryd.zeroValue86
  t233 := Tryd.underlying87
  a233 := Tryd.isAgg87
  z233 := Tryd.sizeOf87
  v233 := Tryd.zeroValue87
  g17 := by kernel_rfl
  g18 := by kernel_rfl
  g19 := by kernel_rfl
  i0 := by kernel_rfl
  i2 := by kernel_rfl
  i3 := by kernel_rfl
  i4 := by kernel_rfl
  i5 := by kernel_rfl
  i9 := by kernel_rfl
  i20 := by kernel_rfl
  i37 := by kernel_rfl
  i46 := by kernel_rfl
  i51 := by kernel_rfl
  i53 := by kernel_rfl
  i171 := by kernel_rfl
  i173 := by kernel_rfl
  i212 := by kernel_rfl
  i232 := by kernel_rfl
  i233 := by kernel_rfl
  m17 := by kernel_rfl
  m18 := by kernel_rfl
  m19 := by kernel_rfl }
/-- The table that Itoa reads. -/
def TabP (w : World) : Prop := Lib.TabIs Tryd.prog w "internal/strconv.uint64pow10" .u64 Lib.pow10Tab
theorem itoa_any (w : World) (hT : TabP w) (n : Int) (h0 : -9223372036854775808 ≤ n) (h1 : n ≤ 9223372036854775807) :
    Calls Tryd.prog 21 #[.int .i64 n] w fun e w' => e = .returned (.string ⟨(Lib.itoa n).toArray⟩) ∧ Below w.heap.size w w' :=
  (Any.strconv_Itoa itoaLays n h0 h1 w hT).mono fun e w' ⟨h, k, os, hw⟩ => ⟨h, by rw [hw]; exact Lib.below_grow _ w (Nat.le_refl _) k os⟩
theorem bl3 {a b c : World} (h1 : Below a.heap.size a b) (h2 : Below b.heap.size b c) : Below a.heap.size a c := h1.trans (h2.mono h1.size)
theorem bl1 (w : World) (o : Obj) : Below w.heap.size w (w.alloc o) := (Below.refl _ _).alloc (Nat.le_refl _) _
theorem dec_step {m q : Nat} {l : List UInt8} {c : UInt8} (hq0 : q ≠ 0) (hl : l.length ≤ 19) (hp : q * 10 ^ l.length ≤ m) (h1 : m ≤ 9223372036854775808) : (c :: l).length ≤ 19 ∧ q / 10 * 10 ^ (c :: l).length ≤ m := by
  constructor
  · rw [List.length_cons]
    rcases Nat.lt_or_ge l.length 19 with h | h
    · omega
    · have e : l.length = 19 := by omega
      rw [e] at hp
      have : 1 * 10 ^ 19 ≤ q * 10 ^ 19 := Nat.mul_le_mul_right _ (by omega)
      omega
  · rw [List.length_cons, Nat.pow_succ, Nat.mul_comm (10 ^ l.length) 10, ← Nat.mul_assoc]
    exact Nat.le_trans (Nat.mul_le_mul_right _ (Nat.div_mul_le_self q 10)) hp
theorem dec_dig {m q : Nat} {l : List UInt8} (hq0 : q ≠ 0) (e1 : q ≠ 0 → Lib.decDigits m = Lib.decDigits q ++ l) :
    (q / 10 ≠ 0 → Lib.decDigits m = Lib.decDigits (q / 10) ++ (UInt8.ofNat (48 + q % 10) :: l)) ∧ (q / 10 = 0 → (UInt8.ofNat (48 + q % 10) :: l) = Lib.decDigits m) := by
  have e := e1 hq0
  rw [Lib.decDigits.eq_1 q] at e
  constructor
  · intro h
    rw [dif_neg (by omega)] at e
    rw [e, List.append_assoc]; rfl
  · intro h
    rw [dif_pos (by omega)] at e
    rw [e, show q % 10 = q by omega]; rfl
theorem conv1 (w : World) (ch : UInt8) (z : Int) (hz : z = (ch.toNat : Int)) : (convert 61 9 (.slice (some ⟨w.heap.size, 0, none⟩) 1 1)).run Tryd.prog (w.alloc (.cells #[.int .u8 z] 5)) = .ok (.string ⟨#[ch]⟩) (w.alloc (.cells #[.int .u8 z] 5)) := by
  have h := run_convert_bytes_back (P := Tryd.prog) (w.alloc (.cells #[.int .u8 z] 5)) 61 9 5 ⟨w.heap.size, 0, none⟩ 1 [ch] Tryd.underlying61 Tryd.underlying5 Tryd.underlying9 (fun j hj => by
    obtain rfl : j = 0 := by simpa using hj
    exact (World.cell?_alloc_at (w := w) #[.int .u8 z] 5 w.heap.size 0 rfl).trans (by rw [hz]; rfl))
  exact h
theorem dig_ch (q : Nat) : ((UInt8.ofNat (48 + q % 10)).toNat : Int) = 48 + (q : Int) % 10 := by
  have : (UInt8.ofNat (48 + q % 10)).toNat = 48 + q % 10 := by rw [UInt8.toNat_ofNat']; omega
  rw [this]; omega
set_option maxRecDepth 100000 in
set_option maxHeartbeats 2000000 in
theorem dec_pos (w : World) (m : Nat) (h0 : m ≠ 0) (h1 : m ≤ 9223372036854775807) :
    Calls Tryd.prog 22 #[.int .i64 (m : Int)] w fun e w' => e = .returned (.string ⟨(Lib.decDigits m).toArray⟩) ∧ Below w.heap.size w w' := by
  have hm0 : (((m : Int)) == 0) = false := by simpa using h0
  have hm1 : decide ((m : Int) < 0) = false := by simp
  go_enter Tryd.func22, Tryd.ntmps22
  go_wp2
  go_loopw [0, 4] (fun x s w' => ∃ (q : Nat) (l : List UInt8), q ≤ m ∧ x = .int .i64 (q : Int) ∧ s = .string ⟨l.toArray⟩ ∧ l.length ≤ 19 ∧ q * 10 ^ l.length ≤ m ∧ (q ≠ 0 → Lib.decDigits m = Lib.decDigits q ++ l) ∧ (q = 0 → l = Lib.decDigits m) ∧ Below w.heap.size w w')
    (fun x _ _ => (intOf x).toNat)
  case atStart => exact ⟨m, [], Nat.le_refl _, rfl, rfl, by simp, by simp, fun _ => by simp, fun h => absurd h h0, Below.refl _ _⟩
  case round =>
    obtain ⟨q, l, hq, rfl, rfl, hl, hp, e1, e2, hb⟩ := hrel
    replace hp := hid hp
    replace e1 := hid e1
    replace e2 := hid e2
    replace hb := hid hb
    by_cases hq0 : q = 0
    · subst hq0
      go_wp2
      go_ret
      exact ⟨by rw [show l = Lib.decDigits m from e2.out trivial]; rfl, hb.out⟩
    · have hqi : (((q : Int)) == 0) = false := by simpa using hq0
      have hq1 : decide ((q : Int) % 10 < 0) = false := by simp; omega
      have hd1 := hid (dec_step (c := UInt8.ofNat (48 + q % 10)) hq0 hl hp.out (by omega))
      have hd2 := hid (dec_dig hq0 e1.out)
      have hch := dig_ch q
      generalize UInt8.ofNat (48 + q % 10) = ch at *
      have hCv := fun w => conv1 w ch _ hch.symm
      clear hch
      have hAd : ∀ w : World, (Op.stringOp .add ⟨#[ch]⟩ ⟨l.toArray⟩).run Tryd.prog w = .ok (.string ⟨(ch :: l).toArray⟩) w := fun w => by
        have := run_string_add_lists (P := Tryd.prog) (w := w) [ch] l (by simp) (by omega)
        simpa using this
      have hki : (q : Int) ≤ 9223372036854775807 := by omega
      go_wp2
      go_roundw
      case rel => exact ⟨q / 10, ch :: l, by omega, by simp, rfl, hd1.out.1, hd1.out.2, hd2.out.1, hd2.out.2, bl3 hb.out (bl1 _ _)⟩
      case measure => simp [intOf]; omega
set_option maxRecDepth 100000 in
set_option maxHeartbeats 2000000 in
theorem dec_neg (w : World) (m : Nat) (h0 : m ≠ 0) (h1 : m ≤ 9223372036854775808) :
    Calls Tryd.prog 22 #[.int .i64 (-(m : Int))] w fun e w' => e = .returned (.string ⟨(45 :: Lib.decDigits m).toArray⟩) ∧ Below w.heap.size w w' := by
  have hm0 : ((-(m : Int)) == 0) = false := by simpa using h0
  have hm1 : decide (-(m : Int) < 0) = true := by simp; omega
  have hm2 : 0 < m := by omega
  go_enter Tryd.func22, Tryd.ntmps22
  go_wp2
  go_loopw [0, 4] (fun x s w' => ∃ (q : Nat) (l : List UInt8), q ≤ m ∧ x = .int .i64 (-(q : Int)) ∧ s = .string ⟨l.toArray⟩ ∧ l.length ≤ 19 ∧ q * 10 ^ l.length ≤ m ∧ (q ≠ 0 → Lib.decDigits m = Lib.decDigits q ++ l) ∧ (q = 0 → l = Lib.decDigits m) ∧ Below w.heap.size w w')
    (fun x _ _ => (intOf x).natAbs)
  case atStart => exact ⟨m, [], Nat.le_refl _, rfl, rfl, by simp, by simp, fun _ => by simp, fun h => absurd h h0, Below.refl _ _⟩
  case round =>
    obtain ⟨q, l, hq, rfl, rfl, hl, hp, e1, e2, hb⟩ := hrel
    replace hp := hid hp
    replace e1 := hid e1
    replace e2 := hid e2
    replace hb := hid hb
    by_cases hq0 : q = 0
    · subst hq0
      have hAd : ∀ w : World, (Op.stringOp .add ⟨#[45]⟩ ⟨l.toArray⟩).run Tryd.prog w = .ok (.string ⟨(45 :: l).toArray⟩) w := fun w => by
        have := run_string_add_lists (P := Tryd.prog) (w := w) [45] l (by simp) (by omega)
        simpa using this
      go_wp2
      go_ret
      exact ⟨by rw [show l = Lib.decDigits m from e2.out trivial]; rfl, hb.out⟩
    · have hqi : ((-(q : Int)) == 0) = false := by simpa using hq0
      have hd1 := hid (dec_step (c := UInt8.ofNat (48 + q % 10)) hq0 hl hp.out (by omega))
      have hd2 := hid (dec_dig hq0 e1.out)
      have hch := dig_ch q
      generalize UInt8.ofNat (48 + q % 10) = ch at *
      have hAd : ∀ w : World, (Op.stringOp .add ⟨#[ch]⟩ ⟨l.toArray⟩).run Tryd.prog w = .ok (.string ⟨(ch :: l).toArray⟩) w := fun w => by
        have := run_string_add_lists (P := Tryd.prog) (w := w) [ch] l (by simp) (by omega)
        simpa using this
      have hki : (q : Int) ≤ 9223372036854775808 := by omega
      by_cases hd : q % 10 = 0
      · have hd3 : decide (0 < (q : Int) % 10) = false := by simp; omega
        have hCv := fun w => conv1 w ch (48 + -((q : Int) % 10)) (by omega)
        clear hch
        go_wp2
        go_roundw
        case rel => exact ⟨q / 10, ch :: l, by omega, by simp, rfl, hd1.out.1, hd1.out.2, hd2.out.1, hd2.out.2, bl3 hb.out (bl1 _ _)⟩
        case measure => simp [intOf]; omega
      · have hd3 : decide (0 < (q : Int) % 10) = true := by simp; omega
        have hCv := fun w => conv1 w ch (48 + (q : Int) % 10) (by omega)
        clear hch
        go_wp2
        go_roundw
        case rel => exact ⟨q / 10, ch :: l, by omega, by simp, rfl, hd1.out.1, hd1.out.2, hd2.out.1, hd2.out.2, bl3 hb.out (bl1 _ _)⟩
        case measure => simp [intOf]; omega
theorem decimal_any (w : World) (n : Int) (h0 : -9223372036854775808 ≤ n) (h1 : n ≤ 9223372036854775807) (hn : n ≠ 0) :
    Calls Tryd.prog 22 #[.int .i64 n] w fun e w' => e = .returned (.string ⟨(Lib.itoa n).toArray⟩) ∧ Below w.heap.size w w' := by
  unfold Lib.itoa
  by_cases h : n < 0
  · rw [if_pos h]
    have := dec_neg w n.natAbs (by omega) (by omega)
    rw [show -((n.natAbs : Nat) : Int) = n by omega] at this
    exact this
  · rw [if_neg h]
    have := dec_pos w n.toNat (by omega) (by omega)
    rw [show ((n.toNat : Nat) : Int) = n by omega] at this
    exact this
end Go.Proofs.YtfogohpmphgkkaaDoor
