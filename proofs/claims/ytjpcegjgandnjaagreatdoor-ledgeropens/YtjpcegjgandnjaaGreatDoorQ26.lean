import Derived.Test.YtjpcegjgandnjaaGreatDoorQ25
import Derived.Shelf.LaysM
import Derived.Shelf.Strconv.Itoa3
import Derived.Lib.AppendIntMem
import Derived.Lib.ItoaLen
namespace Go.Proofs.YtjpcegjgandnjaaGreatDoor
set_option linter.unusedVariables false
set_option linter.unusedSimpArgs false
open Go.RowKit Go.Shelf Go.Sort
attribute [local go_sem ↓] Go.wp_at_zero Go.wp_at_succ

def itoaRen : Go.Shelf.Ren := ⟨fun | 171 => 231 | 243 => 232 | 246 => 233 | 283 => 234 | 284 => 235 | 285 => 236 | 286 => 237 | 129 => 239 | 317 => 238 | 318 => 240 | 319 => 241 | 320 => 242 | 337 => 243 | 338 => 244 | n => n, fun | 3 => 3 | 9 => 9 | 2 => 2 | 4 => 4 | 171 => 351 | 0 => 0 | 53 => 178 | 37 => 45 | 5 => 5 | 173 => 354 | 212 => 357 | 51 => 87 | 20 => 20 | 213 => 358 | 46 => 232 | 232 => 33 | 233 => 177 | n => n, fun | 17 => 22 | 18 => 23 | 19 => 24 | n => n⟩
theorem itoaLays : Go.Proofs.Lays.n171 Tryz.prog itoaRen := {
  mixed := by kernel_rfl
  f129 := Tryz.func239.trans (congrArg some (by kernel_rfl))
  f171 := Tryz.func231.trans (congrArg some (by kernel_rfl))
  f243 := Tryz.func232.trans (congrArg some (by kernel_rfl))
  f246 := Tryz.func233.trans (congrArg some (by kernel_rfl))
  f283 := Tryz.func234.trans (congrArg some (by kernel_rfl))
  f284 := Tryz.func235.trans (congrArg some (by kernel_rfl))
  f285 := Tryz.func236.trans (congrArg some (by kernel_rfl))
  f286 := Tryz.func237.trans (congrArg some (by kernel_rfl))
  f317 := Tryz.func238.trans (congrArg some (by kernel_rfl))
  f318 := Tryz.func240.trans (congrArg some (by kernel_rfl))
  f319 := Tryz.func241.trans (congrArg some (by kernel_rfl))
  f320 := Tryz.func242.trans (congrArg some (by kernel_rfl))
  f337 := Tryz.func243.trans (congrArg some (by kernel_rfl))
  f338 := Tryz.func244.trans (congrArg some (by kernel_rfl))
  t0 := Tryz.underlying0
  a0 := Tryz.isAgg0
  z0 := Tryz.sizeOf0
  v0 := Tryz.zeroValue0
  t2 := Tryz.underlying2
  a2 := Tryz.isAgg2
  z2 := Tryz.sizeOf2
  v2 := Tryz.zeroValue2
  t3 := Tryz.underlying3
  a3 := Tryz.isAgg3
  z3 := Tryz.sizeOf3
  v3 := Tryz.zeroValue3
  t4 := Tryz.underlying4
  a4 := Tryz.isAgg4
  z4 := Tryz.sizeOf4
  v4 := Tryz.zeroValue4
  t5 := Tryz.underlying5
  a5 := Tryz.isAgg5
  z5 := Tryz.sizeOf5
  v5 := Tryz.zeroValue5
  t9 := Tryz.underlying9
  a9 := Tryz.isAgg9
  z9 := Tryz.sizeOf9
  v9 := Tryz.zeroValue9
  t20 := Tryz.underlying20
  a20 := Tryz.isAgg20
  z20 := Tryz.sizeOf20
  v20 := Tryz.zeroValue20
  t37 := Tryz.underlying45
  a37 := Tryz.isAgg45
  z37 := Tryz.sizeOf45
  v37 := Tryz.zeroValue45
  t46 := Tryz.underlying232
  a46 := Tryz.isAgg232
  z46 := Tryz.sizeOf232
  v46 := Tryz.zeroValue232
  t51 := Tryz.underlying87
  a51 := Tryz.isAgg87
  z51 := Tryz.sizeOf87
  v51 := Tryz.zeroValue87
  t53 := Tryz.underlying178
  a53 := Tryz.isAgg178
  z53 := Tryz.sizeOf178
  v53 := Tryz.zeroValue178
  t171 := Tryz.underlying351
  a171 := Tryz.isAgg351
  z171 := Tryz.sizeOf351
  v171 := Tryz.zeroValue351
  t173 := Tryz.underlying354
  a173 := Tryz.isAgg354
  z173 := Tryz.sizeOf354
  v173 := Tryz.zeroValue354
  t212 := Tryz.underlying357
  a212 := Tryz.isAgg357
  z212 := Tryz.sizeOf357
  v212 := Tryz.zeroValue357
  t213 := Tryz.underlying358
  a213 := Tryz.isAgg358
  z213 := Tryz.sizeOf358
  t232 := Tryz.underlying33
  a232 := Tryz.isAgg33
  z232 := Tryz.sizeOf33
  v232 := Tryz.zeroValue33
  t233 := Tryz.underlying177
  a233 := Tryz.isAgg177
  z233 := Tryz.sizeOf177
  v233 := Tryz.zeroValue177
  g17 := by kernel_rfl
  g18 := by kernel_rfl
  g19 := by kernel_rfl }
/-- How Itoa is known: of n, if it is asked. -/
def TabP (n : Int) (w : World) : Prop := n = -1 ∨ ∀ w1, Below w.heap.size w w1 → Calls Tryz.prog 231 #[.int .i64 n] w1 fun e w' => e = .returned (.string ⟨(Lib.itoa n).toArray⟩) ∧ Below w1.heap.size w1 w'
theorem tabP_small (w : World) (n : Nat) (hn : n < 100) : TabP (n : Int) w := Or.inr fun w1 _ => (Any.strconv_Itoa_small itoaLays n hn w1).mono fun e w' h => ⟨by rw [h.1]; unfold Lib.itoa; rw [if_neg (by omega)]; rfl, by rw [h.2]; exact Below.refl _ _⟩
theorem itoa_any (w : World) (n : Int) (hT : TabP n w) (hn : n ≠ -1) :
    Calls Tryz.prog 231 #[.int .i64 n] w fun e w' => e = .returned (.string ⟨(Lib.itoa n).toArray⟩) ∧ Below w.heap.size w w' := by
  rcases hT with h | h
  · exact absurd h hn
  · exact h w (Below.refl _ _)
theorem bl3 {a b c : World} (h1 : Below a.heap.size a b) (h2 : Below b.heap.size b c) : Below a.heap.size a c := h1.trans (h2.mono h1.size)
theorem bl1 (w : World) (o : Obj) : Below w.heap.size w (w.alloc o) := (Below.refl _ _).alloc (Nat.le_refl _) _
theorem dec_step {m q : Nat} {l : List UInt8} {c : UInt8} (hq0 : q ≠ 0) (hl : l.length ≤ 19) (hp : q * 10 ^ l.length ≤ m) (h1 : m ≤ 9223372036854775808) : (c :: l).length ≤ 19 ∧ q / 10 * 10 ^ (c :: l).length ≤ m := by
  constructor
  · rw [List.length_cons]
    rcases Nat.lt_or_ge l.length 19 with h | h
    · omega
    · have e : l.length = 19 := by omega
      rw [e] at hp
      have : 1 * 10 ^ 19 ≤ q * 10 ^ 19 := Nat.mul_le_mul_right _ (by omega)
      omega
  · rw [List.length_cons, Nat.pow_succ, Nat.mul_comm (10 ^ l.length) 10, ← Nat.mul_assoc]
    exact Nat.le_trans (Nat.mul_le_mul_right _ (Nat.div_mul_le_self q 10)) hp
theorem dec_dig {m q : Nat} {l : List UInt8} (hq0 : q ≠ 0) (e1 : q ≠ 0 → Lib.decDigits m = Lib.decDigits q ++ l) :
    (q / 10 ≠ 0 → Lib.decDigits m = Lib.decDigits (q / 10) ++ (UInt8.ofNat (48 + q % 10) :: l)) ∧ (q / 10 = 0 → (UInt8.ofNat (48 + q % 10) :: l) = Lib.decDigits m) := by
  have e := e1 hq0
  rw [Lib.decDigits.eq_1 q] at e
  constructor
  · intro h
    rw [dif_neg (by omega)] at e
    rw [e, List.append_assoc]; rfl
  · intro h
    rw [dif_pos (by omega)] at e
    rw [e, show q % 10 = q by omega]; rfl
set_option maxRecDepth 100000 in
theorem conv1 (w : World) (ch : UInt8) (z : Int) (hz : z = (ch.toNat : Int)) : (convert 45 9 (.slice (some ⟨w.heap.size, 0, none⟩) 1 1)).run Tryz.prog (w.alloc (.cells #[.int .u8 z] 5)) = .ok (.string ⟨#[ch]⟩) (w.alloc (.cells #[.int .u8 z] 5)) := by
  have h := run_convert_bytes_back (P := Tryz.prog) (w.alloc (.cells #[.int .u8 z] 5)) 45 9 5 ⟨w.heap.size, 0, none⟩ 1 [ch] Tryz.underlying45 Tryz.underlying5 Tryz.underlying9 (fun j hj => by
    obtain rfl : j = 0 := by simpa using hj
    exact (World.cell?_alloc_at (w := w) #[.int .u8 z] 5 w.heap.size 0 rfl).trans (by rw [hz]; rfl))
  exact h
theorem dig_ch (q : Nat) : ((UInt8.ofNat (48 + q % 10)).toNat : Int) = 48 + (q : Int) % 10 := by
  have : (UInt8.ofNat (48 + q % 10)).toNat = 48 + q % 10 := by rw [UInt8.toNat_ofNat']; omega
  rw [this]; omega
set_option maxRecDepth 100000 in
set_option maxHeartbeats 2000000 in
theorem dec_pos (w : World) (m : Nat) (h0 : m ≠ 0) (h1 : m ≤ 9223372036854775807) :
    Calls Tryz.prog 44 #[.int .i64 (m : Int)] w fun e w' => e = .returned (.string ⟨(Lib.decDigits m).toArray⟩) ∧ Below w.heap.size w w' := by
  have hm0 : (((m : Int)) == 0) = false := by simpa using h0
  have hm1 : decide ((m : Int) < 0) = false := by simp
  go_enter Tryz.func44, Tryz.ntmps44
  go_wp2
  go_loopw [0, 4] (fun x s w' => ∃ (q : Nat) (l : List UInt8), q ≤ m ∧ x = .int .i64 (q : Int) ∧ s = .string ⟨l.toArray⟩ ∧ l.length ≤ 19 ∧ q * 10 ^ l.length ≤ m ∧ (q ≠ 0 → Lib.decDigits m = Lib.decDigits q ++ l) ∧ (q = 0 → l = Lib.decDigits m) ∧ Below w.heap.size w w')
    (fun x _ _ => (intOf x).toNat)
  case atStart => exact ⟨m, [], Nat.le_refl _, rfl, rfl, by simp, by simp, fun _ => by simp, fun h => absurd h h0, Below.refl _ _⟩
  case round =>
    obtain ⟨q, l, hq, rfl, rfl, hl, hp, e1, e2, hb⟩ := hrel
    replace hp := hid hp
    replace e1 := hid e1
    replace e2 := hid e2
    replace hb := hid hb
    by_cases hq0 : q = 0
    · subst hq0
      go_wp2
      go_ret
      exact ⟨by rw [show l = Lib.decDigits m from e2.out trivial]; rfl, hb.out⟩
    · have hqi : (((q : Int)) == 0) = false := by simpa using hq0
      have hq1 : decide ((q : Int) % 10 < 0) = false := by simp; omega
      have hd1 := hid (dec_step (c := UInt8.ofNat (48 + q % 10)) hq0 hl hp.out (by omega))
      have hd2 := hid (dec_dig hq0 e1.out)
      have hch := dig_ch q
      generalize UInt8.ofNat (48 + q % 10) = ch at *
      have hCv := fun w => conv1 w ch _ hch.symm
      clear hch
      have hAd : ∀ w : World, (Op.stringOp .add ⟨#[ch]⟩ ⟨l.toArray⟩).run Tryz.prog w = .ok (.string ⟨(ch :: l).toArray⟩) w := fun w => by
        have := run_string_add_lists (P := Tryz.prog) (w := w) [ch] l (by simp) (by omega)
        simpa using this
      have hki : (q : Int) ≤ 9223372036854775807 := by omega
      go_wp2
      go_roundw
      case rel => exact ⟨q / 10, ch :: l, by omega, by simp, rfl, hd1.out.1, hd1.out.2, hd2.out.1, hd2.out.2, bl3 hb.out (bl1 _ _)⟩
      case measure => simp [intOf]; omega
set_option maxRecDepth 100000 in
set_option maxHeartbeats 2000000 in
theorem dec_neg (w : World) (m : Nat) (h0 : m ≠ 0) (h1 : m ≤ 9223372036854775808) :
    Calls Tryz.prog 44 #[.int .i64 (-(m : Int))] w fun e w' => e = .returned (.string ⟨(45 :: Lib.decDigits m).toArray⟩) ∧ Below w.heap.size w w' := by
  have hm0 : ((-(m : Int)) == 0) = false := by simpa using h0
  have hm1 : decide (-(m : Int) < 0) = true := by simp; omega
  have hm2 : 0 < m := by omega
  go_enter Tryz.func44, Tryz.ntmps44
  go_wp2
  go_loopw [0, 4] (fun x s w' => ∃ (q : Nat) (l : List UInt8), q ≤ m ∧ x = .int .i64 (-(q : Int)) ∧ s = .string ⟨l.toArray⟩ ∧ l.length ≤ 19 ∧ q * 10 ^ l.length ≤ m ∧ (q ≠ 0 → Lib.decDigits m = Lib.decDigits q ++ l) ∧ (q = 0 → l = Lib.decDigits m) ∧ Below w.heap.size w w')
    (fun x _ _ => (intOf x).natAbs)
  case atStart => exact ⟨m, [], Nat.le_refl _, rfl, rfl, by simp, by simp, fun _ => by simp, fun h => absurd h h0, Below.refl _ _⟩
  case round =>
    obtain ⟨q, l, hq, rfl, rfl, hl, hp, e1, e2, hb⟩ := hrel
    replace hp := hid hp
    replace e1 := hid e1
    replace e2 := hid e2
    replace hb := hid hb
    by_cases hq0 : q = 0
    · subst hq0
      have hAd : ∀ w : World, (Op.stringOp .add ⟨#[45]⟩ ⟨l.toArray⟩).run Tryz.prog w = .ok (.string ⟨(45 :: l).toArray⟩) w := fun w => by
        have := run_string_add_lists (P := Tryz.prog) (w := w) [45] l (by simp) (by omega)
        simpa using this
      go_wp2
      go_ret
      exact ⟨by rw [show l = Lib.decDigits m from e2.out trivial]; rfl, hb.out⟩
    · have hqi : ((-(q : Int)) == 0) = false := by simpa using hq0
      have hd1 := hid (dec_step (c := UInt8.ofNat (48 + q % 10)) hq0 hl hp.out (by omega))
      have hd2 := hid (dec_dig hq0 e1.out)
      have hch := dig_ch q
      generalize UInt8.ofNat (48 + q % 10) = ch at *
      have hAd : ∀ w : World, (Op.stringOp .add ⟨#[ch]⟩ ⟨l.toArray⟩).run Tryz.prog w = .ok (.string ⟨(ch :: l).toArray⟩) w := fun w => by
        have := run_string_add_lists (P := Tryz.prog) (w := w) [ch] l (by simp) (by omega)
        simpa using this
      have hki : (q : Int) ≤ 9223372036854775808 := by omega
      by_cases hd : q % 10 = 0
      · have hd3 : decide (0 < (q : Int) % 10) = false := by simp; omega
        have hCv := fun w => conv1 w ch (48 + -((q : Int) % 10)) (by omega)
        clear hch
        go_wp2
        go_roundw
        case rel => exact ⟨q / 10, ch :: l, by omega, by simp, rfl, hd1.out.1, hd1.out.2, hd2.out.1, hd2.out.2, bl3 hb.out (bl1 _ _)⟩
        case measure => simp [intOf]; omega
      · have hd3 : decide (0 < (q : Int) % 10) = true := by simp; omega
        have hCv := fun w => conv1 w ch (48 + (q : Int) % 10) (by omega)
        clear hch
        go_wp2
        go_roundw
        case rel => exact ⟨q / 10, ch :: l, by omega, by simp, rfl, hd1.out.1, hd1.out.2, hd2.out.1, hd2.out.2, bl3 hb.out (bl1 _ _)⟩
        case measure => simp [intOf]; omega
theorem decimal_any (w : World) (n : Int) (h0 : -9223372036854775808 ≤ n) (h1 : n ≤ 9223372036854775807) (hn : n ≠ 0) :
    Calls Tryz.prog 44 #[.int .i64 n] w fun e w' => e = .returned (.string ⟨(Lib.itoa n).toArray⟩) ∧ Below w.heap.size w w' := by
  unfold Lib.itoa
  by_cases h : n < 0
  · rw [if_pos h]
    have := dec_neg w n.natAbs (by omega) (by omega)
    rw [show -((n.natAbs : Nat) : Int) = n by omega] at this
    exact this
  · rw [if_neg h]
    have := dec_pos w n.toNat (by omega) (by omega)
    rw [show ((n.toNat : Nat) : Int) = n by omega] at this
    exact this
end Go.Proofs.YtjpcegjgandnjaaGreatDoor
