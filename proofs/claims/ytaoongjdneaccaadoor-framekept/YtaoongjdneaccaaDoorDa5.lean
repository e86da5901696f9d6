import Derived.Test.YtaoongjdneaccaaDoorNq
import Derived.Laws.BitsLemmas
namespace Go.Proofs.YtaoongjdneaccaaDoor
set_option linter.unusedVariables false
set_option linter.unusedSimpArgs false
open Go.RowKit
attribute [local go_sem ↓] Go.wp_at_zero Go.wp_at_succ

/-- The first k of a list that is told place by place. -/
def tab (f : Nat → Int) (k : Nat) : List Int := (List.range k).map f
theorem tab_succ (f : Nat → Int) (k : Nat) : tab f (k + 1) = tab f k ++ [f k] := by simp [tab, List.range_succ]
theorem tab_len (f : Nat → Int) (k : Nat) : (tab f k).length = k := by simp [tab]
theorem tab_get (f : Nat → Int) (k t : Nat) (h : t < k) : (tab f k).getD t 0 = f t := by simp [tab, h]
theorem getD_byte {xs : List Int} (h : Byts xs) (i : Nat) : 0 ≤ xs.getD i 0 ∧ xs.getD i 0 < 256 := by
  by_cases hi : i < xs.length
  · rw [List.getD_eq_getElem?_getD, List.getElem?_eq_getElem hi]; exact h _ (List.getElem_mem hi)
  · rw [List.getD_eq_getElem?_getD, List.getElem?_eq_none (by omega)]; simp
/-- Bit t of a text. -/
def bt (zs : List Int) (t : Nat) : Nat := (zs.getD (t / 8) 0).toNat >>> (t % 8) % 2
theorem bt_lt (zs : List Int) (t : Nat) : bt zs t < 2 := m2 _
theorem bt_past (zs : List Int) (t : Nat) (h : 8 * zs.length ≤ t) : bt zs t = 0 := by
  unfold bt
  rw [List.getD_eq_getElem?_getD, List.getElem?_eq_none (by omega)]
  simp
def btI (zs : List Int) (t : Nat) : Int := (bt zs t : Int)
theorem bit_u8 (a m : Nat) (ha : a < 256) : bits .and .u8 ((a : Int) / (2 : Int) ^ m) 1 = ((a >>> m % 2 : Nat) : Int) := by
  have e : (a : Int) / (2 : Int) ^ m = ((a >>> m : Nat) : Int) := by rw [Nat.shiftRight_eq_div_pow]; simp
  have hl : a >>> m < 256 := by rw [Nat.shiftRight_eq_div_pow]; exact Nat.lt_of_le_of_lt (Nat.div_le_self _ _) ha
  rw [e]
  have := bits_mask .u8 8 (by decide) wraps_u8 1 (by decide) ((a >>> m : Nat) : Int) (Int.natCast_nonneg _) (by have : (((a >>> m : Nat)) : Int) < ((256 : Nat) : Int) := Int.ofNat_lt.2 hl; simpa using this)
  simpa using this

set_option maxRecDepth 100000 in
set_option maxHeartbeats 400000 in
theorem rbits_any (w : World) (zs : List Int) (h8 : Byts zs) (sp : Option Addr) (cap : Nat) (hS : Src w sp cap zs) (hlen : zs.length ≤ 1048576) :
    Calls Tryd.prog 57 #[.slice sp zs.length cap] w fun e w' => ∃ v, e = .returned v ∧ Own w' w.heap.size v (tab (btI zs) (8 * zs.length)) ∧ Below w.heap.size w w' := by
  obtain ⟨hc, hm, b, o, hb, hsp, hsrc⟩ := hS
  have hO := Own.nil w w.heap.size
  have i0 : (zs.length : Int) ≤ 1048576 := by omega
  go_enter Tryd.func57, Tryd.ntmps57
  go_wp2
  go_loopw [3, 4, 5] (fun v i _ wr => ∃ n : Nat, n ≤ zs.length ∧ i = .int .i64 n ∧ Own wr w.heap.size v (tab (btI zs) (8 * n)) ∧ Below w.heap.size w wr) (fun _ i _ _ => zs.length - (intOf i).toNat)
  case atStart => exact ⟨0, by omega, rfl, hO, Below.refl _ _⟩
  case round =>
    clear hO
    obtain ⟨n, hn, rfl, hO, hB⟩ := hrel
    by_cases hlt : n < zs.length
    · have i1 : (n : Int) < (zs.length : Int) := by omega
      obtain rfl := hsp (by omega)
      go_wp2
      go_loopw [3, 5] (fun v j wr => ∃ m : Nat, m ≤ 8 ∧ j = .int .i64 m ∧ Own wr w.heap.size v (tab (btI zs) (8 * n + m)) ∧ Below w.heap.size w wr) (fun _ j _ => 8 - (intOf j).toNat)
      case atStart => exact ⟨0, by omega, rfl, hO, hB⟩
      case round =>
        clear hO hB
        obtain ⟨m, hm8, rfl, hO, hB⟩ := hrel
        by_cases hl8 : m < 8
        · have i2 : (m : Int) < 8 := by omega
          have c0 := (hB.cell (p := ⟨b, o + n, none⟩) (hb (by omega))).trans (hsrc n hlt)
          have hbn := getD_byte h8 n
          have HT := hid (tab_succ (btI zs) (8 * n + m))
          have KL := hid (show (tab (btI zs) (8 * n + m)).length + 1 ≤ 140737488355328 by rw [tab_len]; omega)
          have hbt : btI zs (8 * n + m) = (((zs.getD n 0).toNat >>> m % 2 : Nat) : Int) := by
            unfold btI bt; rw [show (8 * n + m) / 8 = n by omega, show (8 * n + m) % 8 = m by omega]
          rw [hbt] at HT
          clear hbt
          obtain ⟨x, hx⟩ := Int.eq_ofNat_of_zero_le hbn.1
          rw [hx] at c0 HT hbn
          rw [Int.toNat_natCast] at HT
          have e1 := bit_u8 x m (by omega)
          generalize x >>> m % 2 = y at *
          generalize tab (btI zs) (8 * n + m) = tb at *
          go_wp2_with (first | (at_builtin; refine wpList_push_any rfl (.tmp 16) (.tmp 25) rfl w.heap.size _ _ (y : Int) rfl hO rfl KL.out hB.size _ _ ?_; intro v2 w2 hO2 hB2))
          go_roundw
          case rel => exact ⟨m + 1, by omega, by go_num, (by rw [← Nat.add_assoc, HT.out]; exact hO2), hB.trans hB2⟩
          case measure => simp [intOf]; omega
        · obtain rfl : m = 8 := by omega
          clear hl8
          go_wp2
          go_roundw
          case rel => exact ⟨n + 1, by omega, by go_num, (by rw [show 8 * (n + 1) = 8 * n + 8 by omega]; exact hO), hB⟩
          case measure => simp [intOf]; omega
    · obtain rfl : n = zs.length := by omega
      clear hlt
      go_wp2
      go_ret
      exact ⟨_, rfl, hO, hB⟩
end Go.Proofs.YtaoongjdneaccaaDoor
