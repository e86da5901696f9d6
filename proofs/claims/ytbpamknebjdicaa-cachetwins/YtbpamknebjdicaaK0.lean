import Derived.Test.YtbpamknebjdicaaL14
import Derived.Test.YtbpamknebjdicaaLf
import Derived.DeepKeys4
import Derived.Laws.BytesArg
namespace Go.Proofs.Ytbpamknebjdicaa
set_option linter.unusedVariables false
set_option linter.unusedSimpArgs false
open Go.RowKit
attribute [local go_sem ↓] Go.wp_at_zero Go.wp_at_succ

/-! Numbers as keys of 32 bytes and as texts. -/
def byteAt (n : Int) (i : Nat) : Int := n % 18446744073709551616 / (2 ^ (8 * i) : Nat) % 256
def pathL (n : Int) : List Int := [0, 0, 0, 0, 0, 0, 0, 0, 0, 0, 0, 0, 0, 0, 0, 0, 0, 0, 0, 0, 0, 0, 0, 0, byteAt n 7, byteAt n 6, byteAt n 5, byteAt n 4, byteAt n 3, byteAt n 2, byteAt n 1, byteAt n 0]
def wordL (n : Int) : List Int := [byteAt n 7, byteAt n 6, byteAt n 5, byteAt n 4, byteAt n 3, byteAt n 2, byteAt n 1, byteAt n 0]
def pathP (n : Int) (i : Nat) : List Int := (List.range 32).map fun j => if 31 - j < i then byteAt n (31 - j) else 0
theorem pathP_8 (n : Int) : pathP n 8 = pathL n := rfl
theorem pathP_0 (n : Int) : pathP n 0 = List.replicate 32 0 := rfl
theorem pathP_len (n : Int) (i : Nat) : (pathP n i).length = 32 := by simp [pathP]
theorem pathP_succ (n : Int) (i : Nat) (h : i < 8) : (pathP n i).set (31 - i) (byteAt n i) = pathP n (i + 1) := by
  apply List.ext_getElem?
  intro j
  rw [List.getElem?_set]
  unfold pathP
  by_cases hj : j < 32
  · simp only [List.getElem?_map, List.length_map, List.length_range, List.getElem?_range hj, Option.map_some]
    by_cases e : 31 - i = j
    · rw [if_pos e, if_pos (by omega), if_pos (by omega), show 31 - j = i by omega]
    · rw [if_neg e]
      by_cases k : 31 - j < i
      · rw [if_pos k, if_pos (by omega)]
      · rw [if_neg k, if_neg (by omega)]
  · rw [if_neg (by omega), List.getElem?_eq_none (by simp; omega), List.getElem?_eq_none (by simp; omega)]
theorem byteAt_rng (n : Int) (i : Nat) : 0 ≤ byteAt n i ∧ byteAt n i < 256 := by unfold byteAt; omega
theorem path_inj {a b : Int} (ha : wfK a) (hb : wfK b) (h : pathL a = pathL b) : a = b := by
  simp only [pathL, List.cons.injEq, true_and, and_true] at h
  obtain ⟨h7, h6, h5, h4, h3, h2, h1, h0⟩ := h
  unfold byteAt at *
  simp only [Nat.reducePow, Nat.reduceMul] at *
  unfold wfK at *
  omega
theorem set_ints (xs : List Int) (i : Nat) (x : Int) : ((ints .u8 xs).toArray.setIfInBounds i (.int .u8 x)) = (ints .u8 (xs.set i x)).toArray := by
  simp [ints, List.map_set]
theorem size_key : (Try.prog.info? 43).map (·.size) = some 32 := by kernel_rfl
theorem wrap64 (n : Int) : IntKind.u64.wrap n = n % 18446744073709551616 := by simp [IntKind.wrap, IntKind.bits, IntKind.signed]
theorem byteAt_w (n : Int) (i : Nat) (C : Int) (h : (((2 ^ (8 * i) : Nat)) : Int) = C) : IntKind.u64.wrap n / C % 256 = byteAt n i := by rw [wrap64, ← h]; rfl
theorem byteAt_0 (n : Int) : IntKind.u64.wrap n % 256 = byteAt n 0 := by rw [wrap64]; unfold byteAt; simp
theorem keyN (n : Int) : (Try.prog.info? 43).map (·.size) = some (ints .u8 (pathL n)).toArray.size := by rw [size_key]; rfl
theorem keyZ (n : Int) : (ints .u8 (pathP n 0)).toArray.size = (ints .u8 (pathL n)).toArray.size := rfl
theorem keyO (n : Int) : (ints .u8 (pathL n)).toArray.all (·.oneCell') = true := all_oneCell_toArray (ints_one _ _)
set_option maxRecDepth 100000 in
set_option maxHeartbeats 1000000 in
theorem path_any (w : World) (n : Int) : Calls Try.prog 20 #[.int .i64 n] w fun e w' => e = .returned (.agg (ints .u8 (pathL n)).toArray) ∧ Below w.heap.size w w' := by
  generalize hH : w.heap.size = H at *
  go_enter Try.func20, Try.ntmps20
  go_wp2
  go_loopw [4] (fun iv wr => ∃ k : Nat, k ≤ 8 ∧ iv = .int .i64 k ∧ wr.heap[H + 1]? = some (.cells (ints .u8 (pathP n k)).toArray 43 (0, 0)) ∧ wr.heap[H]? = some (.cells (ints .u8 (pathP n 0)).toArray 43 (0, 0)) ∧ Below H w wr) (fun iv _ => 8 - (intOf iv).toNat)
  case atStart => exact ⟨0, by omega, rfl, by rw [← hH]; exact hnew2 w _ _, by rw [← hH]; exact hold2 w _ _, by rw [← hH]; exact below2 w _ _⟩
  case round =>
    obtain ⟨k, hk, rfl, h1, h0, hB⟩ := hrel
    by_cases hlt : k < 8
    · have hc := cell_of_row _ (H + 1) (31 - k) _ _ _ h1
      have fz := frozen_of_row _ (H + 1) (31 - k) _ _ h1
      rw [show (ints .u8 (pathP n k)).toArray[31 - k]? = some (.int .u8 ((pathP n k).getD (31 - k) 0)) by rw [List.getElem?_toArray]; exact ints_get .u8 (pathP n k) (31 - k) (by rw [pathP_len]; omega)] at hc
      have HS := hid (heap_setCell_same _ (H + 1) (31 - k) _ _ (.int .u8 (byteAt n k)) h1)
      rw [set_ints, pathP_succ n k hlt] at HS
      have H0 := hid h0
      have HB := hid hB
      clear h1 h0 hB
      generalize (pathP n k).getD (31 - k) 0 = old at *
      have hk8 : k = 0 ∨ k = 1 ∨ k = 2 ∨ k = 3 ∨ k = 4 ∨ k = 5 ∨ k = 6 ∨ k = 7 := by omega
      rcases hk8 with rfl | rfl | rfl | rfl | rfl | rfl | rfl | rfl
      · simp only [Nat.sub_zero, Nat.reduceSub] at hc fz HS
        go_wp2
        rw [byteAt_0 n]
        exact ⟨⟨1, by omega, rfl, HS.out, (heap_setCell_other _ _ _ _ (by show H ≠ H + 1; omega)).trans H0.out, setCell_below HB.out (by omega) _ _⟩, by simp [intOf]⟩
      · simp only [Nat.sub_zero, Nat.reduceSub] at hc fz HS
        go_wp2
        rw [byteAt_w n 1 256 rfl]
        exact ⟨⟨2, by omega, rfl, HS.out, (heap_setCell_other _ _ _ _ (by show H ≠ H + 1; omega)).trans H0.out, setCell_below HB.out (by omega) _ _⟩, by simp [intOf]⟩
      · simp only [Nat.sub_zero, Nat.reduceSub] at hc fz HS
        go_wp2
        rw [byteAt_w n 2 65536 rfl]
        exact ⟨⟨3, by omega, rfl, HS.out, (heap_setCell_other _ _ _ _ (by show H ≠ H + 1; omega)).trans H0.out, setCell_below HB.out (by omega) _ _⟩, by simp [intOf]⟩
      · simp only [Nat.sub_zero, Nat.reduceSub] at hc fz HS
        go_wp2
        rw [byteAt_w n 3 16777216 rfl]
        exact ⟨⟨4, by omega, rfl, HS.out, (heap_setCell_other _ _ _ _ (by show H ≠ H + 1; omega)).trans H0.out, setCell_below HB.out (by omega) _ _⟩, by simp [intOf]⟩
      · simp only [Nat.sub_zero, Nat.reduceSub] at hc fz HS
        go_wp2
        rw [byteAt_w n 4 4294967296 rfl]
        exact ⟨⟨5, by omega, rfl, HS.out, (heap_setCell_other _ _ _ _ (by show H ≠ H + 1; omega)).trans H0.out, setCell_below HB.out (by omega) _ _⟩, by simp [intOf]⟩
      · simp only [Nat.sub_zero, Nat.reduceSub] at hc fz HS
        go_wp2
        rw [byteAt_w n 5 1099511627776 rfl]
        exact ⟨⟨6, by omega, rfl, HS.out, (heap_setCell_other _ _ _ _ (by show H ≠ H + 1; omega)).trans H0.out, setCell_below HB.out (by omega) _ _⟩, by simp [intOf]⟩
      · simp only [Nat.sub_zero, Nat.reduceSub] at hc fz HS
        go_wp2
        rw [byteAt_w n 6 281474976710656 rfl]
        exact ⟨⟨7, by omega, rfl, HS.out, (heap_setCell_other _ _ _ _ (by show H ≠ H + 1; omega)).trans H0.out, setCell_below HB.out (by omega) _ _⟩, by simp [intOf]⟩
      · simp only [Nat.sub_zero, Nat.reduceSub] at hc fz HS
        go_wp2
        rw [byteAt_w n 7 72057594037927936 rfl]
        exact ⟨⟨8, by omega, rfl, HS.out, (heap_setCell_other _ _ _ _ (by show H ≠ H + 1; omega)).trans H0.out, setCell_below HB.out (by omega) _ _⟩, by simp [intOf]⟩
    · obtain rfl : k = 8 := by omega
      rw [pathP_8] at h1
      have H1 := hid h1
      have H0 := hid h0
      have HB := hid hB
      clear h1 h0 hB hlt hk
      go_wp2_with (first
        | (refine wpList_load_row_w (by rfl) 43 (.tmp 3) (by rfl) (H + 1) (by rfl) 43 (ints .u8 (pathL n)).toArray _ _ (by exact H1.out) Try.underlying43 rfl (keyN n) ?_)
        | (refine wpList_store_row (by rfl) 43 (.tmp 2) (.tmp 19) (by rfl) H (ints .u8 (pathL n)).toArray (by rfl) (by rfl) 43 _ (by exact H0.out) (keyN n) (keyZ n) (keyO n) ?_))
      refine bodyPost_ret (results_c1 Try.results20 _ _ H 43 (ints .u8 (pathL n)).toArray _ _ rfl (setRow_heap _ _ _ _ _ _ H0.out) Try.underlying43 rfl (keyN n)) rfl ?_
      exact ⟨rfl, below_setRow HB.out (Nat.le_refl _) _⟩
def wordB (n : Int) : ByteArray := strOfNums (wordL n)
theorem keyZ0 (n : Int) : (#[.int .u8 0, .int .u8 0, .int .u8 0, .int .u8 0, .int .u8 0, .int .u8 0, .int .u8 0, .int .u8 0, .int .u8 0, .int .u8 0, .int .u8 0, .int .u8 0, .int .u8 0, .int .u8 0, .int .u8 0, .int .u8 0, .int .u8 0, .int .u8 0, .int .u8 0, .int .u8 0, .int .u8 0, .int .u8 0, .int .u8 0, .int .u8 0, .int .u8 0, .int .u8 0, .int .u8 0, .int .u8 0, .int .u8 0, .int .u8 0, .int .u8 0, .int .u8 0] : Array Value).size = (ints .u8 (pathL n)).toArray.size := rfl
set_option maxRecDepth 100000 in
set_option maxHeartbeats 1000000 in
theorem word_any (w : World) (n : Int) : Calls Try.prog 21 #[.int .i64 n] w fun e w' => e = .returned (.string (wordB n)) ∧ Below w.heap.size w w' := by
  have HP := hid (path_any w n)
  have HCV := hid (fun w1 : World => run_convert_bytes_arg (P := Try.prog) (w1.alloc (.cells (ints .u8 (pathL n)).toArray 43)) 88 5 Try.underlying88 Try.underlying5 w1.heap.size 24 8 8 (wordL n) rfl (fun i hi => by
    rw [cell_of_row _ _ _ _ _ _ (hnew w1 _)]
    have : i = 0 ∨ i = 1 ∨ i = 2 ∨ i = 3 ∨ i = 4 ∨ i = 5 ∨ i = 6 ∨ i = 7 := by omega
    rcases this with rfl | rfl | rfl | rfl | rfl | rfl | rfl | rfl <;> rfl) 9 Try.underlying9)
  go_enter Try.func21, Try.ntmps21
  go_wp2_with (first
    | (go_at_call 20; refine HP.out.mono ?_; rintro e w1 ⟨rfl, hb1⟩; have HB1 := hid hb1; clear hb1 HP)
    | (refine wpList_store_row (by rfl) 43 (.tmp 3) (.tmp 5) (by rfl) w1.heap.size (ints .u8 (pathL n)).toArray (by rfl) (by rfl) 43 _ (by exact hnew _ _) (keyN n) (keyZ0 n) (keyO n) ?_; rw [setRow_alloc]; have hcv := HCV.out w1; have HB2 := hid (HB1.out.alloc HB1.out.size (.cells (ints .u8 (pathL n)).toArray 43)); have hrow := hnew w1 (.cells (ints .u8 (pathL n)).toArray 43); clear HCV HB1))
  go_ret
  exact ⟨rfl, HB2.out⟩
/-! A path as a key of a map. -/
def argP (n : Int) : Value := .agg (ints .u8 (pathL n)).toArray
theorem key_law : WideMaps.KeyLaw Try.prog 43 := deep_law_laid Try.laidOut (m := 2) (by omega) (of_decide_eq_true (by kernel_rfl)) (by kernel_rfl) (by rw [Try.underlying43])
theorem key_keyed : Maps.Keyed Try.prog 43 := Maps.Keyed.of_law key_law
theorem mapM_some {α β : Type} (f : α → Option β) (g : α → β) : ∀ l : List α, (∀ x ∈ l, f x = some (g x)) → l.mapM f = some (l.map g)
  | [], _ => rfl
  | x :: l, h => by
    rw [List.mapM_cons, h x (by simp), mapM_some f g l fun y hy => h y (by simp [hy])]
    rfl
theorem keyType_key : Try.prog.keyType 43 = true := by kernel_rfl
theorem cells_key : Try.prog.cellsOf 43 = 32 := by kernel_rfl
theorem cells_5 : Try.prog.cellsOf 5 = 1 := by kernel_rfl
theorem types_size : ∃ d, Try.prog.types.size + 1 = d + 1 + 1 := ⟨Try.prog.types.size - 1, by have : 0 < Try.prog.types.size := of_decide_eq_true (by kernel_rfl); omega⟩
theorem path_byte (n : Int) : ∀ x ∈ pathL n, 0 ≤ x ∧ x < 256 := by
  intro x hx
  simp only [pathL, List.mem_cons, List.not_mem_nil, or_false] at hx
  have := byteAt_rng n
  rcases hx with h | h | h | h | h | h | h | h | h | h | h | h | h | h | h | h | h | h | h | h | h | h | h | h | h | h | h | h | h | h | h | h <;> subst h <;> first | exact ⟨by omega, by omega⟩ | exact this _
def litP (n : Int) : Lit := .string (keyBytes ((List.range 32).map fun i => [Lit.int .u8 ((pathL n).getD i 0)]).flatten)
theorem keyOf_path (n : Int) : keyOf Try.prog 43 (argP n) = some (litP n) := by
  obtain ⟨d, hd⟩ := types_size
  unfold keyOf
  rw [Try.underlying43]
  simp only
  rw [if_pos (by rw [keyType_key]; simp [argP, Value.formed, Try.underlying43, cells_key]; rfl), hd]
  have hv : (argP n).cells.toList = ints .u8 (pathL n) := by simp [argP, Value.cells]
  rw [hv]
  unfold Program.keyLits
  rw [Try.underlying43]
  simp only
  rw [if_pos (by rw [cells_key]; rfl)]
  have : (List.range 32).mapM (fun i => Try.prog.keyLits (d + 1) 5 (((ints .u8 (pathL n)).drop (i * Try.prog.cellsOf 5)).take (Try.prog.cellsOf 5))) = some ((List.range 32).map fun i => [Lit.int .u8 ((pathL n).getD i 0)]) := by
    refine mapM_some _ _ _ fun i hi => ?_
    have hi : i < 32 := List.mem_range.1 hi
    have hl : (pathL n).length = 32 := rfl
    rw [cells_5, Nat.mul_one]
    have e : ((ints .u8 (pathL n)).drop i).take 1 = [.int .u8 ((pathL n).getD i 0)] := by
      rw [List.take_one, List.head?_drop, ints_get .u8 (pathL n) i (by omega)]; rfl
    rw [e]
    unfold Program.keyLits
    rw [Try.underlying5]
    simp only
    have hb := path_byte n ((pathL n).getD i 0) (by rw [List.getD_eq_getElem?_getD, List.getElem?_eq_getElem (by omega)]; exact List.getElem_mem (by omega))
    generalize (pathL n).getD i 0 = y at *
    have hw : (Lit.int .u8 y).wf = true := WalkArith.wf_u8 (by omega)
    simp [hw]
  rw [this]
  rfl
end Go.Proofs.Ytbpamknebjdicaa
