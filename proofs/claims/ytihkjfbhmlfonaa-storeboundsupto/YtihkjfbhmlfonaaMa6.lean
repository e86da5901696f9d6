import Derived.Test.YtihkjfbhmlfonaaNb
namespace Go.Proofs.Ytihkjfbhmlfonaa
set_option linter.unusedVariables false
set_option linter.unusedSimpArgs false
open Go.RowKit

/-! A superblock. -/
structure Sup where
  wd : Int
  ge : Int
  ma : Int
  hd : Int
  pg : Int
  deriving DecidableEq
def sup0 : Sup := ⟨0, 0, 0, 0, 0⟩
def validS (s : Sup) : Bool := decide (1 ≤ s.wd ∧ s.wd ≤ 32 ∧ 0 ≤ s.ge ∧ s.ge ≤ 1099511627776 ∧ 3 ≤ s.pg ∧ s.pg ≤ 4096 ∧ 2 ≤ s.ma ∧ s.ma ≤ s.pg ∧ (s.hd = 0 ∨ (2 ≤ s.hd ∧ s.hd < s.ma)))
theorem validS_iff (s : Sup) : validS s = true ↔ 1 ≤ s.wd ∧ s.wd ≤ 32 ∧ 0 ≤ s.ge ∧ s.ge ≤ 1099511627776 ∧ 3 ≤ s.pg ∧ s.pg ≤ 4096 ∧ 2 ≤ s.ma ∧ s.ma ≤ s.pg ∧ (s.hd = 0 ∨ (2 ≤ s.hd ∧ s.hd < s.ma)) := by simp [validS]
def bodyS (s : Sup) : List Int := [76, 68, 71, 49, s.wd, 0, 0, 0] ++ num s.ge 8 ++ num s.ma 4 ++ num s.hd 4 ++ num s.pg 4 ++ List.replicate 32 0
theorem bodyS_len (s : Sup) : (bodyS s).length = 60 := by simp [bodyS, num_len]
theorem bodyS_byts (s : Sup) (h : validS s = true) : Byts (bodyS s) := by
  have h := (validS_iff s).1 h
  refine byts_app (byts_app (byts_app (byts_app (byts_app ?_ (num_byts _ _)) (num_byts _ _)) (num_byts _ _)) (num_byts _ _)) (rep_byts _)
  intro x hx
  simp at hx
  omega
def secS (s : Sup) : List Int := sealF (bodyS s)
theorem secS_len (s : Sup) : (secS s).length = 64 := by rw [secS, sealF_len, bodyS_len]
theorem secS_byts (s : Sup) (h : validS s = true) : Byts (secS s) := sealF_byts (bodyS_byts s h)
def readS (r : List Int) : Sup := ⟨r.getD 4 0, IntKind.i64.wrap (le ((r.drop 8).take 8)), le ((r.drop 16).take 4), le ((r.drop 20).take 4), le ((r.drop 24).take 4)⟩
/-- What PackSuper answers. -/
def superF (s : Sup) : List Int × Int := if validS s = true then (secS s ++ List.replicate 192 0, 0) else ([], 53)
/-- What UnpackSuper answers. -/
def unSuperF (r : List Int) : Sup × Int :=
  if r.length ≠ 256 then (sup0, 53) else if feed ones (r.take 64) ≠ CR then (sup0, 52)
  else if validS (readS (r.take 64)) = false ∨ secS (readS (r.take 64)) ≠ r.take 64 then (sup0, 53) else (readS (r.take 64), 0)
theorem split60 (l s : List Int) (a b c d : List Int) (z : List Int) (h0 : l.length = 8) (ha : a.length = 8) (hb : b.length = 4) (hc : c.length = 4) (hd : d.length = 4) :
    ((l ++ a ++ b ++ c ++ d ++ z ++ s).drop 8).take 8 = a ∧ ((l ++ a ++ b ++ c ++ d ++ z ++ s).drop 16).take 4 = b ∧ ((l ++ a ++ b ++ c ++ d ++ z ++ s).drop 20).take 4 = c ∧ ((l ++ a ++ b ++ c ++ d ++ z ++ s).drop 24).take 4 = d := by
  refine ⟨?_, ?_, ?_, ?_⟩
  · rw [show l ++ a ++ b ++ c ++ d ++ z ++ s = l ++ (a ++ (b ++ (c ++ (d ++ (z ++ s))))) by simp [List.append_assoc], List.drop_left' h0, List.take_left' ha]
  · rw [show l ++ a ++ b ++ c ++ d ++ z ++ s = (l ++ a) ++ (b ++ (c ++ (d ++ (z ++ s)))) by simp [List.append_assoc], List.drop_left' (by simp [h0, ha]), List.take_left' hb]
  · rw [show l ++ a ++ b ++ c ++ d ++ z ++ s = (l ++ a ++ b) ++ (c ++ (d ++ (z ++ s))) by simp [List.append_assoc], List.drop_left' (by simp [h0, ha, hb]), List.take_left' hc]
  · rw [show l ++ a ++ b ++ c ++ d ++ z ++ s = (l ++ a ++ b ++ c) ++ (d ++ (z ++ s)) by simp [List.append_assoc], List.drop_left' (by simp [h0, ha, hb, hc]), List.take_left' hd]
theorem le_num_int (v : Int) (n : Nat) (h0 : 0 ≤ v) (h : v < ((256 ^ n : Nat) : Int)) : (le (num v n) : Int) = v := by
  obtain ⟨m, rfl⟩ := Int.eq_ofNat_of_zero_le h0
  rw [le_num m n (by omega)]
theorem readS_secS (s : Sup) (h : validS s = true) : readS (secS s) = s := by
  have h := (validS_iff s).1 h
  obtain ⟨a1, a2, a3, a4⟩ := split60 [76, 68, 71, 49, s.wd, 0, 0, 0] (sbF (sumF (bodyS s))) (num s.ge 8) (num s.ma 4) (num s.hd 4) (num s.pg 4) (List.replicate 32 0) rfl (num_len _ _) (num_len _ _) (num_len _ _) (num_len _ _)
  have e : secS s = [76, 68, 71, 49, s.wd, 0, 0, 0] ++ num s.ge 8 ++ num s.ma 4 ++ num s.hd 4 ++ num s.pg 4 ++ List.replicate 32 0 ++ sbF (sumF (bodyS s)) := rfl
  have p8 : ((256 ^ 8 : Nat) : Int) = 18446744073709551616 := by decide
  have p4 : ((256 ^ 4 : Nat) : Int) = 4294967296 := by decide
  unfold readS
  rw [e, a1, a2, a3, a4, le_num_int s.ge 8 (by omega) (by omega), wrap_i64_id _ (by omega) (by omega), le_num_int s.ma 4 (by omega) (by omega), le_num_int s.hd 4 (by omega) (by omega), le_num_int s.pg 4 (by omega) (by omega)]
  simp
theorem unSuper_sec (s : Sup) (r : List Int) (h : validS s = true) (hl : r.length = 256) (ht : r.take 64 = secS s) : unSuperF r = (s, 0) := by
  unfold unSuperF
  rw [if_neg (by simp [hl]), ht, if_neg (by rw [secS, seal_CR _ (bodyS_byts s h)]; simp), readS_secS s h, if_neg (by simp [h])]
theorem unSuper_ok (r : List Int) (hE : (unSuperF r).2 = 0) : r.length = 256 ∧ validS (unSuperF r).1 = true ∧ r.take 64 = secS (unSuperF r).1 := by
  unfold unSuperF at *
  split at hE <;> try (simp at hE; done)
  rename_i g1
  split at hE <;> try (simp at hE; done)
  rename_i g2
  split at hE <;> try (simp at hE; done)
  rename_i g3
  rw [if_neg g1, if_neg g2, if_neg g3]
  have g3' : ¬ validS (readS (r.take 64)) = false ∧ secS (readS (r.take 64)) = r.take 64 := by
    constructor
    · exact fun h => g3 (Or.inl h)
    · exact Classical.byContradiction fun h => g3 (Or.inr h)
  exact ⟨by omega, by simpa using g3'.1, g3'.2.symm⟩
theorem unSuper_bad (r : List Int) (hE : (unSuperF r).2 ≠ 0) : (unSuperF r).1 = sup0 := by
  unfold unSuperF at *
  repeat' split
  all_goals first | rfl | skip
  rename_i g1 g2 g3
  rw [if_neg g1, if_neg g2, if_neg g3] at hE
  exact absurd rfl hE
theorem unSuper_sum (r : List Int) (hl : r.length = 256) (hC : feed ones (r.take 64) ≠ CR) : unSuperF r = (sup0, 52) := by
  unfold unSuperF
  rw [if_neg (by simp [hl]), if_pos hC]
theorem superF_ok (s : Sup) (h : validS s = true) : superF s = (secS s ++ List.replicate 192 0, 0) := by rw [superF, if_pos h]
theorem superF_bad (s : Sup) (h : validS s = false) : superF s = ([], 53) := by rw [superF, if_neg (by simp [h])]

/-! Which one holds. -/
def follF (n o : Sup) : Bool := decide (n = { o with ge := o.ge + 1, ma := max o.ma n.ma, hd := n.hd })
def newerF (a b : Sup) : Sup × Int := if a.ge.tmod 2 ≠ 0 then (sup0, 4) else if follF a b = true then (a, 0) else if follF b a = true then (b, 0) else (sup0, 4)
def emptyF (r : List Int) : Bool := decide (r.length = 256) && decide (r.take 64 = List.replicate 64 0)
def chooseF (a b : List Int) : Sup × Int :=
  if (unSuperF a).2 = 0 ∧ (unSuperF b).2 = 0 then newerF (unSuperF a).1 (unSuperF b).1
  else if ((unSuperF a).2 = 0 ∧ (unSuperF a).1.ge = 0) ∨ emptyF a = true then (if emptyF b = true then (sup0, 55) else (sup0, 4)) else (sup0, 4)
end Go.Proofs.Ytihkjfbhmlfonaa
namespace Go.Proofs.Ytihkjfbhmlfonaa
set_option linter.unusedVariables false
set_option linter.unusedSimpArgs false
open Go.RowKit
attribute [local go_sem ↓] Go.wp_at_zero Go.wp_at_succ

set_option maxRecDepth 100000 in
theorem isPlace_any (w : World) (p : Int) : Calls Try.prog 81 #[.int .i64 p] w fun e w' => e = .returned (.bool (placeOk p)) ∧ w' = w := by
  by_cases h1 : 2 ≤ p
  · by_cases h2 : p < 4096
    · have HP := hid (show placeOk p = true by simp [placeOk, h1, h2])
      go_enter Try.func81, Try.ntmps81
      go_wp2
      go_ret
      exact ⟨by rw [HP.out]; rfl, rfl⟩
    · have HP := hid (show placeOk p = false by simp [placeOk, h2])
      go_enter Try.func81, Try.ntmps81
      go_wp2
      go_ret
      exact ⟨by rw [HP.out]; rfl, rfl⟩
  · have HP := hid (show placeOk p = false by simp [placeOk, h1])
    go_enter Try.func81, Try.ntmps81
    go_wp2
    go_ret
    exact ⟨by rw [HP.out]; rfl, rfl⟩
set_option maxRecDepth 100000 in
theorem isKind_any (w : World) (k : Int) : Calls Try.prog 83 #[.int .i64 k] w fun e w' => e = .returned (.bool (kindOk k)) ∧ w' = w := by
  by_cases h1 : k = 1
  · subst h1
    go_enter Try.func83, Try.ntmps83
    go_wp2
    go_ret
    exact ⟨by rfl, rfl⟩
  by_cases h2 : k = 2
  · subst h2
    go_enter Try.func83, Try.ntmps83
    go_wp2
    go_ret
    exact ⟨by rfl, rfl⟩
  by_cases h3 : k = 3
  · subst h3
    go_enter Try.func83, Try.ntmps83
    go_wp2
    go_ret
    exact ⟨by rfl, rfl⟩
  have HP := hid (show kindOk k = false by simp [kindOk]; omega)
  have e1 : (k == 1) = false := by simpa using h1
  have e2 : (k == 2) = false := by simpa using h2
  have e3 : (k == 3) = false := by simpa using h3
  clear h1 h2 h3
  go_enter Try.func83, Try.ntmps83
  go_wp2
  go_ret
  exact ⟨by rw [HP.out]; rfl, rfl⟩
set_option maxRecDepth 100000 in
set_option maxHeartbeats 400000 in
theorem allZero_any (w : World) (zs : List Int) (sp : Option Addr) (cap : Nat) (hS : Src w sp cap zs) :
    Calls Try.prog 85 #[.slice sp zs.length cap] w fun e w' => e = .returned (.bool (decide (zs = List.replicate zs.length 0))) ∧ Below w.heap.size w w' := by
  obtain ⟨hc, hm, b, o, hb, hsp, hsrc⟩ := hS
  unfold maxLen at hm
  have i0 : (zs.length : Int) ≤ 9223372036854775807 := by omega
  go_enter Try.func85, Try.ntmps85
  go_wp2
  go_loopw [7] (fun i wr => ∃ n : Nat, n ≤ zs.length ∧ i = .int .i64 n ∧ zs.take n = List.replicate n 0 ∧ Below w.heap.size w wr) (fun i _ => zs.length - (intOf i).toNat)
  case atStart => exact ⟨0, by omega, rfl, rfl, Below.refl _ _⟩
  case round =>
    obtain ⟨n, hn, rfl, hT, hB⟩ := hrel
    replace hT := hid hT
    by_cases hlt : n < zs.length
    · have i1 : (n : Int) < (zs.length : Int) := by omega
      obtain rfl := hsp (by omega)
      have c0 := (hB.cell (p := ⟨b, o + n, none⟩) (hb (by omega))).trans (hsrc n hlt)
      by_cases hz : zs.getD n 0 = 0
      · rw [hz] at c0
        replace hz := hid hz
        have HT := hid (show zs.take (n + 1) = List.replicate (n + 1) 0 by
          have := hz.out
          rw [List.getD_eq_getElem?_getD, List.getElem?_eq_getElem hlt] at this
          rw [List.take_succ_eq_append_getElem hlt, hT.out, List.replicate_succ']
          congr 2)
        go_wp2
        go_roundw
        case rel => exact ⟨n + 1, by omega, by go_num, HT.out, hB⟩
        case measure => simp [intOf]; omega
      · have HT := hid (show decide (zs = List.replicate zs.length 0) = false by
          simp only [decide_eq_false_iff_not]
          intro h
          apply hz
          rw [h]
          simp [List.getElem?_replicate, hlt])
        have hz2 : (zs.getD n 0 != 0) = true := by simpa using hz
        clear hz
        generalize zs.getD n 0 = x at *
        go_wp2
        go_ret
        exact ⟨by rw [HT.out]; rfl, hB⟩
    · obtain rfl : n = zs.length := by omega
      have HT := hid (show decide (zs = List.replicate zs.length 0) = true by
        have := hT.out
        rw [List.take_length] at this
        simpa using this)
      clear hlt hn
      go_wp2
      go_ret
      exact ⟨by rw [HT.out]; rfl, hB⟩
/-- A part of a block is written over. -/
def laidAt (os : List Int) (o : Nat) (ys : List Int) : List Int := os.take o ++ ys ++ os.drop (o + ys.length)
theorem laidAt_len (os : List Int) (o : Nat) (ys : List Int) (h : o + ys.length ≤ os.length) : (laidAt os o ys).length = os.length := by simp [laidAt]; omega
theorem laidAt_snoc (os : List Int) (o : Nat) (ys : List Int) (y : Int) (h : o + ys.length < os.length) : (laidAt os o ys).set (o + ys.length) y = laidAt os o (ys ++ [y]) := by
  unfold laidAt
  rw [List.set_append_right _ _ (by simp; omega), show o + ys.length - (os.take o ++ ys).length = 0 by simp; omega, List.drop_eq_getElem_cons (by omega), List.set_cons_zero]
  simp [List.append_assoc, Nat.add_assoc]
set_option maxRecDepth 100000 in
set_option maxHeartbeats 400000 in
theorem lay_any (w : World) (g o n cap : Nat) (t : TypeId) (os : List Int) (v : Int) (hv : 0 ≤ v) (hv2 : v < 9223372036854775808) (hn : n ≤ 8) (hI : w.heap[g]? = some (.cells (ints .u8 os).toArray t (0, 0))) (hfit : o + n ≤ os.length) :
    Calls Try.prog 94 #[.slice (some ⟨g, o, none⟩) n cap, .int .i64 v] w fun e w' => e = .returned (.tuple #[]) ∧ w'.heap[g]? = some (.cells (ints .u8 (laidAt os o (num v n))).toArray t (0, 0)) ∧ Keeps g w w' := by
  have i0 : (n : Int) ≤ 8 := by omega
  go_enter Try.func94, Try.ntmps94
  go_wp2
  go_loopw [7] (fun i wr => ∃ m : Nat, m ≤ n ∧ i = .int .i64 m ∧ wr.heap[g]? = some (.cells (ints .u8 (laidAt os o (num v m))).toArray t (0, 0)) ∧ Keeps g w wr) (fun i _ => n - (intOf i).toNat)
  case atStart => exact ⟨0, by omega, rfl, by simpa [laidAt, num] using hI, Keeps.refl g w⟩
  case round =>
    clear hI
    obtain ⟨m, hm, rfl, hI, hK⟩ := hrel
    by_cases hlt : m < n
    · have i1 : (m : Int) < (n : Int) := by omega
      have hl : (num v m).length = m := num_len v m
      have hc := cell_ints hI (o + m) (by rw [laidAt_len _ _ _ (by omega)]; omega)
      have hfz : wr.frozen? ⟨g, o + m, none⟩ = false := frozen_of_row _ _ _ _ _ hI
      have HS := hid (show (laidAt os o (num v m)).set (o + m) (v / 2 ^ (8 * m) % 256) = laidAt os o (num v (m + 1)) by
        rw [num_snoc v hv m, ← laidAt_snoc _ _ _ _ (by omega), hl, Int.pow_mul]; rfl)
      replace hl := hid hl
      generalize (laidAt os o (num v m)).getD (o + m) 0 = z at *
      go_wp2
      go_roundw
      case rel => exact ⟨m + 1, by omega, by go_num, by rw [← HS.out]; exact heap_set_ints hI _ _, hK.setCell _ _⟩
      case measure => simp [intOf]; omega
    · obtain rfl : m = n := by omega
      clear hlt
      go_wp2
      go_end0
      exact ⟨rfl, hI, hK⟩
end Go.Proofs.Ytihkjfbhmlfonaa
namespace Go.Proofs.Ytihkjfbhmlfonaa
set_option linter.unusedVariables false
set_option linter.unusedSimpArgs false
open Go.RowKit
attribute [local go_sem ↓] Go.wp_at_zero Go.wp_at_succ

theorem ofInt_wrap (a : Nat) (ha : a < 18446744073709551616) : (BitVec.ofInt 64 (IntKind.i64.wrap (a : Int))).toNat = a := by
  rw [BitVec.toNat_ofInt, IntKind.wrap_i64]
  omega
theorem or_lay (A x n : Nat) (hn : n ≤ 7) (hA : A < 256 ^ n) (hx : x < 256) : bits .or .i64 (IntKind.i64.wrap (A : Int)) (IntKind.i64.wrap ((x : Int) * 2 ^ (8 * n))) = IntKind.i64.wrap ((A + x * 256 ^ n : Nat) : Int) := by
  have hp : (256 : Nat) ^ n = 2 ^ (8 * n) := by rw [Nat.pow_mul]
  have h56 : (2 : Nat) ^ (8 * n) ≤ 2 ^ 56 := Nat.pow_le_pow_right (by decide) (by omega)
  rw [hp] at hA ⊢
  have hxp : x * 2 ^ (8 * n) ≤ 255 * 2 ^ 56 := Nat.mul_le_mul (by omega) h56
  have e : ((x : Int) * 2 ^ (8 * n)) = ((x * 2 ^ (8 * n) : Nat) : Int) := by simp
  rw [e]
  show IntKind.i64.wrap ((BitVec.ofInt 64 (IntKind.i64.wrap (A : Int)) ||| BitVec.ofInt 64 (IntKind.i64.wrap ((x * 2 ^ (8 * n) : Nat) : Int))).toNat : Int) = _
  rw [BitVec.toNat_or, ofInt_wrap A (by omega), ofInt_wrap _ (by omega), Nat.or_comm, Nat.mul_comm x, ← Nat.two_pow_add_eq_or_of_lt hA, Nat.add_comm]
set_option maxRecDepth 100000 in
set_option maxHeartbeats 400000 in
theorem read_any (w : World) (zs : List Int) (h8 : Byts zs) (hn : zs.length ≤ 8) (sp : Option Addr) (cap : Nat) (hS : Src w sp cap zs) :
    Calls Try.prog 84 #[.slice sp zs.length cap] w fun e w' => e = .returned (.int .i64 (IntKind.i64.wrap (le zs))) ∧ Below w.heap.size w w' := by
  obtain ⟨hc, hm, b, o, hb, hsp, hsrc⟩ := hS
  have i0 : (zs.length : Int) ≤ 8 := by omega
  go_enter Try.func84, Try.ntmps84
  go_wp2
  go_loopw [3, 8] (fun x i wr => ∃ n : Nat, n ≤ zs.length ∧ i = .int .i64 n ∧ x = .int .i64 (IntKind.i64.wrap (le (zs.take n))) ∧ Below w.heap.size w wr) (fun _ i _ => zs.length - (intOf i).toNat)
  case atStart => exact ⟨0, by omega, rfl, rfl, Below.refl _ _⟩
  case round =>
    obtain ⟨n, hnl, rfl, rfl, hB⟩ := hrel
    by_cases hlt : n < zs.length
    · have i1 : (n : Int) < (zs.length : Int) := by omega
      obtain rfl := hsp (by omega)
      have c0 := (hB.cell (p := ⟨b, o + n, none⟩) (hb (by omega))).trans (hsrc n hlt)
      have hbn : 0 ≤ zs.getD n 0 ∧ zs.getD n 0 < 256 := h8 _ (by rw [List.getD_eq_getElem?_getD, List.getElem?_eq_getElem hlt]; exact List.getElem_mem hlt)
      have hlt2 := le_lt (zs.take n) (h8.take n)
      have hl : (zs.take n).length = n := by rw [List.length_take]; omega
      have HT := hid (show le (zs.take (n + 1)) = le (zs.take n) + (zs.getD n 0).toNat * 256 ^ n by
        rw [List.take_succ_eq_append_getElem hlt, le_snoc, hl, List.getD_eq_getElem?_getD, List.getElem?_eq_getElem hlt]; rfl)
      rw [hl] at hlt2
      obtain ⟨x, hx⟩ := Int.eq_ofNat_of_zero_le hbn.1
      rw [hx] at c0 hbn HT
      rw [Int.toNat_natCast] at HT
      have HO := hid (or_lay (le (zs.take n)) x n (by omega) hlt2 (by omega))
      clear hx hlt2 hl
      generalize hA : le (zs.take n) = A at *
      generalize hy : IntKind.i64.wrap (A : Int) = y at *
      replace hy := hid hy
      replace hA := hid hA
      go_wp2
      go_roundw
      case rel => exact ⟨n + 1, by omega, by go_num, by rw [HT.out, ← HO.out, IntWalk.i64_left], hB⟩
      case measure => simp [intOf]; omega
    · obtain rfl : n = zs.length := by omega
      clear hlt
      rw [List.take_length]
      go_wp2
      go_ret
      exact ⟨rfl, hB⟩
end Go.Proofs.Ytihkjfbhmlfonaa
