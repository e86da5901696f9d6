import Derived.Test.YtjpcegjgandnjaaGreatDoorQ02
import Derived.Lib.LazyBuf
namespace Go.Proofs.YtjpcegjgandnjaaGreatDoor
set_option linter.unusedVariables false
set_option linter.unusedSimpArgs false
open Go.RowKit

/-! A superblock. -/
structure Sup where
  wd : Int
  ge : Int
  ma : Int
  hd : Int
  pg : Int
  deriving DecidableEq
def sup0 : Sup := ⟨0, 0, 0, 0, 0⟩
def validS (s : Sup) : Bool := decide (1 ≤ s.wd ∧ s.wd ≤ 32 ∧ 0 ≤ s.ge ∧ s.ge ≤ 1099511627776 ∧ 3 ≤ s.pg ∧ s.pg ≤ 4096 ∧ 2 ≤ s.ma ∧ s.ma ≤ s.pg ∧ (s.hd = 0 ∨ (2 ≤ s.hd ∧ s.hd < s.ma)))
theorem validS_iff (s : Sup) : validS s = true ↔ 1 ≤ s.wd ∧ s.wd ≤ 32 ∧ 0 ≤ s.ge ∧ s.ge ≤ 1099511627776 ∧ 3 ≤ s.pg ∧ s.pg ≤ 4096 ∧ 2 ≤ s.ma ∧ s.ma ≤ s.pg ∧ (s.hd = 0 ∨ (2 ≤ s.hd ∧ s.hd < s.ma)) := by simp [validS]
def bodyS (s : Sup) : List Int := [76, 68, 71, 49, s.wd, 0, 0, 0] ++ num s.ge 8 ++ num s.ma 4 ++ num s.hd 4 ++ num s.pg 4 ++ List.replicate 32 0
theorem bodyS_len (s : Sup) : (bodyS s).length = 60 := by simp [bodyS, num_len]
theorem bodyS_byts (s : Sup) (h : validS s = true) : Byts (bodyS s) := by
  have h := (validS_iff s).1 h
  refine byts_app (byts_app (byts_app (byts_app (byts_app ?_ (num_byts _ _)) (num_byts _ _)) (num_byts _ _)) (num_byts _ _)) (rep_byts _)
  intro x hx
  simp at hx
  omega
def secS (s : Sup) : List Int := sealF (bodyS s)
theorem secS_len (s : Sup) : (secS s).length = 64 := by rw [secS, sealF_len, bodyS_len]
theorem secS_byts (s : Sup) (h : validS s = true) : Byts (secS s) := sealF_byts (bodyS_byts s h)
def readS (r : List Int) : Sup := ⟨r.getD 4 0, IntKind.i64.wrap (le ((r.drop 8).take 8)), le ((r.drop 16).take 4), le ((r.drop 20).take 4), le ((r.drop 24).take 4)⟩
/-- What PackSuper answers. -/
def superF (s : Sup) : List Int × Int := if validS s = true then (secS s ++ List.replicate 192 0, 0) else ([], 53)
/-- What UnpackSuper answers. -/
def unSuperF (r : List Int) : Sup × Int :=
  if r.length ≠ 256 then (sup0, 53) else if feed ones (r.take 64) ≠ CR then (sup0, 52)
  else if validS (readS (r.take 64)) = false ∨ secS (readS (r.take 64)) ≠ r.take 64 then (sup0, 53) else (readS (r.take 64), 0)
theorem split60 (l s : List Int) (a b c d : List Int) (z : List Int) (h0 : l.length = 8) (ha : a.length = 8) (hb : b.length = 4) (hc : c.length = 4) (hd : d.length = 4) :
    ((l ++ a ++ b ++ c ++ d ++ z ++ s).drop 8).take 8 = a ∧ ((l ++ a ++ b ++ c ++ d ++ z ++ s).drop 16).take 4 = b ∧ ((l ++ a ++ b ++ c ++ d ++ z ++ s).drop 20).take 4 = c ∧ ((l ++ a ++ b ++ c ++ d ++ z ++ s).drop 24).take 4 = d := by
  refine ⟨?_, ?_, ?_, ?_⟩
  · rw [show l ++ a ++ b ++ c ++ d ++ z ++ s = l ++ (a ++ (b ++ (c ++ (d ++ (z ++ s))))) by simp [List.append_assoc], List.drop_left' h0, List.take_left' ha]
  · rw [show l ++ a ++ b ++ c ++ d ++ z ++ s = (l ++ a) ++ (b ++ (c ++ (d ++ (z ++ s)))) by simp [List.append_assoc], List.drop_left' (by simp [h0, ha]), List.take_left' hb]
  · rw [show l ++ a ++ b ++ c ++ d ++ z ++ s = (l ++ a ++ b) ++ (c ++ (d ++ (z ++ s))) by simp [List.append_assoc], List.drop_left' (by simp [h0, ha, hb]), List.take_left' hc]
  · rw [show l ++ a ++ b ++ c ++ d ++ z ++ s = (l ++ a ++ b ++ c) ++ (d ++ (z ++ s)) by simp [List.append_assoc], List.drop_left' (by simp [h0, ha, hb, hc]), List.take_left' hd]
theorem le_num_int (v : Int) (n : Nat) (h0 : 0 ≤ v) (h : v < ((256 ^ n : Nat) : Int)) : (le (num v n) : Int) = v := by
  obtain ⟨m, rfl⟩ := Int.eq_ofNat_of_zero_le h0
  rw [le_num m n (by omega)]
theorem readS_secS (s : Sup) (h : validS s = true) : readS (secS s) = s := by
  have h := (validS_iff s).1 h
  obtain ⟨a1, a2, a3, a4⟩ := split60 [76, 68, 71, 49, s.wd, 0, 0, 0] (sbF (sumF (bodyS s))) (num s.ge 8) (num s.ma 4) (num s.hd 4) (num s.pg 4) (List.replicate 32 0) rfl (num_len _ _) (num_len _ _) (num_len _ _) (num_len _ _)
  have e : secS s = [76, 68, 71, 49, s.wd, 0, 0, 0] ++ num s.ge 8 ++ num s.ma 4 ++ num s.hd 4 ++ num s.pg 4 ++ List.replicate 32 0 ++ sbF (sumF (bodyS s)) := rfl
  have p8 : ((256 ^ 8 : Nat) : Int) = 18446744073709551616 := by decide
  have p4 : ((256 ^ 4 : Nat) : Int) = 4294967296 := by decide
  unfold readS
  rw [e, a1, a2, a3, a4, le_num_int s.ge 8 (by omega) (by omega), wrap_i64_id _ (by omega) (by omega), le_num_int s.ma 4 (by omega) (by omega), le_num_int s.hd 4 (by omega) (by omega), le_num_int s.pg 4 (by omega) (by omega)]
  simp
theorem unSuper_sec (s : Sup) (r : List Int) (h : validS s = true) (hl : r.length = 256) (ht : r.take 64 = secS s) : unSuperF r = (s, 0) := by
  unfold unSuperF
  rw [if_neg (by simp [hl]), ht, if_neg (by rw [secS, seal_CR _ (bodyS_byts s h)]; simp), readS_secS s h, if_neg (by simp [h])]
theorem unSuper_ok (r : List Int) (hE : (unSuperF r).2 = 0) : r.length = 256 ∧ validS (unSuperF r).1 = true ∧ r.take 64 = secS (unSuperF r).1 := by
  unfold unSuperF at *
  split at hE <;> try (simp at hE; done)
  rename_i g1
  split at hE <;> try (simp at hE; done)
  rename_i g2
  split at hE <;> try (simp at hE; done)
  rename_i g3
  rw [if_neg g1, if_neg g2, if_neg g3]
  have g3' : ¬ validS (readS (r.take 64)) = false ∧ secS (readS (r.take 64)) = r.take 64 := by
    constructor
    · exact fun h => g3 (Or.inl h)
    · exact Classical.byContradiction fun h => g3 (Or.inr h)
  exact ⟨by omega, by simpa using g3'.1, g3'.2.symm⟩
theorem superF_ok (s : Sup) (h : validS s = true) : superF s = (secS s ++ List.replicate 192 0, 0) := by rw [superF, if_pos h]
theorem superF_bad (s : Sup) (h : validS s = false) : superF s = ([], 53) := by rw [superF, if_neg (by simp [h])]

/-! Which one holds. -/
def follF (n o : Sup) : Bool := decide (n = { o with ge := o.ge + 1, ma := max o.ma n.ma, hd := n.hd })
def newerF (a b : Sup) : Sup × Int := if a.ge.tmod 2 ≠ 0 then (sup0, 4) else if follF a b = true then (a, 0) else if follF b a = true then (b, 0) else (sup0, 4)
def emptyF (r : List Int) : Bool := decide (r.length = 256) && decide (r.take 64 = List.replicate 64 0)
def chooseF (a b : List Int) : Sup × Int :=
  if (unSuperF a).2 = 0 ∧ (unSuperF b).2 = 0 then newerF (unSuperF a).1 (unSuperF b).1
  else if ((unSuperF a).2 = 0 ∧ (unSuperF a).1.ge = 0) ∨ emptyF a = true then (if emptyF b = true then (sup0, 55) else (sup0, 4)) else (sup0, 4)
end Go.Proofs.YtjpcegjgandnjaaGreatDoor
namespace Go.Proofs.YtjpcegjgandnjaaGreatDoor
set_option linter.unusedVariables false
set_option linter.unusedSimpArgs false
open Go.RowKit
attribute [local go_sem ↓] Go.wp_at_zero Go.wp_at_succ

set_option maxRecDepth 100000 in
theorem isPlace_any (w : World) (p : Int) : Calls Tryz.prog 146 #[.int .i64 p] w fun e w' => e = .returned (.bool (placeOk p)) ∧ w' = w := by
  by_cases h1 : 2 ≤ p
  · by_cases h2 : p < 4096
    · have HP := hid (show placeOk p = true by simp [placeOk, h1, h2])
      go_enter Tryz.func146, Tryz.ntmps146
      go_wp2
      go_ret
      exact ⟨by rw [HP.out]; rfl, rfl⟩
    · have HP := hid (show placeOk p = false by simp [placeOk, h2])
      go_enter Tryz.func146, Tryz.ntmps146
      go_wp2
      go_ret
      exact ⟨by rw [HP.out]; rfl, rfl⟩
  · have HP := hid (show placeOk p = false by simp [placeOk, h1])
    go_enter Tryz.func146, Tryz.ntmps146
    go_wp2
    go_ret
    exact ⟨by rw [HP.out]; rfl, rfl⟩
set_option maxRecDepth 100000 in
theorem isKind_any (w : World) (k : Int) : Calls Tryz.prog 148 #[.int .i64 k] w fun e w' => e = .returned (.bool (kindOk k)) ∧ w' = w := by
  by_cases h1 : k = 1
  · subst h1
    go_enter Tryz.func148, Tryz.ntmps148
    go_wp2
    go_ret
    exact ⟨by rfl, rfl⟩
  by_cases h2 : k = 2
  · subst h2
    go_enter Tryz.func148, Tryz.ntmps148
    go_wp2
    go_ret
    exact ⟨by rfl, rfl⟩
  by_cases h3 : k = 3
  · subst h3
    go_enter Tryz.func148, Tryz.ntmps148
    go_wp2
    go_ret
    exact ⟨by rfl, rfl⟩
  have HP := hid (show kindOk k = false by simp [kindOk]; omega)
  have e1 : (k == 1) = false := by simpa using h1
  have e2 : (k == 2) = false := by simpa using h2
  have e3 : (k == 3) = false := by simpa using h3
  clear h1 h2 h3
  go_enter Tryz.func148, Tryz.ntmps148
  go_wp2
  go_ret
  exact ⟨by rw [HP.out]; rfl, rfl⟩
set_option maxRecDepth 100000 in
set_option maxHeartbeats 400000 in
theorem allZero_any (w : World) (zs : List Int) (sp : Option Addr) (cap : Nat) (hS : Src w sp cap zs) :
    Calls Tryz.prog 150 #[.slice sp zs.length cap] w fun e w' => e = .returned (.bool (decide (zs = List.replicate zs.length 0))) ∧ Below w.heap.size w w' := by
  obtain ⟨hc, hm, b, o, hb, hsp, hsrc⟩ := hS
  unfold maxLen at hm
  have i0 : (zs.length : Int) ≤ 9223372036854775807 := by omega
  go_enter Tryz.func150, Tryz.ntmps150
  go_wp2
  go_loopw [7] (fun i wr => ∃ n : Nat, n ≤ zs.length ∧ i = .int .i64 n ∧ zs.take n = List.replicate n 0 ∧ Below w.heap.size w wr) (fun i _ => zs.length - (intOf i).toNat)
  case atStart => exact ⟨0, by omega, rfl, rfl, Below.refl _ _⟩
  case round =>
    obtain ⟨n, hn, rfl, hT, hB⟩ := hrel
    replace hT := hid hT
    by_cases hlt : n < zs.length
    · have i1 : (n : Int) < (zs.length : Int) := by omega
      obtain rfl := hsp (by omega)
      have c0 := (hB.cell (p := ⟨b, o + n, none⟩) (hb (by omega))).trans (hsrc n hlt)
      by_cases hz : zs.getD n 0 = 0
      · rw [hz] at c0
        replace hz := hid hz
        have HT := hid (show zs.take (n + 1) = List.replicate (n + 1) 0 by
          have := hz.out
          rw [List.getD_eq_getElem?_getD, List.getElem?_eq_getElem hlt] at this
          rw [List.take_succ_eq_append_getElem hlt, hT.out, List.replicate_succ']
          congr 2)
        go_wp2
        go_roundw
        case rel => exact ⟨n + 1, by omega, by go_num, HT.out, hB⟩
        case measure => simp [intOf]; omega
      · have HT := hid (show decide (zs = List.replicate zs.length 0) = false by
          simp only [decide_eq_false_iff_not]
          intro h
          apply hz
          rw [h]
          simp [List.getElem?_replicate, hlt])
        have hz2 : (zs.getD n 0 != 0) = true := by simpa using hz
        clear hz
        generalize zs.getD n 0 = x at *
        go_wp2
        go_ret
        exact ⟨by rw [HT.out]; rfl, hB⟩
    · obtain rfl : n = zs.length := by omega
      have HT := hid (show decide (zs = List.replicate zs.length 0) = true by
        have := hT.out
        rw [List.take_length] at this
        simpa using this)
      clear hlt hn
      go_wp2
      go_ret
      exact ⟨by rw [HT.out]; rfl, hB⟩
/-- A part of a block is written over. -/
def laidAt (os : List Int) (o : Nat) (ys : List Int) : List Int := os.take o ++ ys ++ os.drop (o + ys.length)
theorem laidAt_len (os : List Int) (o : Nat) (ys : List Int) (h : o + ys.length ≤ os.length) : (laidAt os o ys).length = os.length := by simp [laidAt]; omega
theorem laidAt_snoc (os : List Int) (o : Nat) (ys : List Int) (y : Int) (h : o + ys.length < os.length) : (laidAt os o ys).set (o + ys.length) y = laidAt os o (ys ++ [y]) := by
  unfold laidAt
  rw [List.set_append_right _ _ (by simp; omega), show o + ys.length - (os.take o ++ ys).length = 0 by simp; omega, List.drop_eq_getElem_cons (by omega), List.set_cons_zero]
  simp [List.append_assoc, Nat.add_assoc]
set_option maxRecDepth 100000 in
set_option maxHeartbeats 400000 in
theorem lay_any (w : World) (g o n cap : Nat) (t : TypeId) (os : List Int) (v : Int) (hv : 0 ≤ v) (hv2 : v < 9223372036854775808) (hn : n ≤ 8) (hI : w.heap[g]? = some (.cells (ints .u8 os).toArray t (0, 0))) (hfit : o + n ≤ os.length) :
    Calls Tryz.prog 178 #[.slice (some ⟨g, o, none⟩) n cap, .int .i64 v] w fun e w' => e = .returned (.tuple #[]) ∧ w'.heap[g]? = some (.cells (ints .u8 (laidAt os o (num v n))).toArray t (0, 0)) ∧ Keeps g w w' := by
  have i0 : (n : Int) ≤ 8 := by omega
  go_enter Tryz.func178, Tryz.ntmps178
  go_wp2
  go_loopw [7] (fun i wr => ∃ m : Nat, m ≤ n ∧ i = .int .i64 m ∧ wr.heap[g]? = some (.cells (ints .u8 (laidAt os o (num v m))).toArray t (0, 0)) ∧ Keeps g w wr) (fun i _ => n - (intOf i).toNat)
  case atStart => exact ⟨0, by omega, rfl, by simpa [laidAt, num] using hI, Keeps.refl g w⟩
  case round =>
    clear hI
    obtain ⟨m, hm, rfl, hI, hK⟩ := hrel
    by_cases hlt : m < n
    · have i1 : (m : Int) < (n : Int) := by omega
      have hl : (num v m).length = m := num_len v m
      have hc := cell_ints hI (o + m) (by rw [laidAt_len _ _ _ (by omega)]; omega)
      have hfz : wr.frozen? ⟨g, o + m, none⟩ = false := frozen_of_row _ _ _ _ _ hI
      have HS := hid (show (laidAt os o (num v m)).set (o + m) (v / 2 ^ (8 * m) % 256) = laidAt os o (num v (m + 1)) by
        rw [num_snoc v hv m, ← laidAt_snoc _ _ _ _ (by omega), hl, Int.pow_mul]; rfl)
      replace hl := hid hl
      generalize (laidAt os o (num v m)).getD (o + m) 0 = z at *
      go_wp2
      go_roundw
      case rel => exact ⟨m + 1, by omega, by go_num, by rw [← HS.out]; exact heap_set_ints hI _ _, hK.setCell _ _⟩
      case measure => simp [intOf]; omega
    · obtain rfl : m = n := by omega
      clear hlt
      go_wp2
      go_end0
      exact ⟨rfl, hI, hK⟩
end Go.Proofs.YtjpcegjgandnjaaGreatDoor
namespace Go.Proofs.YtjpcegjgandnjaaGreatDoor
set_option linter.unusedVariables false
set_option linter.unusedSimpArgs false
open Go.RowKit
attribute [local go_sem ↓] Go.wp_at_zero Go.wp_at_succ

theorem ofInt_wrap (a : Nat) (ha : a < 18446744073709551616) : (BitVec.ofInt 64 (IntKind.i64.wrap (a : Int))).toNat = a := by
  rw [BitVec.toNat_ofInt, IntKind.wrap_i64]
  omega
theorem or_lay (A x n : Nat) (hn : n ≤ 7) (hA : A < 256 ^ n) (hx : x < 256) : bits .or .i64 (IntKind.i64.wrap (A : Int)) (IntKind.i64.wrap ((x : Int) * 2 ^ (8 * n))) = IntKind.i64.wrap ((A + x * 256 ^ n : Nat) : Int) := by
  have hp : (256 : Nat) ^ n = 2 ^ (8 * n) := by rw [Nat.pow_mul]
  have h56 : (2 : Nat) ^ (8 * n) ≤ 2 ^ 56 := Nat.pow_le_pow_right (by decide) (by omega)
  rw [hp] at hA ⊢
  have hxp : x * 2 ^ (8 * n) ≤ 255 * 2 ^ 56 := Nat.mul_le_mul (by omega) h56
  have e : ((x : Int) * 2 ^ (8 * n)) = ((x * 2 ^ (8 * n) : Nat) : Int) := by simp
  rw [e]
  show IntKind.i64.wrap ((BitVec.ofInt 64 (IntKind.i64.wrap (A : Int)) ||| BitVec.ofInt 64 (IntKind.i64.wrap ((x * 2 ^ (8 * n) : Nat) : Int))).toNat : Int) = _
  rw [BitVec.toNat_or, ofInt_wrap A (by omega), ofInt_wrap _ (by omega), Nat.or_comm, Nat.mul_comm x, ← Nat.two_pow_add_eq_or_of_lt hA, Nat.add_comm]
set_option maxRecDepth 100000 in
set_option maxHeartbeats 400000 in
theorem read_any (w : World) (zs : List Int) (h8 : Byts zs) (hn : zs.length ≤ 8) (sp : Option Addr) (cap : Nat) (hS : Src w sp cap zs) :
    Calls Tryz.prog 149 #[.slice sp zs.length cap] w fun e w' => e = .returned (.int .i64 (IntKind.i64.wrap (le zs))) ∧ Below w.heap.size w w' := by
  obtain ⟨hc, hm, b, o, hb, hsp, hsrc⟩ := hS
  have i0 : (zs.length : Int) ≤ 8 := by omega
  go_enter Tryz.func149, Tryz.ntmps149
  go_wp2
  go_loopw [3, 8] (fun x i wr => ∃ n : Nat, n ≤ zs.length ∧ i = .int .i64 n ∧ x = .int .i64 (IntKind.i64.wrap (le (zs.take n))) ∧ Below w.heap.size w wr) (fun _ i _ => zs.length - (intOf i).toNat)
  case atStart => exact ⟨0, by omega, rfl, rfl, Below.refl _ _⟩
  case round =>
    obtain ⟨n, hnl, rfl, rfl, hB⟩ := hrel
    by_cases hlt : n < zs.length
    · have i1 : (n : Int) < (zs.length : Int) := by omega
      obtain rfl := hsp (by omega)
      have c0 := (hB.cell (p := ⟨b, o + n, none⟩) (hb (by omega))).trans (hsrc n hlt)
      have hbn : 0 ≤ zs.getD n 0 ∧ zs.getD n 0 < 256 := h8 _ (by rw [List.getD_eq_getElem?_getD, List.getElem?_eq_getElem hlt]; exact List.getElem_mem hlt)
      have hlt2 := le_lt (zs.take n) (h8.take n)
      have hl : (zs.take n).length = n := by rw [List.length_take]; omega
      have HT := hid (show le (zs.take (n + 1)) = le (zs.take n) + (zs.getD n 0).toNat * 256 ^ n by
        rw [List.take_succ_eq_append_getElem hlt, le_snoc, hl, List.getD_eq_getElem?_getD, List.getElem?_eq_getElem hlt]; rfl)
      rw [hl] at hlt2
      obtain ⟨x, hx⟩ := Int.eq_ofNat_of_zero_le hbn.1
      rw [hx] at c0 hbn HT
      rw [Int.toNat_natCast] at HT
      have HO := hid (or_lay (le (zs.take n)) x n (by omega) hlt2 (by omega))
      clear hx hlt2 hl
      generalize hA : le (zs.take n) = A at *
      generalize hy : IntKind.i64.wrap (A : Int) = y at *
      replace hy := hid hy
      replace hA := hid hA
      go_wp2
      go_roundw
      case rel => exact ⟨n + 1, by omega, by go_num, by rw [HT.out, ← HO.out, IntWalk.i64_left], hB⟩
      case measure => simp [intOf]; omega
    · obtain rfl : n = zs.length := by omega
      clear hlt
      rw [List.take_length]
      go_wp2
      go_ret
      exact ⟨rfl, hB⟩
end Go.Proofs.YtjpcegjgandnjaaGreatDoor
namespace Go.Proofs.YtjpcegjgandnjaaGreatDoor
set_option linter.unusedVariables false
set_option linter.unusedSimpArgs false
open Go.RowKit
attribute [local go_sem ↓] Go.wp_at_zero Go.wp_at_succ

def zz (n : Nat) : List Int := List.replicate n 0
theorem zz_len (n : Nat) : (zz n).length = n := by simp [zz]
/-- What Pack answers, where it lies. -/
def New (w w' : World) (v : Value) (zs : List Int) : Prop := (v = .slice none 0 0 ∧ zs = []) ∨ zs ≠ [] ∧ ∃ g, v = .slice (some ⟨g, 0, none⟩) zs.length zs.length ∧ w.heap.size ≤ g ∧ w'.heap[g]? = some (.cells (ints .u8 zs).toArray 5 (0, 0))
end Go.Proofs.YtjpcegjgandnjaaGreatDoor
namespace Go.Proofs.YtjpcegjgandnjaaGreatDoor
set_option linter.unusedVariables false
set_option linter.unusedSimpArgs false
open Go.RowKit
attribute [local go_sem ↓] Go.wp_at_zero Go.wp_at_succ

theorem own_emptyN {w : World} {base g : Nat} (h : w.heap[g]? = some (.cells #[] 5 (0, 0))) (hg : base ≤ g) : Own w base (.slice (some ⟨g, 0, none⟩) 0 0) [] :=
  ⟨rfl, Or.inr ⟨g, 0, #[], rfl, hg, h, Nat.le_refl _, by simp [maxLen], rfl, rfl⟩⟩
set_option maxRecDepth 100000 in
set_option maxHeartbeats 400000 in
theorem clone_any (w : World) (l : List Int) (a : Addr) (cap : Nat) (hS : Src w (some a) cap l) (hl : l.length ≤ 1000) :
    Calls Tryz.prog 151 #[.slice (some a) l.length cap] w fun e w' => ∃ v, e = .returned v ∧ Own w' w.heap.size v l ∧ Below w.heap.size w w' := by
  have hr1 := hnew w (.cells #[] 5)
  have hO1 : Own (w.alloc (.cells #[] 5)) w.heap.size (.slice (some ⟨w.heap.size, 0, none⟩) 0 0) [] := own_emptyN hr1 (Nat.le_refl _)
  have hB1 := below_new w (.cells #[] 5)
  have hS1 := hS.below hB1 (Nat.le_refl _)
  have KL := hid (show ([] : List Int).length + l.length ≤ 140737488351232 by simp; omega)
  have hN : (binOp .eql 45 (.slice (some a) l.length cap) (.slice none 0 0)).run Tryz.prog w = .ok (.bool false) w := run_eql_slice_nil w 45 5 (some a) l.length cap Tryz.underlying45
  clear hr1
  go_enter Tryz.func151, Tryz.ntmps151
  go_wp2_with (first
    | (refine wpList_append_wide rfl (.tmp 5) (.tmp 6) rfl w.heap.size _ [] l rfl hO1 (some a) cap rfl (fun h => by cases h) hS1 KL.out hB1.size ?_; intro v2 w2 hO2 hg2 hb2))
  have hB2 := grown_keeps hg2 (fun k hk => (hO1.block k hk).1) hB1.size
  rw [List.nil_append] at hO2
  clear hg2 hb2
  go_wp2
  go_ret
  exact ⟨_, rfl, hO2, hB1.trans hB2⟩
theorem Src.mid {w : World} {b o cap : Nat} {r : List Int} (hS : Src w (some ⟨b, o, none⟩) cap r) (k n : Nat) (h : k + n ≤ r.length) (hb : b < w.heap.size) (c : Nat) (hc1 : n ≤ c) (hc2 : c ≤ maxLen) : Src w (some ⟨b, o + k, none⟩) c ((r.drop k).take n) := by
  obtain ⟨h1, h2, b', o', h3, h4, h5⟩ := hS
  have hl : ((r.drop k).take n).length = n := by simp; omega
  refine ⟨by omega, hc2, b, o + k, fun _ => hb, fun _ => rfl, fun j hj => ?_⟩
  have he := h4 (by omega)
  cases he
  have := h5 (k + j) (by omega)
  rw [Nat.add_assoc, this, List.getD_eq_getElem?_getD, List.getD_eq_getElem?_getD, List.getElem?_take, if_pos (by omega), List.getElem?_drop]
theorem Own.base {w : World} {B B' : Nat} {v : Value} {zs : List Int} (h : Own w B v zs) (hB : B' ≤ B) : Own w B' v zs := by
  refine ⟨h.1, ?_⟩
  rcases h.2 with h2 | ⟨g, cap, cur, rfl, hg, r⟩
  · exact Or.inl h2
  · exact Or.inr ⟨g, cap, cur, rfl, by omega, r⟩
set_option maxRecDepth 100000 in
set_option maxHeartbeats 1000000 in
theorem unpack_ok (w : World) (p : Int) (r : List Int) (h8 : Byts r) (hp : placeOk p = true) (hl : r.length = 256) (hC : feed ones r = CR) (sp : Option Addr) (cap : Nat) (hS : Src w sp cap r) :
    Calls Tryz.prog 114 #[.int .i64 p, .slice sp 256 cap] w fun e w' => ∃ v, e = .returned (.tuple #[.int .i64 (unpackF p r).1, v, .int .i64 (unpackF p r).2.2]) ∧ Own w' w.heap.size v (unpackF p r).2.1 ∧ Below w.heap.size w w' := by
  have hS' := hS
  obtain ⟨hc, hm, b, o, hb, hsp, hsrc⟩ := hS
  obtain rfl := hsp (by omega)
  replace hb := hb (by omega)
  have i1 : 256 ≤ cap := by omega
  have i2 : (256 : Int) ≤ (cap : Int) := by omega
  have hw := whole_L w r h8 (by omega) (some ⟨b, o, none⟩) cap hS'
  rw [hl] at hw
  have HP := hid hp
  have HL := hid hl
  have HC := hid hC
  have g0 := h8 (r.getD 0 0) (by rw [List.getD_eq_getElem?_getD, List.getElem?_eq_getElem (by omega)]; exact List.getElem_mem _)
  have g1 := h8 (r.getD 1 0) (by rw [List.getD_eq_getElem?_getD, List.getElem?_eq_getElem (by omega)]; exact List.getElem_mem _)
  have HU := hid (show unpackF p r = (if kindOk (r.getD 0 0) = false then (0, [], 50) else if 246 < r.getD 1 0 then (0, [], 51)
  else if (le ((r.drop 2).take 4) : Int) ≠ p then (0, [], 54)
  else if (r.drop (6 + (r.getD 1 0).toNat)).take (246 - (r.getD 1 0).toNat) ≠ List.replicate (246 - (r.getD 1 0).toNat) 0 then (0, [], 53)
  else (r.getD 0 0, (r.drop 6).take (r.getD 1 0).toNat, 0)) by
    rw [unpackF, if_neg (by simp [hp]), if_neg (by simp [hl]), if_neg (by simp [hC])])
  have c0' := hsrc 0 (by omega)
  have c1' := hsrc 1 (by omega)
  rw [Nat.add_zero] at c0'
  have h24 : ((r.drop 2).take 4).length = 4 := by simp [hl]
  obtain ⟨k, hk⟩ : ∃ k, k = r.getD 0 0 := ⟨_, rfl⟩
  obtain ⟨n, hn⟩ : ∃ n : Nat, (n : Int) = r.getD 1 0 := ⟨(r.getD 1 0).toNat, by omega⟩
  rw [← hk] at g0 HU c0'
  rw [← hn] at g1 HU c1'
  rw [Int.toNat_natCast] at HU
  clear hk hn hp hC
  go_enter Tryz.func114, Tryz.ntmps114
  go_wp2_with fail
  refine (isPlace_any w p).mono ?_
  rintro e w1 ⟨rfl, rfl⟩
  rw [HP.out]
  clear hl
  go_wp2_with fail
  refine hw.mono ?_
  rintro e w2 ⟨rfl, b2⟩
  rw [HC.out, show (decide (CR = CR)) = true from by simp]
  have c0 := (b2.cell (p := ⟨b, o, none⟩) hb).trans c0'
  have c1 := (b2.cell (p := ⟨b, o + 1, none⟩) hb).trans c1'
  have hb2 : b < w2.heap.size := Nat.lt_of_lt_of_le hb b2.size
  have hS2 := hS'.below b2 (Nat.le_refl _)
  clear c0' c1' hw hsrc
  go_wp2_with fail
  go_quiet (fail)
  have b3 : Below w1.heap.size w1 (w2.drewN nq) := below_drewN b2 nq
  have hS3 : Src (w2.drewN nq) (some ⟨b, o, none⟩) cap r := hS2
  have hb3 : b < (w2.drewN nq).heap.size := hb2
  generalize w2.drewN nq = w3 at *
  clear b2 hS2 hb2 c0 c1
  go_wp2_with fail
  refine (isKind_any w3 k).mono ?_
  rintro e w4 ⟨rfl, rfl⟩
  cases hk : kindOk k
  · have HF := hid (show unpackF p r = (0, [], 50) by rw [HU.out, if_pos hk])
    clear HU
    go_wp2
    go_ret3
    exact ⟨_, by rw [HF.out]; rfl, by rw [HF.out]; exact Own.nil _ _, b3⟩
  have HK := hid hk
  clear hk
  by_cases hn : 246 < n
  · have HF := hid (show unpackF p r = (0, [], 51) by rw [HU.out, if_neg (by simp [HK.out]), if_pos (by omega)])
    clear HU
    have i3 : (246 : Int) < (n : Int) := by omega
    go_wp2
    go_ret3
    exact ⟨_, by rw [HF.out]; rfl, by rw [HF.out]; exact Own.nil _ _, b3⟩
  have i3 : (n : Int) ≤ 246 := by omega
  have hrd := read_any w4 ((r.drop 2).take 4) ((h8.drop 2).take 4) (by omega) (some ⟨b, o + 2, none⟩) (cap - 2) (hS3.mid 2 4 (by have := HL.out; omega) hb3 _ (by omega) (by omega))
  have hlt4 := le_lt ((r.drop 2).take 4) ((h8.drop 2).take 4)
  rw [h24] at hrd hlt4
  have hW := wrap_i64_id (le ((r.drop 2).take 4) : Int) (by omega) (by omega)
  rw [hW] at hrd
  clear hW
  go_wp2_with fail
  refine hrd.mono ?_
  rintro e w5 ⟨rfl, b5⟩
  have b5' := b3.trans (b5.mono b3.size)
  have hS5 := hS3.below b5 (Nat.le_refl _)
  have hb5 : b < w5.heap.size := Nat.lt_of_lt_of_le hb3 b5.size
  clear hrd b5 b3 hS3 hb3
  obtain ⟨q, hq⟩ : ∃ q : Int, q = (le ((r.drop 2).take 4) : Int) := ⟨_, rfl⟩
  rw [← hq] at HU ⊢
  clear hq hlt4
  by_cases hqp : q = p
  · subst hqp
    have i4 : (n : Int) + 6 ≤ 252 := by omega
    have hlz : ((r.drop (6 + n)).take (246 - n)).length = 252 - (6 + n) := by have := HL.out; simp; omega
    have hz := allZero_any w5 ((r.drop (6 + n)).take (246 - n)) (some ⟨b, o + (6 + n), none⟩) (cap - (6 + n)) (hS5.mid (6 + n) (246 - n) (by have := HL.out; omega) hb5 _ (by omega) (by omega))
    rw [hlz] at hz
    go_wp2_with fail
    refine hz.mono ?_
    rintro e w6 ⟨rfl, b6⟩
    have b6' := b5'.trans (b6.mono b5'.size)
    have hS6 := hS5.below b6 (Nat.le_refl _)
    have hb6 : b < w6.heap.size := Nat.lt_of_lt_of_le hb5 b6.size
    clear hz b6 b5' hS5 hb5 hlz
    by_cases hzz : (r.drop (6 + n)).take (246 - n) = List.replicate (246 - n) 0
    · have HF := hid (show unpackF q r = (k, (r.drop 6).take n, 0) by rw [HU.out, if_neg (by simp [HK.out]), if_neg (by omega), if_neg (by simp), if_neg (by simp [hzz])])
      rw [show (decide ((r.drop (6 + n)).take (246 - n) = List.replicate (252 - (6 + n)) 0)) = true by rw [hzz]; simp; omega]
      clear HU hzz
      have hl6 : ((r.drop 6).take n).length = n := by have := HL.out; simp; omega
      have hcl := clone_any w6 ((r.drop 6).take n) ⟨b, o + 6, none⟩ (cap - 6) (hS6.mid 6 n (by have := HL.out; omega) hb6 _ (by omega) (by omega)) (by omega)
      rw [hl6] at hcl
      clear hl6
      go_wp2_with fail
      refine hcl.mono ?_
      rintro e w7 ⟨v, rfl, hO, b7⟩
      have b7' := b6'.trans (b7.mono b6'.size)
      have hO' : Own w7 w1.heap.size v ((r.drop 6).take n) := hO.base b6'.size
      clear hcl hO b7 b6' hS6
      go_wp2
      go_ret3
      exact ⟨_, by rw [HF.out]; rfl, by rw [HF.out]; exact hO', b7'⟩
    · have HF := hid (show unpackF q r = (0, [], 53) by rw [HU.out, if_neg (by simp [HK.out]), if_neg (by omega), if_neg (by simp), if_pos hzz])
      rw [show (decide ((r.drop (6 + n)).take (246 - n) = List.replicate (252 - (6 + n)) 0)) = false by rw [show 252 - (6 + n) = 246 - n by omega]; simpa using hzz]
      clear HU hzz
      go_wp2
      go_ret3
      exact ⟨_, by rw [HF.out]; rfl, by rw [HF.out]; exact Own.nil _ _, b6'⟩
  · have HF := hid (show unpackF p r = (0, [], 54) by rw [HU.out, if_neg (by simp [HK.out]), if_neg (by omega), if_pos hqp])
    clear HU
    have hqp2 : (q != p) = true := by simpa using hqp
    clear hqp
    go_wp2
    go_ret3
    exact ⟨_, by rw [HF.out]; rfl, by rw [HF.out]; exact Own.nil _ _, b5'⟩
set_option maxRecDepth 100000 in
set_option maxHeartbeats 400000 in
/-- Unpack, at every input. -/
theorem unpack_any (w : World) (p : Int) (r : List Int) (h8 : Byts r) (sp : Option Addr) (cap : Nat) (hS : Src w sp cap r) :
    Calls Tryz.prog 114 #[.int .i64 p, .slice sp r.length cap] w fun e w' => ∃ v, e = .returned (.tuple #[.int .i64 (unpackF p r).1, v, .int .i64 (unpackF p r).2.2]) ∧ Own w' w.heap.size v (unpackF p r).2.1 ∧ Below w.heap.size w w' := by
  have hlm : (r.length : Int) ≤ 9223372036854775807 := by have := hS.1; have := hS.2.1; unfold maxLen at this; omega
  cases hp : placeOk p
  · have HF := hid (show unpackF p r = (0, [], 54) by rw [unpackF, if_pos hp])
    clear hS
    go_enter Tryz.func114, Tryz.ntmps114
    go_wp2_with fail
    refine (isPlace_any w p).mono ?_
    rintro e w1 ⟨rfl, rfl⟩
    rw [hp]
    go_wp2
    go_ret3
    exact ⟨_, by rw [HF.out]; rfl, by rw [HF.out]; exact Own.nil _ _, Below.refl _ _⟩
  by_cases hl : r.length = 256
  · by_cases hC : feed ones r = CR
    · rw [hl]; exact unpack_ok w p r h8 hp hl hC sp cap hS
    · have HF := hid (unpack_sum p r hp hl hC)
      have hw := whole_L w r h8 (by omega) sp cap hS
      rw [show decide (feed ones r = CR) = false by simpa using hC] at hw
      rw [hl] at hw ⊢
      clear hS hl hlm hC
      go_enter Tryz.func114, Tryz.ntmps114
      go_wp2_with fail
      refine (isPlace_any w p).mono ?_
      rintro e w1 ⟨rfl, rfl⟩
      rw [hp]
      go_wp2_with fail
      refine hw.mono ?_
      rintro e w2 ⟨rfl, b2⟩
      go_wp2
      go_ret3
      exact ⟨_, by rw [HF.out]; rfl, by rw [HF.out]; exact Own.nil _ _, b2⟩
  · have HF := hid (show unpackF p r = (0, [], 53) by rw [unpackF, if_neg (by simp [hp]), if_pos hl])
    have hl2 : ((r.length : Int) != 256) = true := by simp; omega
    clear hS hl
    go_enter Tryz.func114, Tryz.ntmps114
    go_wp2_with fail
    refine (isPlace_any w p).mono ?_
    rintro e w1 ⟨rfl, rfl⟩
    rw [hp]
    go_wp2
    go_ret3
    exact ⟨_, by rw [HF.out]; rfl, by rw [HF.out]; exact Own.nil _ _, Below.refl _ _⟩
end Go.Proofs.YtjpcegjgandnjaaGreatDoor
namespace Go.Proofs.YtjpcegjgandnjaaGreatDoor
set_option linter.unusedVariables false
set_option linter.unusedSimpArgs false
open Go.RowKit
attribute [local go_sem ↓] Go.wp_at_zero Go.wp_at_succ

/-- A superblock's cells. -/
def supC (s : Sup) : Array Value := #[.int .i64 s.wd, .int .i64 s.ge, .int .i64 s.ma, .int .i64 s.hd, .int .i64 s.pg]
set_option maxRecDepth 100000 in
set_option maxHeartbeats 1000000 in
theorem valid_at (w : World) (wd ge ma hd pg : Int) :
    Calls Tryz.prog 144 #[.agg #[.int .i64 wd, .int .i64 ge, .int .i64 ma, .int .i64 hd, .int .i64 pg]] w fun e w' => e = .returned (.bool (validS ⟨wd, ge, ma, hd, pg⟩)) ∧ Below w.heap.size w w' := by
  by_cases n0 : ¬ (1 ≤ wd)
  · skip
    have HV := hid (show validS ⟨wd, ge, ma, hd, pg⟩ = false by simp [validS]; omega)
    go_enter Tryz.func144, Tryz.ntmps144
    go_wp2
    go_ret
    exact ⟨by rw [HV.out]; rfl, below_new w _⟩
  have h0 : 1 ≤ wd := Classical.not_not.1 n0
  clear n0
  by_cases n1 : ¬ (wd ≤ 32)
  · skip
    have HV := hid (show validS ⟨wd, ge, ma, hd, pg⟩ = false by simp [validS]; omega)
    go_enter Tryz.func144, Tryz.ntmps144
    go_wp2
    go_ret
    exact ⟨by rw [HV.out]; rfl, below_new w _⟩
  have h1 : wd ≤ 32 := Classical.not_not.1 n1
  clear n1
  by_cases n2 : ¬ (0 ≤ ge)
  · skip
    have HV := hid (show validS ⟨wd, ge, ma, hd, pg⟩ = false by simp [validS]; omega)
    go_enter Tryz.func144, Tryz.ntmps144
    go_wp2
    go_ret
    exact ⟨by rw [HV.out]; rfl, below_new w _⟩
  have h2 : 0 ≤ ge := Classical.not_not.1 n2
  clear n2
  by_cases n3 : ¬ (ge ≤ 1099511627776)
  · skip
    have HV := hid (show validS ⟨wd, ge, ma, hd, pg⟩ = false by simp [validS]; omega)
    go_enter Tryz.func144, Tryz.ntmps144
    go_wp2
    go_ret
    exact ⟨by rw [HV.out]; rfl, below_new w _⟩
  have h3 : ge ≤ 1099511627776 := Classical.not_not.1 n3
  clear n3
  by_cases n4 : ¬ (3 ≤ pg)
  · skip
    have HV := hid (show validS ⟨wd, ge, ma, hd, pg⟩ = false by simp [validS]; omega)
    go_enter Tryz.func144, Tryz.ntmps144
    go_wp2
    go_ret
    exact ⟨by rw [HV.out]; rfl, below_new w _⟩
  have h4 : 3 ≤ pg := Classical.not_not.1 n4
  clear n4
  by_cases n5 : ¬ (pg ≤ 4096)
  · skip
    have HV := hid (show validS ⟨wd, ge, ma, hd, pg⟩ = false by simp [validS]; omega)
    go_enter Tryz.func144, Tryz.ntmps144
    go_wp2
    go_ret
    exact ⟨by rw [HV.out]; rfl, below_new w _⟩
  have h5 : pg ≤ 4096 := Classical.not_not.1 n5
  clear n5
  by_cases n6 : ¬ (2 ≤ ma)
  · skip
    have HV := hid (show validS ⟨wd, ge, ma, hd, pg⟩ = false by simp [validS]; omega)
    go_enter Tryz.func144, Tryz.ntmps144
    go_wp2
    go_ret
    exact ⟨by rw [HV.out]; rfl, below_new w _⟩
  have h6 : 2 ≤ ma := Classical.not_not.1 n6
  clear n6
  by_cases n7 : ¬ (ma ≤ pg)
  · skip
    have HV := hid (show validS ⟨wd, ge, ma, hd, pg⟩ = false by simp [validS]; omega)
    go_enter Tryz.func144, Tryz.ntmps144
    go_wp2
    go_ret
    exact ⟨by rw [HV.out]; rfl, below_new w _⟩
  have h7 : ma ≤ pg := Classical.not_not.1 n7
  clear n7
  by_cases h8 : hd = 0
  · have e8 : (hd == 0) = true := by simpa using h8
    have HV := hid (show validS ⟨wd, ge, ma, hd, pg⟩ = true by simp only [validS, decide_eq_true_eq]; omega)
    clear h8
    go_enter Tryz.func144, Tryz.ntmps144
    go_wp2
    go_ret
    exact ⟨by rw [HV.out]; rfl, below_new w _⟩
  have e8 : (hd == 0) = false := by simpa using h8
  by_cases n9 : ¬ (2 ≤ hd)
  · skip
    have HV := hid (show validS ⟨wd, ge, ma, hd, pg⟩ = false by simp [validS]; omega)
    clear h8
    go_enter Tryz.func144, Tryz.ntmps144
    go_wp2
    go_ret
    exact ⟨by rw [HV.out]; rfl, below_new w _⟩
  have h9 : 2 ≤ hd := Classical.not_not.1 n9
  clear n9
  by_cases n10 : ¬ (hd < ma)
  · skip
    have HV := hid (show validS ⟨wd, ge, ma, hd, pg⟩ = false by simp [validS]; omega)
    clear h8
    go_enter Tryz.func144, Tryz.ntmps144
    go_wp2
    go_ret
    exact ⟨by rw [HV.out]; rfl, below_new w _⟩
  have h10 : hd < ma := Classical.not_not.1 n10
  clear n10
  have HV := hid (show validS ⟨wd, ge, ma, hd, pg⟩ = true by simp only [validS, decide_eq_true_eq]; omega)
  clear h8
  go_enter Tryz.func144, Tryz.ntmps144
  go_wp2
  go_ret
  exact ⟨by rw [HV.out]; rfl, below_new w _⟩
theorem valid_any (w : World) (s : Sup) : Calls Tryz.prog 144 #[.agg (supC s)] w fun e w' => e = .returned (.bool (validS s)) ∧ Below w.heap.size w w' := valid_at w s.wd s.ge s.ma s.hd s.pg
end Go.Proofs.YtjpcegjgandnjaaGreatDoor
