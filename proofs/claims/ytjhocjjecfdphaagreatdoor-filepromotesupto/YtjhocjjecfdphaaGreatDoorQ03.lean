import Derived.Test.YtjhocjjecfdphaaGreatDoorQ02
namespace Go.Proofs.YtjhocjjecfdphaaGreatDoor
set_option linter.unusedVariables false
set_option linter.unusedSimpArgs false
set_option maxRecDepth 100000
set_option maxHeartbeats 4000000
section
open Go.RowKit
def num (v : Int) : Nat → List Int
 | 0 => []
 | n + 1 => v % 256 :: num (v / 256) n
theorem num_len (v : Int) (n : Nat) : (num v n).length = n := by
 induction n generalizing v with
 | zero => rfl
 | succ n ih => simp [num, ih]
theorem num_byts (v : Int) (n : Nat) : Byts (num v n) := by
 induction n generalizing v with
 | zero => intro x hx; simp [num] at hx
 | succ n ih =>
   intro x hx
   rcases List.mem_cons.1 hx with rfl | h
   · omega
   · exact ih _ x h
theorem num_snoc (v : Int) (hv : 0 ≤ v) (n : Nat) : num v (n + 1) = num v n ++ [v / 256 ^ n % 256] := by
 induction n generalizing v with
 | zero => simp [num]
 | succ n ih =>
   rw [num, ih (v / 256) (Int.ediv_nonneg hv (by decide)), num, List.cons_append, Int.ediv_ediv_of_nonneg (by decide), Int.pow_succ, Int.mul_comm]
theorem le_num (v : Nat) (n : Nat) (h : v < 256 ^ n) : le (num (v : Int) n) = v := by
 induction n generalizing v with
 | zero => simp [num, le]; omega
 | succ n ih =>
   have e : (v : Int) / 256 = ((v / 256 : Nat) : Int) := by omega
   rw [num, le, e, ih (v / 256) (by rw [Nat.pow_succ] at h; omega)]
   omega
theorem le_lt (l : List Int) (h : Byts l) : le l < 256 ^ l.length := by
 induction l with
 | nil => simp [le]
 | cons y l ih =>
   have h1 := h y (by simp)
   have h2 := ih (fun x hx => h x (by simp [hx]))
   rw [le, List.length_cons, Nat.pow_succ]
   omega
theorem num_le (l : List Int) (h : Byts l) : num (le l : Int) l.length = l := by
 induction l with
 | nil => rfl
 | cons y l ih =>
   have h1 := h y (by simp)
   have h2 := ih (fun x hx => h x (by simp [hx]))
   rw [le, List.length_cons, num]
   have e1 : ((y.toNat + 256 * le l : Nat) : Int) % 256 = y := by omega
   have e2 : ((y.toNat + 256 * le l : Nat) : Int) / 256 = (le l : Int) := by omega
   rw [e1, e2, h2]
theorem le_snoc (l : List Int) (x : Int) : le (l ++ [x]) = le l + x.toNat * 256 ^ l.length := by
 induction l with
 | nil => simp [le]
 | cons y l ih => rw [List.cons_append, le, le, ih, List.length_cons, Nat.pow_succ]; rw [Nat.mul_add, Nat.mul_comm (256 ^ l.length) 256, Nat.mul_left_comm, Nat.add_assoc]
def bodyP (k p : Int) (l : List Int) : List Int := [k, (l.length : Int)] ++ num p 4 ++ l ++ List.replicate (246 - l.length) 0
theorem bodyP_len (k p : Int) (l : List Int) (h : l.length ≤ 246) : (bodyP k p l).length = 252 := by simp [bodyP, num_len]; omega
theorem rep_byts (n : Nat) : Byts (List.replicate n 0) := fun x hx => by rw [List.eq_of_mem_replicate hx]; decide
theorem byts_app {a b : List Int} (ha : Byts a) (hb : Byts b) : Byts (a ++ b) := fun x hx => by
 rcases List.mem_append.1 hx with h | h
 · exact ha x h
 · exact hb x h
theorem bodyP_byts (k p : Int) (l : List Int) (hk : 0 ≤ k ∧ k < 256) (h : l.length ≤ 246) (h8 : Byts l) : Byts (bodyP k p l) := by
 refine byts_app (byts_app (byts_app ?_ (num_byts _ _)) h8) (rep_byts _)
 intro x hx
 simp at hx
 omega
def pageP (k p : Int) (l : List Int) : List Int := sealF (bodyP k p l)
theorem pageP_len (k p : Int) (l : List Int) (h : l.length ≤ 246) : (pageP k p l).length = 256 := by rw [pageP, sealF_len, bodyP_len k p l h]
def kindOk (k : Int) : Bool := decide (1 ≤ k) && decide (k ≤ 3)
def placeOk (p : Int) : Bool := decide (2 ≤ p) && decide (p < 4096)
theorem kindOk_iff (k : Int) : kindOk k = true ↔ 1 ≤ k ∧ k ≤ 3 := by simp [kindOk]
theorem placeOk_iff (p : Int) : placeOk p = true ↔ 2 ≤ p ∧ p < 4096 := by simp [placeOk]
def unpackF (p : Int) (r : List Int) : Int × List Int × Int :=
 if placeOk p = false then (0, [], 54) else if r.length ≠ 256 then (0, [], 53) else if feed ones r ≠ CR then (0, [], 52)
 else if kindOk (r.getD 0 0) = false then (0, [], 50) else if 246 < r.getD 1 0 then (0, [], 51)
 else if (le ((r.drop 2).take 4) : Int) ≠ p then (0, [], 54)
 else if (r.drop (6 + (r.getD 1 0).toNat)).take (246 - (r.getD 1 0).toNat) ≠ List.replicate (246 - (r.getD 1 0).toNat) 0 then (0, [], 53)
 else (r.getD 0 0, (r.drop 6).take (r.getD 1 0).toNat, 0)
theorem pageP_byts (k p : Int) (l : List Int) (hk : 0 ≤ k ∧ k < 256) (h : l.length ≤ 246) (h8 : Byts l) : Byts (pageP k p l) := sealF_byts (bodyP_byts k p l hk h h8)
theorem unpack_sum (p : Int) (r : List Int) (hp : placeOk p = true) (h : r.length = 256) (hC : feed ones r ≠ CR) : unpackF p r = (0, [], 52) := by
 unfold unpackF
 rw [if_neg (by simp [hp]), if_neg (by simp [h]), if_pos hC]
end
section
open Go.RowKit
open Go.RowKit
attribute [local go_sem ↓] Go.wp_at_zero Go.wp_at_succ
open Go.RowKit
attribute [local go_sem ↓] Go.wp_at_zero Go.wp_at_succ
structure Sup where
 wd : Int
 ge : Int
 ma : Int
 hd : Int
 pg : Int
 deriving DecidableEq
def sup0 : Sup := ⟨0, 0, 0, 0, 0⟩
def validS (s : Sup) : Bool := decide (1 ≤ s.wd ∧ s.wd ≤ 32 ∧ 0 ≤ s.ge ∧ s.ge ≤ 1099511627776 ∧ 3 ≤ s.pg ∧ s.pg ≤ 4096 ∧ 2 ≤ s.ma ∧ s.ma ≤ s.pg ∧ (s.hd = 0 ∨ (2 ≤ s.hd ∧ s.hd < s.ma)))
theorem validS_iff (s : Sup) : validS s = true ↔ 1 ≤ s.wd ∧ s.wd ≤ 32 ∧ 0 ≤ s.ge ∧ s.ge ≤ 1099511627776 ∧ 3 ≤ s.pg ∧ s.pg ≤ 4096 ∧ 2 ≤ s.ma ∧ s.ma ≤ s.pg ∧ (s.hd = 0 ∨ (2 ≤ s.hd ∧ s.hd < s.ma)) := by simp [validS]
def bodyS (s : Sup) : List Int := [76, 68, 71, 49, s.wd, 0, 0, 0] ++ num s.ge 8 ++ num s.ma 4 ++ num s.hd 4 ++ num s.pg 4 ++ List.replicate 32 0
theorem bodyS_len (s : Sup) : (bodyS s).length = 60 := by simp [bodyS, num_len]
theorem bodyS_byts (s : Sup) (h : validS s = true) : Byts (bodyS s) := by
 have h := (validS_iff s).1 h
 refine byts_app (byts_app (byts_app (byts_app (byts_app ?_ (num_byts _ _)) (num_byts _ _)) (num_byts _ _)) (num_byts _ _)) (rep_byts _)
 intro x hx
 simp at hx
 omega
def secS (s : Sup) : List Int := sealF (bodyS s)
theorem secS_len (s : Sup) : (secS s).length = 64 := by rw [secS, sealF_len, bodyS_len]
theorem secS_byts (s : Sup) (h : validS s = true) : Byts (secS s) := sealF_byts (bodyS_byts s h)
def readS (r : List Int) : Sup := ⟨r.getD 4 0, IntKind.i64.wrap (le ((r.drop 8).take 8)), le ((r.drop 16).take 4), le ((r.drop 20).take 4), le ((r.drop 24).take 4)⟩
def superF (s : Sup) : List Int × Int := if validS s = true then (secS s ++ List.replicate 192 0, 0) else ([], 53)
def unSuperF (r : List Int) : Sup × Int :=
 if r.length ≠ 256 then (sup0, 53) else if feed ones (r.take 64) ≠ CR then (sup0, 52)
 else if validS (readS (r.take 64)) = false ∨ secS (readS (r.take 64)) ≠ r.take 64 then (sup0, 53) else (readS (r.take 64), 0)
theorem split60 (l s : List Int) (a b c d : List Int) (z : List Int) (h0 : l.length = 8) (ha : a.length = 8) (hb : b.length = 4) (hc : c.length = 4) (hd : d.length = 4) :
   ((l ++ a ++ b ++ c ++ d ++ z ++ s).drop 8).take 8 = a ∧ ((l ++ a ++ b ++ c ++ d ++ z ++ s).drop 16).take 4 = b ∧ ((l ++ a ++ b ++ c ++ d ++ z ++ s).drop 20).take 4 = c ∧ ((l ++ a ++ b ++ c ++ d ++ z ++ s).drop 24).take 4 = d := by
 refine ⟨?_, ?_, ?_, ?_⟩
 · rw [show l ++ a ++ b ++ c ++ d ++ z ++ s = l ++ (a ++ (b ++ (c ++ (d ++ (z ++ s))))) by simp [List.append_assoc], List.drop_left' h0, List.take_left' ha]
 · rw [show l ++ a ++ b ++ c ++ d ++ z ++ s = (l ++ a) ++ (b ++ (c ++ (d ++ (z ++ s)))) by simp [List.append_assoc], List.drop_left' (by simp [h0, ha]), List.take_left' hb]
 · rw [show l ++ a ++ b ++ c ++ d ++ z ++ s = (l ++ a ++ b) ++ (c ++ (d ++ (z ++ s))) by simp [List.append_assoc], List.drop_left' (by simp [h0, ha, hb]), List.take_left' hc]
 · rw [show l ++ a ++ b ++ c ++ d ++ z ++ s = (l ++ a ++ b ++ c) ++ (d ++ (z ++ s)) by simp [List.append_assoc], List.drop_left' (by simp [h0, ha, hb, hc]), List.take_left' hd]
theorem le_num_int (v : Int) (n : Nat) (h0 : 0 ≤ v) (h : v < ((256 ^ n : Nat) : Int)) : (le (num v n) : Int) = v := by
 obtain ⟨m, rfl⟩ := Int.eq_ofNat_of_zero_le h0
 rw [le_num m n (by omega)]
theorem unSuper_ok (r : List Int) (hE : (unSuperF r).2 = 0) : r.length = 256 ∧ validS (unSuperF r).1 = true ∧ r.take 64 = secS (unSuperF r).1 := by
 unfold unSuperF at *
 split at hE <;> try (simp at hE; done)
 rename_i g1
 split at hE <;> try (simp at hE; done)
 rename_i g2
 split at hE <;> try (simp at hE; done)
 rename_i g3
 rw [if_neg g1, if_neg g2, if_neg g3]
 have g3' : ¬ validS (readS (r.take 64)) = false ∧ secS (readS (r.take 64)) = r.take 64 := by
   constructor
   · exact fun h => g3 (Or.inl h)
   · exact Classical.byContradiction fun h => g3 (Or.inr h)
 exact ⟨by omega, by simpa using g3'.1, g3'.2.symm⟩
theorem unSuper_sum (r : List Int) (hl : r.length = 256) (hC : feed ones (r.take 64) ≠ CR) : unSuperF r = (sup0, 52) := by
 unfold unSuperF
 rw [if_neg (by simp [hl]), if_pos hC]
theorem superF_ok (s : Sup) (h : validS s = true) : superF s = (secS s ++ List.replicate 192 0, 0) := by rw [superF, if_pos h]
theorem superF_bad (s : Sup) (h : validS s = false) : superF s = ([], 53) := by rw [superF, if_neg (by simp [h])]
def follF (n o : Sup) : Bool := decide (n = { o with ge := o.ge + 1, ma := max o.ma n.ma, hd := n.hd })
def newerF (a b : Sup) : Sup × Int := if a.ge.tmod 2 ≠ 0 then (sup0, 4) else if follF a b = true then (a, 0) else if follF b a = true then (b, 0) else (sup0, 4)
def emptyF (r : List Int) : Bool := decide (r.length = 256) && decide (r.take 64 = List.replicate 64 0)
def chooseF (a b : List Int) : Sup × Int :=
 if (unSuperF a).2 = 0 ∧ (unSuperF b).2 = 0 then newerF (unSuperF a).1 (unSuperF b).1
 else if ((unSuperF a).2 = 0 ∧ (unSuperF a).1.ge = 0) ∨ emptyF a = true then (if emptyF b = true then (sup0, 55) else (sup0, 4)) else (sup0, 4)
theorem isPlace_any (w : World) (p : Int) : Calls Tryz.prog 117 #[.int .i64 p] w fun e w' => e = .returned (.bool (placeOk p)) ∧ w' = w := by
 by_cases h1 : 2 ≤ p
 · by_cases h2 : p < 4096
   · have HP := hid (show placeOk p = true by simp [placeOk, h1, h2])
     go_enter Tryz.func117, Tryz.ntmps117
     go_wp2
     go_ret
     exact ⟨by rw [HP.out]; rfl, rfl⟩
   · have HP := hid (show placeOk p = false by simp [placeOk, h2])
     go_enter Tryz.func117, Tryz.ntmps117
     go_wp2
     go_ret
     exact ⟨by rw [HP.out]; rfl, rfl⟩
 · have HP := hid (show placeOk p = false by simp [placeOk, h1])
   go_enter Tryz.func117, Tryz.ntmps117
   go_wp2
   go_ret
   exact ⟨by rw [HP.out]; rfl, rfl⟩
theorem isKind_any (w : World) (k : Int) : Calls Tryz.prog 116 #[.int .i64 k] w fun e w' => e = .returned (.bool (kindOk k)) ∧ w' = w := by
 by_cases h1 : k = 1
 · subst h1
   go_enter Tryz.func116, Tryz.ntmps116
   go_wp2
   go_ret
   exact ⟨by rfl, rfl⟩
 by_cases h2 : k = 2
 · subst h2
   go_enter Tryz.func116, Tryz.ntmps116
   go_wp2
   go_ret
   exact ⟨by rfl, rfl⟩
 by_cases h3 : k = 3
 · subst h3
   go_enter Tryz.func116, Tryz.ntmps116
   go_wp2
   go_ret
   exact ⟨by rfl, rfl⟩
 have HP := hid (show kindOk k = false by simp [kindOk]; omega)
 have e1 : (k == 1) = false := by simpa using h1
 have e2 : (k == 2) = false := by simpa using h2
 have e3 : (k == 3) = false := by simpa using h3
 clear h1 h2 h3
 go_enter Tryz.func116, Tryz.ntmps116
 go_wp2
 go_ret
 exact ⟨by rw [HP.out]; rfl, rfl⟩
theorem allZero_any (w : World) (zs : List Int) (sp : Option Addr) (cap : Nat) (hS : Src w sp cap zs) :
   Calls Tryz.prog 122 #[.slice sp zs.length cap] w fun e w' => e = .returned (.bool (decide (zs = List.replicate zs.length 0))) ∧ Below w.heap.size w w' := by
 obtain ⟨hc, hm, b, o, hb, hsp, hsrc⟩ := hS
 unfold maxLen at hm
 have i0 : (zs.length : Int) ≤ 9223372036854775807 := by omega
 go_enter Tryz.func122, Tryz.ntmps122
 go_wp2
 go_loopw [7] (fun i wr => ∃ n : Nat, n ≤ zs.length ∧ i = .int .i64 n ∧ zs.take n = List.replicate n 0 ∧ Below w.heap.size w wr) (fun i _ => zs.length - (intOf i).toNat)
 case atStart => exact ⟨0, by omega, rfl, rfl, Below.refl _ _⟩
 case round =>
   obtain ⟨n, hn, rfl, hT, hB⟩ := hrel
   replace hT := hid hT
   by_cases hlt : n < zs.length
   · have i1 : (n : Int) < (zs.length : Int) := by omega
     obtain rfl := hsp (by omega)
     have c0 := (hB.cell (p := ⟨b, o + n, none⟩) (hb (by omega))).trans (hsrc n hlt)
     by_cases hz : zs.getD n 0 = 0
     · rw [hz] at c0
       replace hz := hid hz
       have HT := hid (show zs.take (n + 1) = List.replicate (n + 1) 0 by
         have := hz.out
         rw [List.getD_eq_getElem?_getD, List.getElem?_eq_getElem hlt] at this
         rw [List.take_succ_eq_append_getElem hlt, hT.out, List.replicate_succ']
         congr 2)
       go_wp2
       go_roundw
       case rel => exact ⟨n + 1, by omega, by go_num, HT.out, hB⟩
       case measure => simp [intOf]; omega
     · have HT := hid (show decide (zs = List.replicate zs.length 0) = false by
         simp only [decide_eq_false_iff_not]
         intro h
         apply hz
         rw [h]
         simp [List.getElem?_replicate, hlt])
       have hz2 : (zs.getD n 0 != 0) = true := by simpa using hz
       clear hz
       generalize zs.getD n 0 = x at *
       go_wp2
       go_ret
       exact ⟨by rw [HT.out]; rfl, hB⟩
   · obtain rfl : n = zs.length := by omega
     have HT := hid (show decide (zs = List.replicate zs.length 0) = true by
       have := hT.out
       rw [List.take_length] at this
       simpa using this)
     clear hlt hn
     go_wp2
     go_ret
     exact ⟨by rw [HT.out]; rfl, hB⟩
def laidAt (os : List Int) (o : Nat) (ys : List Int) : List Int := os.take o ++ ys ++ os.drop (o + ys.length)
theorem laidAt_len (os : List Int) (o : Nat) (ys : List Int) (h : o + ys.length ≤ os.length) : (laidAt os o ys).length = os.length := by simp [laidAt]; omega
theorem laidAt_snoc (os : List Int) (o : Nat) (ys : List Int) (y : Int) (h : o + ys.length < os.length) : (laidAt os o ys).set (o + ys.length) y = laidAt os o (ys ++ [y]) := by
 unfold laidAt
 rw [List.set_append_right _ _ (by simp; omega), show o + ys.length - (os.take o ++ ys).length = 0 by simp; omega, List.drop_eq_getElem_cons (by omega), List.set_cons_zero]
 simp [List.append_assoc, Nat.add_assoc]
theorem lay_any (w : World) (g o n cap : Nat) (t : TypeId) (os : List Int) (v : Int) (hv : 0 ≤ v) (hv2 : v < 9223372036854775808) (hn : n ≤ 8) (hI : w.heap[g]? = some (.cells (ints .u8 os).toArray t (0, 0))) (hfit : o + n ≤ os.length) :
   Calls Tryz.prog 118 #[.slice (some ⟨g, o, none⟩) n cap, .int .i64 v] w fun e w' => e = .returned (.tuple #[]) ∧ w'.heap[g]? = some (.cells (ints .u8 (laidAt os o (num v n))).toArray t (0, 0)) ∧ Keeps g w w' := by
 have i0 : (n : Int) ≤ 8 := by omega
 go_enter Tryz.func118, Tryz.ntmps118
 go_wp2
 go_loopw [7] (fun i wr => ∃ m : Nat, m ≤ n ∧ i = .int .i64 m ∧ wr.heap[g]? = some (.cells (ints .u8 (laidAt os o (num v m))).toArray t (0, 0)) ∧ Keeps g w wr) (fun i _ => n - (intOf i).toNat)
 case atStart => exact ⟨0, by omega, rfl, by simpa [laidAt, num] using hI, Keeps.refl g w⟩
 case round =>
   clear hI
   obtain ⟨m, hm, rfl, hI, hK⟩ := hrel
   by_cases hlt : m < n
   · have i1 : (m : Int) < (n : Int) := by omega
     have hl : (num v m).length = m := num_len v m
     have hc := cell_ints hI (o + m) (by rw [laidAt_len _ _ _ (by omega)]; omega)
     have hfz : wr.frozen? ⟨g, o + m, none⟩ = false := frozen_of_row _ _ _ _ _ hI
     have HS := hid (show (laidAt os o (num v m)).set (o + m) (v / 2 ^ (8 * m) % 256) = laidAt os o (num v (m + 1)) by
       rw [num_snoc v hv m, ← laidAt_snoc _ _ _ _ (by omega), hl, Int.pow_mul]; rfl)
     replace hl := hid hl
     generalize (laidAt os o (num v m)).getD (o + m) 0 = z at *
     go_wp2
     go_roundw
     case rel => exact ⟨m + 1, by omega, by go_num, by rw [← HS.out]; exact heap_set_ints hI _ _, hK.setCell _ _⟩
     case measure => simp [intOf]; omega
   · obtain rfl : m = n := by omega
     clear hlt
     go_wp2
     go_end0
     exact ⟨rfl, hI, hK⟩
theorem ofInt_wrap (a : Nat) (ha : a < 18446744073709551616) : (BitVec.ofInt 64 (IntKind.i64.wrap (a : Int))).toNat = a := by
 rw [BitVec.toNat_ofInt, IntKind.wrap_i64]
 omega
theorem or_lay (A x n : Nat) (hn : n ≤ 7) (hA : A < 256 ^ n) (hx : x < 256) : bits .or .i64 (IntKind.i64.wrap (A : Int)) (IntKind.i64.wrap ((x : Int) * 2 ^ (8 * n))) = IntKind.i64.wrap ((A + x * 256 ^ n : Nat) : Int) := by
 have hp : (256 : Nat) ^ n = 2 ^ (8 * n) := by rw [Nat.pow_mul]
 have h56 : (2 : Nat) ^ (8 * n) ≤ 2 ^ 56 := Nat.pow_le_pow_right (by decide) (by omega)
 rw [hp] at hA ⊢
 have hxp : x * 2 ^ (8 * n) ≤ 255 * 2 ^ 56 := Nat.mul_le_mul (by omega) h56
 have e : ((x : Int) * 2 ^ (8 * n)) = ((x * 2 ^ (8 * n) : Nat) : Int) := by simp
 rw [e]
 show IntKind.i64.wrap ((BitVec.ofInt 64 (IntKind.i64.wrap (A : Int)) ||| BitVec.ofInt 64 (IntKind.i64.wrap ((x * 2 ^ (8 * n) : Nat) : Int))).toNat : Int) = _
 rw [BitVec.toNat_or, ofInt_wrap A (by omega), ofInt_wrap _ (by omega), Nat.or_comm, Nat.mul_comm x, ← Nat.two_pow_add_eq_or_of_lt hA, Nat.add_comm]
theorem read_any (w : World) (zs : List Int) (h8 : Byts zs) (hn : zs.length ≤ 8) (sp : Option Addr) (cap : Nat) (hS : Src w sp cap zs) :
   Calls Tryz.prog 121 #[.slice sp zs.length cap] w fun e w' => e = .returned (.int .i64 (IntKind.i64.wrap (le zs))) ∧ Below w.heap.size w w' := by
 obtain ⟨hc, hm, b, o, hb, hsp, hsrc⟩ := hS
 have i0 : (zs.length : Int) ≤ 8 := by omega
 go_enter Tryz.func121, Tryz.ntmps121
 go_wp2
 go_loopw [3, 8] (fun x i wr => ∃ n : Nat, n ≤ zs.length ∧ i = .int .i64 n ∧ x = .int .i64 (IntKind.i64.wrap (le (zs.take n))) ∧ Below w.heap.size w wr) (fun _ i _ => zs.length - (intOf i).toNat)
 case atStart => exact ⟨0, by omega, rfl, rfl, Below.refl _ _⟩
 case round =>
   obtain ⟨n, hnl, rfl, rfl, hB⟩ := hrel
   by_cases hlt : n < zs.length
   · have i1 : (n : Int) < (zs.length : Int) := by omega
     obtain rfl := hsp (by omega)
     have c0 := (hB.cell (p := ⟨b, o + n, none⟩) (hb (by omega))).trans (hsrc n hlt)
     have hbn : 0 ≤ zs.getD n 0 ∧ zs.getD n 0 < 256 := h8 _ (by rw [List.getD_eq_getElem?_getD, List.getElem?_eq_getElem hlt]; exact List.getElem_mem hlt)
     have hlt2 := le_lt (zs.take n) (h8.take n)
     have hl : (zs.take n).length = n := by rw [List.length_take]; omega
     have HT := hid (show le (zs.take (n + 1)) = le (zs.take n) + (zs.getD n 0).toNat * 256 ^ n by
       rw [List.take_succ_eq_append_getElem hlt, le_snoc, hl, List.getD_eq_getElem?_getD, List.getElem?_eq_getElem hlt]; rfl)
     rw [hl] at hlt2
     obtain ⟨x, hx⟩ := Int.eq_ofNat_of_zero_le hbn.1
     rw [hx] at c0 hbn HT
     rw [Int.toNat_natCast] at HT
     have HO := hid (or_lay (le (zs.take n)) x n (by omega) hlt2 (by omega))
     clear hx hlt2 hl
     generalize hA : le (zs.take n) = A at *
     generalize hy : IntKind.i64.wrap (A : Int) = y at *
     replace hy := hid hy
     replace hA := hid hA
     go_wp2
     go_roundw
     case rel => exact ⟨n + 1, by omega, by go_num, by rw [HT.out, ← HO.out, IntWalk.i64_left], hB⟩
     case measure => simp [intOf]; omega
   · obtain rfl : n = zs.length := by omega
     clear hlt
     rw [List.take_length]
     go_wp2
     go_ret
     exact ⟨rfl, hB⟩
end
section
open Go.RowKit
attribute [local go_sem ↓] Go.wp_at_zero Go.wp_at_succ
def zz (n : Nat) : List Int := List.replicate n 0
theorem zz_len (n : Nat) : (zz n).length = n := by simp [zz]
theorem run_alloc252 (a : Act) (o : Oper) (ho : o.op = .alloc 171) (w : World) : (execOp a.eval o).run Tryz.prog w = .ok (.value (.pointer (some ⟨w.heap.size, 0, none⟩))) (w.alloc (.cells (ints .u8 (zz 252)).toArray 171)) := by
 unfold execOp
 rw [ho]
 kernel_rfl
theorem wpList_alloc252 {w : World} {ops : Array Oper} {rest : List Oper} {o : Oper} {a : Act} {Q : Exit → Act → World → Prop} (hg : o.guard = none) (ho : o.op = .alloc 171)
   (h : wpList Tryz.prog ops Q rest (a.put o.dst (.pointer (some ⟨w.heap.size, 0, none⟩))) (w.alloc (.cells (ints .u8 (zz 252)).toArray 171))) : wpList Tryz.prog ops Q (o :: rest) a w := by
 refine wpList_plain hg fun K hK => ?_
 unfold Oper.wp
 rw [run_alloc252 a o ho w]
 exact hK _ _ h
def New (w w' : World) (v : Value) (zs : List Int) : Prop := (v = .slice none 0 0 ∧ zs = []) ∨ zs ≠ [] ∧ ∃ g, v = .slice (some ⟨g, 0, none⟩) zs.length zs.length ∧ w.heap.size ≤ g ∧ w'.heap[g]? = some (.cells (ints .u8 zs).toArray 5 (0, 0))
theorem lay_head (k n : Int) : ((zz 252).set 0 k).set 1 n = [k, n] ++ zz 250 := by
 rw [show zz 252 = 0 :: 0 :: zz 250 from rfl]; rfl
theorem lay_num (k n : Int) (ys : List Int) (hy : ys.length = 4) : laidAt ([k, n] ++ zz 250) 2 ys = [k, n] ++ ys ++ zz 246 := by
 unfold laidAt
 rw [hy, show List.take 2 ([k, n] ++ zz 250) = [k, n] from rfl, show [k, n] ++ zz 250 = ([k, n] ++ zz 4) ++ zz 246 from rfl, List.drop_left' (show ([k, n] ++ zz 4).length = 2 + 4 from rfl)]
theorem lay_load (k n : Int) (ys l : List Int) (hy : ys.length = 4) (hl : l.length ≤ 246) : splice (ints .u8 ([k, n] ++ ys ++ zz 246)) 6 (ints .u8 l) = ints .u8 ([k, n] ++ ys ++ l ++ List.replicate (246 - l.length) 0) := by
 have e : ints .u8 ([k, n] ++ ys ++ zz 246) = ints .u8 ([k, n] ++ ys) ++ ints .u8 (zz 246) := by simp [ints]
 unfold splice
 rw [e, List.take_left' (by rw [ints_len]; simp [hy]), ints_len, ← List.drop_drop, List.drop_left' (by rw [ints_len]; simp [hy])]
 have e2 : (ints .u8 (zz 246)).drop l.length = ints .u8 (List.replicate (246 - l.length) 0) := by
   unfold ints zz
   rw [← List.map_drop, List.drop_replicate]
 rw [e2]
 simp only [ints, List.map_append, List.append_assoc]
theorem pack_ok (w : World) (k p : Int) (l : List Int) (h8 : Byts l) (hk : kindOk k = true) (hp : placeOk p = true) (hl : l.length ≤ 246) (sp : Option Addr) (cap : Nat) (hS : Src w sp cap l) :
   Calls Tryz.prog 98 #[.int .i64 k, .int .i64 p, .slice sp l.length cap] w fun e w' => ∃ g, e = .returned (.tuple #[.slice (some ⟨g, 0, none⟩) 256 256, .int .i64 0]) ∧ w.heap.size ≤ g ∧ w'.heap[g]? = some (.cells (ints .u8 (pageP k p l)).toArray 5 (0, 0)) ∧ Below w.heap.size w w' := by
 have hk' := (kindOk_iff k).1 hk
 have hp' := (placeOk_iff p).1 hp
 have j1 : 1 ≤ k := hk'.1
 have j2 : k ≤ 3 := hk'.2
 have j3 : (l.length : Int) ≤ 246 := by omega
 clear hk'
 go_enter Tryz.func98, Tryz.ntmps98
 go_wp2_with fail
 refine (isKind_any w k).mono ?_
 rintro e w1 ⟨rfl, rfl⟩
 rw [hk]
 go_wp2_with fail
 refine (isPlace_any w1 p).mono ?_
 rintro e w2 ⟨rfl, rfl⟩
 rw [hp]
 replace hk := hid hk
 replace hp := hid hp
 have hr1 := hnew w2 (.cells (ints .u8 (zz 252)).toArray 171)
 have hB1 : Below w2.heap.size w2 (w2.alloc (.cells (ints .u8 (zz 252)).toArray 171)) := below_new w2 _
 go_wp2_with (first
   | (refine wpList_alloc252 rfl rfl ?_; generalize w2.alloc (.cells (ints .u8 (zz 252)).toArray 171) = w3 at *; have c0 := cell_ints hr1 0 (by decide); have c1 := cell_ints hr1 1 (by decide); have f0 : w3.frozen? ⟨w2.heap.size, 0, none⟩ = false := frozen_of_row _ _ _ _ _ hr1; have f1 : w3.frozen? ⟨w2.heap.size, 1, none⟩ = false := frozen_of_row _ _ _ _ _ hr1))
 have hr4 : ((w3.setCell ⟨w2.heap.size, 0, none⟩ (Value.int .u8 k)).setCell ⟨w2.heap.size, 1, none⟩ (Value.int .u8 (l.length : Int))).heap[w2.heap.size]? = some (.cells (ints .u8 ([k, (l.length : Int)] ++ zz 250)).toArray 171 (0, 0)) := by
   rw [← lay_head]; exact heap_set_ints (heap_set_ints hr1 0 k) 1 _
 have hB4 : Below w2.heap.size w2 ((w3.setCell ⟨w2.heap.size, 0, none⟩ (Value.int .u8 k)).setCell ⟨w2.heap.size, 1, none⟩ (Value.int .u8 (l.length : Int))) := (hB1.setCell (Nat.le_refl _) _).setCell (Nat.le_refl _) _
 generalize (w3.setCell ⟨w2.heap.size, 0, none⟩ (Value.int .u8 k)).setCell ⟨w2.heap.size, 1, none⟩ (Value.int .u8 (l.length : Int)) = w4 at *
 clear hr1 hB1 c0 c1 f0 f1
 refine (lay_any w4 w2.heap.size 2 4 250 171 _ p (by omega) (by omega) (by omega) hr4 (by simp [zz_len])).mono ?_
 rintro e w5 ⟨rfl, hr5, hK5⟩
 rw [lay_num _ _ _ (num_len p 4)] at hr5
 have hB5 : Below w2.heap.size w2 w5 := hB4.trans (hK5.below_g (Nat.le_refl _) hB4.size)
 clear hK5 hr4 hB4
 obtain ⟨hc, hm, b, o, hb, hsp, hsrc⟩ := hS
 have KC := hid (show (ints .u8 l).length = Nat.min l.length 246 by rw [ints_len]; exact (Nat.min_eq_left hl).symm)
 have KF := hid (show 6 + (ints .u8 l).length ≤ (ints .u8 ([k, (l.length : Int)] ++ num p 4 ++ zz 246)).length by rw [ints_len, ints_len]; simp [num_len, zz_len]; omega)
 have KO := hid (ints_one .u8 l)
 have KP := hid (show 0 < (ints .u8 l).length → ∃ ad, sp = some ad ∧ ∀ j v, (ints .u8 l)[j]? = some v → w5.cell? (ad.add j) = some v by
   intro hpos
   rw [ints_len] at hpos
   refine ⟨_, hsp hpos, fun j v hv => ?_⟩
   have hj : j < l.length := by have := (List.getElem?_eq_some_iff.1 hv).1; rwa [ints_len] at this
   rw [ints_get .u8 l j hj] at hv
   cases hv
   rw [show (⟨b, o, none⟩ : Addr).add j = ⟨b, o + j, none⟩ by simp [Addr.add]]
   exact (hB5.cell (p := ⟨b, o + j, none⟩) (hb hpos)).trans (hsrc j hj))
 have KS := hid (lay_load k l.length (num p 4) l (num_len p 4) hl)
 have KE := hid (show [k, (l.length : Int)] ++ num p 4 ++ l ++ List.replicate (246 - l.length) 0 = bodyP k p l from rfl)
 go_wp2_with (first
   | (refine wpList_copy_splice rfl (.tmp 28) (.tmp 29) 22 22 rfl 5 Tryz.underlying22 Tryz.size5 (some ⟨w2.heap.size, 6, none⟩) sp 246 246 l.length cap rfl rfl w2.heap.size 6 _ 171 hr5 (ints .u8 l) KC.out (fun h => ⟨rfl, KP.out h⟩) KF.out KO.out w2.heap.size w2 hB5 (Nat.le_refl _) ?_; intro w6 hr6 hB6))
 have hr7 := hr6.out
 rw [KS.out, KE.out] at hr7
 clear hr6 KS KE KP KO KF KC hsrc hsp hb hr5 hB5
 have hbl := bodyP_len k p l hl
 have hb8 := bodyP_byts k p l (by omega) hl h8
 have hs := seal_any w6 (bodyP k p l) hb8 (some ⟨w2.heap.size, 0, none⟩) 252 (src_rowf hr7 252 (by omega) (by decide)) (by omega)
 rw [hbl] at hs
 refine hs.mono ?_
 rintro e w8 ⟨rfl, hr8, hB8⟩
 have hB := hB6.trans (hB8.mono hB6.size)
 have hG := hB6.size
 clear hs hr7 hB6 hB8 hbl hb8
 go_wp2
 go_ret2
 exact ⟨_, rfl, hG, hr8, hB⟩
end
end Go.Proofs.YtjhocjjecfdphaaGreatDoor
