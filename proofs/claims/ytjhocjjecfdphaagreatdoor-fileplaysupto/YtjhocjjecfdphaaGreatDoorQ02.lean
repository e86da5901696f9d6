import Derived.Test.YtjhocjjecfdphaaGreatDoorQ01
import Derived.Laws.BitsLemmas
import Derived.Lib.SlBytesConst
import Derived.Laws.IdiomStrings
import Derived.Laws.Cover3
namespace Go.Proofs.YtjhocjjecfdphaaGreatDoor
set_option linter.unusedVariables false
set_option linter.unusedSimpArgs false
set_option maxRecDepth 100000
set_option maxHeartbeats 4000000
section
open Go.RowKit
attribute [local go_sem ↓] Go.wp_at_zero Go.wp_at_succ
theorem wraps_u32 : ∀ n : Int, 0 ≤ n → n < 2 ^ 32 → IntKind.u32.wrap n = n := fun n h h2 => by rw [IntKind.wrap_u32]; omega
theorem xor_u32 (a b : Nat) (ha : a < 4294967296) (hb : b < 4294967296) : bits .xor .u32 (a : Int) (b : Int) = ((a ^^^ b : Nat) : Int) := by
 have hx : a ^^^ b < 2 ^ 32 := Nat.xor_lt_two_pow (by omega) (by omega)
 have h1 : (BitVec.ofInt 32 (a : Int)).toNat = a := by
   rw [BitVec.ofInt_natCast, BitVec.toNat_ofNat]; exact Nat.mod_eq_of_lt (by omega)
 have h2 : (BitVec.ofInt 32 (b : Int)).toNat = b := by
   rw [BitVec.ofInt_natCast, BitVec.toNat_ofNat]; exact Nat.mod_eq_of_lt (by omega)
 show IntKind.u32.wrap ((BitVec.ofInt 32 (a : Int) ^^^ BitVec.ofInt 32 (b : Int)).toNat : Int) = _
 rw [BitVec.toNat_xor, h1, h2, IntKind.wrap_u32]
 omega
theorem and15_u32 (a : Nat) (ha : a < 4294967296) : bits .and .u32 (a : Int) 15 = ((a % 16 : Nat) : Int) := by
 have := bits_mask .u32 32 (by decide) wraps_u32 4 (by decide) (a : Int) (by omega) (by omega)
 simpa using this
theorem not_u32 (a : Nat) (ha : a < 4294967296) : bits .xor .u32 4294967295 (a : Int) = ((inv a : Nat) : Int) := xor_u32 ones a (by decide) ha
theorem shr4 (a : Nat) : (a : Int) / (16 : Int) = ((a >>> 4 : Nat) : Int) := by rw [Nat.shiftRight_eq_div_pow]; omega
def hI : List Int := hTab.map Int.ofNat
theorem hI_get (k : Nat) : hI.getD k 0 = ((hTab.getD k 0 : Nat) : Int) := by
 simp only [hI, List.getD_eq_getElem?_getD, List.getElem?_map]
 cases hTab[k]? <;> rfl
theorem feed_any (w : World) (r : Nat) (hr : r < 4294967296) (zs : List Int) (hb8 : Byts zs) (sp : Option Addr) (cap : Nat) (hS : Src w sp cap zs) :
   Calls Tryz.prog 132 #[.int .u32 r, .slice sp zs.length cap] w fun e w' => e = .returned (.int .u32 (feed r zs)) ∧ Below w.heap.size w w' := by
 obtain ⟨hc, hm, b, o, hb, hsp, hsrc⟩ := hS
 unfold maxLen at hm
 have i0 : (zs.length : Int) ≤ 9223372036854775807 := by omega
 go_enter Tryz.func132, Tryz.ntmps132
 go_wp2
 go_loopw [0, 11] (fun x i wr => ∃ n : Nat, n ≤ zs.length ∧ i = .int .i64 n ∧ x = .int .u32 (feed r (zs.take n)) ∧ wr.heap[w.heap.size]? = some (Obj.cells (ints .u32 hI).toArray 181) ∧ Below w.heap.size w wr) (fun _ i _ => zs.length - (intOf i).toNat)
 case atStart => exact ⟨0, by omega, rfl, rfl, hnew w _, (Below.refl _ _).alloc (Nat.le_refl _) _⟩
 case round =>
   obtain ⟨n, hn, rfl, rfl, hh, hB⟩ := hrel
   by_cases hlt : n < zs.length
   · have i1 : (n : Int) < (zs.length : Int) := by omega
     obtain rfl := hsp (by omega)
     have c0 := (hB.cell (p := ⟨b, o + n, none⟩) (hb (by omega))).trans (hsrc n hlt)
     have hbn : 0 ≤ zs.getD n 0 ∧ zs.getD n 0 < 256 := hb8 _ (by rw [List.getD_eq_getElem?_getD, List.getElem?_eq_getElem hlt]; exact List.getElem_mem hlt)
     have hF := hid (show feed r (zs.take (n + 1)) = stepN 8 (feed r (zs.take n) ^^^ (zs.getD n 0).toNat) by
       rw [List.take_succ_eq_append_getElem hlt, feed_snoc, List.getD_eq_getElem?_getD, List.getElem?_eq_getElem hlt]; rfl)
     have hq := feed_lt (zs.take n) (fun x hx => hb8 x (List.mem_of_mem_take hx)) r hr
     generalize feed r (zs.take n) = q at *
     obtain ⟨x, hx⟩ := Int.eq_ofNat_of_zero_le hbn.1
     rw [hx] at c0 hF hbn
     have hx2 : x < 256 := by omega
     clear hx hbn
     obtain ⟨q1, hq1⟩ : ∃ q1, q1 = q ^^^ x := ⟨_, rfl⟩
     have lq1 : q1 < 4294967296 := by rw [hq1]; exact xor_lt hq (by omega)
     obtain ⟨k1, hk1⟩ : ∃ k1, k1 = q1 % 16 := ⟨_, rfl⟩
     obtain ⟨t1, ht1⟩ : ∃ t1, t1 = hTab.getD k1 0 := ⟨_, rfl⟩
     have lk1 : k1 < 16 := by omega
     have lt1 : t1 < 4294967296 := by rw [ht1]; exact hTab_lt k1 lk1
     obtain ⟨q2, hq2⟩ : ∃ q2, q2 = (q1 >>> 4) ^^^ t1 := ⟨_, rfl⟩
     have ls1 : q1 >>> 4 < 4294967296 := by rw [Nat.shiftRight_eq_div_pow]; omega
     have lq2 : q2 < 4294967296 := by rw [hq2]; exact xor_lt ls1 lt1
     obtain ⟨k2, hk2⟩ : ∃ k2, k2 = q2 % 16 := ⟨_, rfl⟩
     obtain ⟨t2, ht2⟩ : ∃ t2, t2 = hTab.getD k2 0 := ⟨_, rfl⟩
     have lk2 : k2 < 16 := by omega
     have lt2 : t2 < 4294967296 := by rw [ht2]; exact hTab_lt k2 lk2
     have ls2 : q2 >>> 4 < 4294967296 := by rw [Nat.shiftRight_eq_div_pow]; omega
     obtain ⟨q3, hq3⟩ : ∃ q3, q3 = (q2 >>> 4) ^^^ t2 := ⟨_, rfl⟩
     have e1 : bits .xor .u32 (q : Int) (x : Int) = (q1 : Int) := by rw [xor_u32 q x hq (by omega), hq1]
     have e2 : bits .and .u32 (q1 : Int) 15 = (k1 : Int) := by rw [and15_u32 q1 lq1, hk1]
     have e3 : bits .xor .u32 ((q1 : Int) / 16) (t1 : Int) = (q2 : Int) := by rw [shr4, xor_u32 _ _ ls1 lt1, hq2]
     have e4 : bits .and .u32 (q2 : Int) 15 = (k2 : Int) := by rw [and15_u32 q2 lq2, hk2]
     have e5 : bits .xor .u32 ((q2 : Int) / 16) (t2 : Int) = (q3 : Int) := by rw [shr4, xor_u32 _ _ ls2 lt2, hq3]
     have c1 : wr.cell? ⟨w.heap.size, k1, none⟩ = some (.int .u32 (t1 : Int)) := by rw [cell_ints hh k1 lk1, hI_get, ← ht1]
     have c2 : wr.cell? ⟨w.heap.size, k2, none⟩ = some (.int .u32 (t2 : Int)) := by rw [cell_ints hh k2 lk2, hI_get, ← ht2]
     have KQ := hid (show q3 = stepN 8 (q ^^^ x) by rw [hq3, ht2, hk2, half_step, hq2, ht1, hk1, half_step, ← stepN_add, hq1])
     clear hq1 hk1 ht1 hq2 hk2 ht2 hq3 ls1 ls2
     have l1 : (k1 : Int) < 16 := by omega
     have l2 : (k2 : Int) < 16 := by omega
     have l3 : (q1 : Int) < 4294967296 := by omega
     have l4 : (x : Int) < 256 := by omega
     go_wp2
     go_roundw
     case rel => exact ⟨n + 1, by omega, by go_num, by rw [hF.out, Int.toNat_natCast, ← KQ.out], hh, hB⟩
     case measure => simp [intOf]; omega
   · obtain rfl : n = zs.length := by omega
     clear hlt
     rw [List.take_length]
     go_wp2
     go_ret
     exact ⟨rfl, hB⟩
theorem not_u32m (a : Nat) (ha : a < 4294967296) : bits .xor .u32 IntKind.u32.max (a : Int) = ((inv a : Nat) : Int) := not_u32 a ha
theorem upd_any (w : World) (c : Nat) (hc : c < 4294967296) (zs : List Int) (hb8 : Byts zs) (sp : Option Addr) (cap : Nat) (hS : Src w sp cap zs) :
   Calls Tryz.prog 131 #[.int .u32 c, .slice sp zs.length cap] w fun e w' => e = .returned (.int .u32 (updF c zs)) ∧ Below w.heap.size w w' := by
 have e1 := not_u32 c hc
 have e2 := not_u32m c hc
 have e3 := not_u32 _ (feed_lt zs hb8 _ (inv_lt hc))
 have e4 := not_u32m _ (feed_lt zs hb8 _ (inv_lt hc))
 have hsg : IntKind.u32.signed = false := rfl
 go_enter Tryz.func131, Tryz.ntmps131
 go_wp2_with fail
 refine (feed_any w (inv c) (inv_lt hc) zs hb8 sp cap hS).mono ?_
 rintro e w' ⟨rfl, hB⟩
 go_wp2
 go_ret
 exact ⟨rfl, hB⟩
theorem sum_any (w : World) (zs : List Int) (hb8 : Byts zs) (sp : Option Addr) (cap : Nat) (hS : Src w sp cap zs) :
   Calls Tryz.prog 129 #[.slice sp zs.length cap] w fun e w' => e = .returned (.int .u32 (sumF zs)) ∧ Below w.heap.size w w' := by
 go_enter Tryz.func129, Tryz.ntmps129
 go_wp2_with fail
 refine (upd_any w 0 (by decide) zs hb8 sp cap hS).mono ?_
 rintro e w' ⟨rfl, hB⟩
 go_wp2
 go_ret
 exact ⟨rfl, hB⟩
theorem copied_any (w : World) (zs : List Int) (sp : Option Addr) (cap : Nat) (hS : Src w sp cap zs) (hlen : zs.length ≤ 140737488355000) :
   Calls Tryz.prog 28 #[.slice sp zs.length cap] w fun e w' => ∃ v, e = .returned v ∧ Own w' w.heap.size v zs ∧ Below w.heap.size w w' := by
 obtain ⟨hc, hm, b, o, hb, hsp, hsrc⟩ := hS
 have hO := Own.nil w w.heap.size
 have i0 : (zs.length : Int) ≤ 140737488355000 := by omega
 go_enter Tryz.func28, Tryz.ntmps28
 go_wp2
 go_loopw [3, 4] (fun v i wr => ∃ k : Nat, k ≤ zs.length ∧ i = .int .i64 k ∧ Own wr w.heap.size v (zs.take k) ∧ Below w.heap.size w wr) (fun _ i _ => zs.length - (intOf i).toNat)
 case atStart => exact ⟨0, by omega, rfl, hO, Below.refl _ _⟩
 case round =>
   clear hO
   obtain ⟨k, hk, rfl, hO, hB⟩ := hrel
   by_cases hlt : k < zs.length
   · have i1 : (k : Int) < (zs.length : Int) := by omega
     obtain rfl := hsp (by omega)
     have c0 := (hB.cell (p := ⟨b, o + k, none⟩) (hb (by omega))).trans (hsrc k hlt)
     have HT := hid (show zs.take (k + 1) = zs.take k ++ [zs.getD k 0] by
       rw [List.take_succ_eq_append_getElem hlt, List.getD_eq_getElem?_getD, List.getElem?_eq_getElem hlt]; rfl)
     have KL := hid (show (zs.take k).length + 1 ≤ 140737488355328 by rw [List.length_take]; omega)
     generalize zs.getD k 0 = x at *
     generalize zs.take k = zk at *
     go_wp2_with (first | (at_builtin; refine wpList_push_any rfl (.tmp 11) (.tmp 16) rfl w.heap.size _ _ x rfl hO rfl KL.out hB.size _ _ ?_; intro v2 w2 hO2 hB2))
     go_roundw
     case rel => exact ⟨k + 1, by omega, by go_num, (by rw [HT.out]; exact hO2), hB.trans hB2⟩
     case measure => simp [intOf]; omega
   · obtain rfl : k = zs.length := by omega
     have HT := hid (show zs.take zs.length = zs by rw [List.take_length])
     clear hlt
     go_wp2
     go_ret
     exact ⟨_, rfl, (by rw [← HT.out]; exact hO), hB⟩
end
section
open Go.RowKit
attribute [local go_sem ↓] Go.wp_at_zero Go.wp_at_succ
open Go.RowKit
attribute [local go_sem ↓] Go.wp_at_zero Go.wp_at_succ
theorem src_rowf {w : World} {g t : Nat} {zs : List Int} {fr : Nat × Nat} (h : w.heap[g]? = some (.cells (ints .u8 zs).toArray t fr)) (cap : Nat) (hc : zs.length ≤ cap) (hm : cap ≤ maxLen) : Src w (some ⟨g, 0, none⟩) cap zs := by
 refine ⟨hc, hm, g, 0, fun _ => _root_.Go.Proofs.YtjhocjjecfdphaaGreatDoor.hlt h, fun _ => rfl, fun j hj => ?_⟩
 rw [Nat.zero_add, cell_ints h j hj]
theorem Byts.take {l : List Int} (h : Byts l) (n : Nat) : Byts (l.take n) := fun x hx => h x (List.mem_of_mem_take hx)
theorem Byts.drop {l : List Int} (h : Byts l) (n : Nat) : Byts (l.drop n) := fun x hx => h x (List.mem_of_mem_drop hx)
theorem below_new (w : World) (o : Obj) : Below w.heap.size w (w.alloc o) := (Below.refl _ _).alloc (Nat.le_refl _) _
theorem same_any (w : World) (xs ys : List Int) (sp sq : Option Addr) (c d : Nat) (hX : Src w sp c xs) (hY : Src w sq d ys) :
   Calls Tryz.prog 24 #[.slice sp xs.length c, .slice sq ys.length d] w fun e w' => e = .returned (.bool (decide (xs = ys))) ∧ Below w.heap.size w w' := by
 obtain ⟨hc, hm, b, o, hb, hsp, hsrc⟩ := hX
 obtain ⟨hc', hm', b', o', hb', hsp', hsrc'⟩ := hY
 unfold maxLen at hm hm'
 by_cases hl : xs.length = ys.length
 · have hl1 : ((xs.length : Int) != (ys.length : Int)) = false := by simpa using (by omega : (xs.length : Int) = (ys.length : Int))
   have HL := hid hl
   have i0 : (xs.length : Int) ≤ 9223372036854775807 := by omega
   clear hl
   go_enter Tryz.func24, Tryz.ntmps24
   go_wp2
   go_loopw [5] (fun i wr => ∃ k : Nat, k ≤ xs.length ∧ i = .int .i64 k ∧ xs.take k = ys.take k ∧ Below w.heap.size w wr) (fun i _ => xs.length - (intOf i).toNat)
   case atStart => exact ⟨0, by omega, rfl, rfl, Below.refl _ _⟩
   case round =>
     obtain ⟨k, hk, rfl, hT, hB⟩ := hrel
     replace hT := hid hT
     by_cases hlt : k < xs.length
     · have i1 : (k : Int) < (xs.length : Int) := by omega
       have hlt' : k < ys.length := by have := HL.out; omega
       have i2 : (k : Int) < (ys.length : Int) := by omega
       obtain rfl := hsp (by omega)
       obtain rfl := hsp' (by omega)
       have c1 := (hB.cell (p := ⟨b, o + k, none⟩) (hb (by omega))).trans (hsrc k hlt)
       have c2 := (hB.cell (p := ⟨b', o' + k, none⟩) (hb' (by omega))).trans (hsrc' k hlt')
       have HX := hid (show xs.take (k + 1) = xs.take k ++ [xs.getD k 0] by
         rw [List.take_succ_eq_append_getElem hlt, List.getD_eq_getElem?_getD, List.getElem?_eq_getElem hlt]; rfl)
       have HY := hid (show ys.take (k + 1) = ys.take k ++ [ys.getD k 0] by
         rw [List.take_succ_eq_append_getElem hlt', List.getD_eq_getElem?_getD, List.getElem?_eq_getElem hlt']; rfl)
       by_cases hxy : xs.getD k 0 = ys.getD k 0
       · rw [hxy] at c1 HX
         clear hxy
         generalize ys.getD k 0 = y at *
         go_wp2
         go_region_held3 (fun w' => w'.cell? ⟨b, o + k, none⟩ = some (.int .u8 y) ∧ w'.cell? ⟨b', o' + k, none⟩ = some (.int .u8 y)) (go_keep) (fail)
         go_wp2
         go_roundw
         case rel => exact ⟨k + 1, by omega, by go_num, (by rw [HX.out, HY.out, hT.out]), hB.drew⟩
         case measure => simp [intOf]; omega
       · have HF := hid (show decide (xs = ys) = false from decide_eq_false (fun h => hxy (by rw [h])))
         generalize ys.getD k 0 = y at *
         generalize xs.getD k 0 = x at *
         have hxy' : (x != y) = true := by simpa using hxy
         go_wp2
         go_region_held3 (fun w' => w'.cell? ⟨b, o + k, none⟩ = some (.int .u8 x) ∧ w'.cell? ⟨b', o' + k, none⟩ = some (.int .u8 y)) (go_keep) (fail)
         go_wp2
         go_ret
         exact ⟨by rw [HF.out]; rfl, hB.drew⟩
     · obtain rfl : k = xs.length := by omega
       have HT := hid (show decide (xs = ys) = true from decide_eq_true (by
         have := hT.out
         rw [List.take_length, HL.out, List.take_length] at this
         exact this))
       clear hlt
       go_wp2
       go_ret
       exact ⟨by rw [HT.out]; rfl, hB⟩
 · have HF := hid (show decide (xs = ys) = false from decide_eq_false (fun h => hl (by rw [h])))
   have hl' : ((xs.length : Int) != (ys.length : Int)) = true := by simpa using (by omega : ¬ (xs.length : Int) = (ys.length : Int))
   clear hl
   go_enter Tryz.func24, Tryz.ntmps24
   go_wp2
   go_ret
   exact ⟨by rw [HF.out]; rfl, Below.refl _ _⟩
theorem Tryz.size178 : (Tryz.prog.info? 178).map (·.size) = some 4 := by kernel_rfl
def sbF (s : Nat) : List Int := [(s : Int) % 256, (s : Int) / 256 % 256, (s : Int) / 65536 % 256, (s : Int) / 16777216 % 256]
theorem sbF_len (s : Nat) : (sbF s).length = 4 := rfl
theorem sbF_byts (s : Nat) : Byts (sbF s) := fun x hx => by simp [sbF] at hx; omega
def sealF (zs : List Int) : List Int := zs ++ sbF (sumF zs)
theorem sealF_len (zs : List Int) : (sealF zs).length = zs.length + 4 := by simp [sealF, sbF_len]
theorem sealF_byts {zs : List Int} (h : Byts zs) : Byts (sealF zs) := fun x hx => by
 rcases List.mem_append.1 hx with h1 | h1
 · exact h x h1
 · exact sbF_byts _ x h1
theorem sb_any (w : World) (s : Nat) (hs : s < 4294967296) :
   Calls Tryz.prog 128 #[.int .u32 s] w fun e w' => e = .returned (.agg (ints .u8 (sbF s)).toArray) ∧ Below w.heap.size w w' := by
 have HE := hid (show (#[Value.int IntKind.u8 ((s : Int) % 256), Value.int IntKind.u8 ((s : Int) / 256 % 256), Value.int IntKind.u8 ((s : Int) / 65536 % 256), Value.int IntKind.u8 ((s : Int) / 16777216)] : Array Value) = (ints .u8 (sbF s)).toArray by
   simp [ints, sbF]; omega)
 go_enter Tryz.func128, Tryz.ntmps128
 go_wp2
 rw [HE.out]
 exact bodyPost_ret (v := .agg (ints .u8 (sbF s)).toArray) (results_cell_row Tryz.results128 _ _ w.heap.size 178 _ _ _ rfl (hnew w _) Tryz.underlying178 rfl (by rw [Tryz.size178, ints_size, sbF_len])) rfl ⟨rfl, below_new w _⟩
theorem seal_any (w : World) (zs : List Int) (hb8 : Byts zs) (sp : Option Addr) (cap : Nat) (hS : Src w sp cap zs) (hlen : zs.length ≤ 140737488355000) :
   Calls Tryz.prog 119 #[.slice sp zs.length cap] w fun e w' => e = .returned (.slice (some ⟨w.heap.size, 0, none⟩) (zs.length + 4) (zs.length + 4)) ∧ w'.heap[w.heap.size]? = some (.cells (ints .u8 (sealF zs)).toArray 5 (0, 0)) ∧ Below w.heap.size w w' := by
 obtain ⟨i5, hi5, hz5, hs5, hy5⟩ := Tryz.info5
 have hS' := hS
 obtain ⟨hc, hm, b, o, hb, hsp, hsrc⟩ := hS
 have HI := hid hi5
 clear hi5
 have i1 : (zs.length : Int) ≤ 140737488355000 := by omega
 have K1 := hid (show i5.bytes * (zs.length + 4) ≤ 281474976710656 by rw [hy5]; omega)
 have K2 := hid (show zs.length + 4 ≤ maxLen by unfold maxLen; omega)
 have hcs : (ints .u8 zs).length = Nat.min zs.length (zs.length + 4) := by rw [ints_len]; exact (Nat.min_eq_left (by omega)).symm
 have hcs' : (ints .u8 zs).length = Nat.min (zs.length + 4) zs.length := by rw [ints_len]; exact (Nat.min_eq_right (by omega)).symm
 have KC := hid hcs
 have KC' := hid hcs'
 have KF := hid (show 0 + (ints .u8 zs).length ≤ (ints .u8 (padz [] (zs.length + 4))).length by rw [ints_len, ints_len, padz_len _ _ (by simp)]; omega)
 have KO := hid (ints_one .u8 zs)
 have KP : ∀ w1 : World, Below w.heap.size w w1 → 0 < (ints .u8 zs).length → ∃ ad, sp = some ad ∧ ∀ j v, (ints .u8 zs)[j]? = some v → w1.cell? (ad.add j) = some v := by
   intro w1 hB hpos
   rw [ints_len] at hpos
   refine ⟨_, hsp hpos, fun j v hv => ?_⟩
   have hj : j < zs.length := by have := (List.getElem?_eq_some_iff.1 hv).1; rwa [ints_len] at this
   rw [ints_get .u8 zs j hj] at hv
   cases hv
   rw [show (⟨b, o, none⟩ : Addr).add j = ⟨b, o + j, none⟩ by simp [Addr.add]]
   exact (hB.cell (p := ⟨b, o + j, none⟩) (hb hpos)).trans (hsrc j hj)
 have KP' := hid KP
 have hsl : splice (ints .u8 (padz [] (zs.length + 4))) 0 (ints .u8 zs) = ints .u8 (padz zs (zs.length + 4)) := by
   simp [splice, ints, padz]
 have KS := hid hsl
 clear hsl hcs KP hcs'
 have ls := sumF_lt hb8
 go_enter Tryz.func119, Tryz.ntmps119
 go_wp2_with (first
   | (refine wpList_make_full _ rfl _ _ 22 rfl w.heap.size 5 i5 (.int .u8 0) 1 Tryz.underlying22 HI.out hz5 hs5 .i64 .i64 _ _ (zs.length + 4) rfl rfl (by push_cast; rfl) (by push_cast; rfl) K1.out K2.out (Nat.le_refl _) ?_; intro w1 hO1 hg1; have hB1 := grown_keeps hg1 (fun k hk => by cases hk) (Nat.le_refl w.heap.size); have hr1 := made_row hO1; clear hg1 hO1)
   | (refine wpList_copy_splice rfl (.tmp 9) (.tmp 10) 22 22 rfl 5 Tryz.underlying22 Tryz.size5 (some ⟨w.heap.size, 0, none⟩) sp (zs.length + 4) (zs.length + 4) zs.length cap rfl rfl w.heap.size 0 (ints .u8 (padz [] (zs.length + 4))) 5 hr1 (ints .u8 zs) KC.out (fun h => ⟨rfl, KP'.out _ hB1 h⟩) KF.out KO.out w.heap.size w hB1 (Nat.le_refl _) ?_; intro w2 hr2 hB2))
 rw [KS.out] at hr2
 clear hr1 hB1 KC KF KO KP' KS K1 KC'
 refine (sum_any w2 zs hb8 sp cap (hS'.below hB2 (Nat.le_refl _))).mono ?_
 rintro e w3 ⟨rfl, b3⟩
 have r3 := hbel b3 hr2.out (hlt hr2.out)
 have B3 := hB2.trans (b3.mono hB2.size)
 clear hr2 hB2 b3
 go_wp2_with fail
 refine (sb_any w3 (sumF zs) ls).mono ?_
 rintro e w4 ⟨rfl, b4⟩
 have r4 := hbel b4 r3 (hlt r3)
 have B4 := B3.trans (b4.mono B3.size)
 clear r3 B3 b4
 have hsl := sbF_len (sumF zs)
 have K3 := hid (show (Tryz.prog.info? 178).map (·.size) = some (ints .u8 (sbF (sumF zs))).toArray.size by rw [Tryz.size178, ints_size, hsl])
 have ho := all_oneCell_toArray (ints_one .u8 (sbF (sumF zs)))
 replace hsl := hid hsl
 have HS := hid (show sealF zs = zs ++ sbF (sumF zs) from rfl)
 generalize sbF (sumF zs) = sb at *
 have K4 := hid (show (ints .u8 (padz [] 4)).toArray.size = (ints .u8 sb).toArray.size by rw [ints_size, ints_size, hsl.out]; rfl)
 have hne : ¬ (zs.length + 4 = zs.length) := by omega
 have i2 : (zs.length : Int) ≤ (zs.length : Int) + 4 := by omega
 have hG : w.heap.size < w4.heap.size := hlt r4
 have rA := hold (o := Obj.cells (ints .u8 sb).toArray 178 (0, 0)) r4
 have rS := hnew w4 (Obj.cells (ints .u8 sb).toArray 178 (0, 0))
 have BA : Below w.heap.size w (w4.alloc (Obj.cells (ints .u8 sb).toArray 178 (0, 0))) := B4.alloc B4.size _
 go_wp2_with (first | (refine wpList_store_row rfl 178 _ _ rfl _ _ rfl rfl 178 _ (by exact hnew _ _) K3.out (by exact K4.out) ho ?_; rw [setRow_alloc]; generalize w4.alloc (Obj.cells (ints .u8 sb).toArray 178 (0, 0)) = w5 at *; generalize w4.heap.size = G at *))
 simp only [Act.put]
 have HY := hid (show (ints .u8 sb).length = Nat.min 4 4 by rw [ints_len, hsl.out]; rfl)
 have rA' : w5.drew.heap[w.heap.size]? = some (.cells (ints .u8 (padz zs (zs.length + 4))).toArray 5 (0, 0)) := rA
 have hsrcY : ∀ j v, (ints .u8 sb)[j]? = some v → w5.drew.cell? (Addr.add ⟨G, 0, none⟩ j) = some v := fun j v hv => by
   rw [Addr.add_mid, Nat.zero_add]
   show w5.cell? _ = _
   rw [cell_of_row _ _ _ _ _ _ rS]; simpa using hv
 have HSrc := hid hsrcY
 have hfit : zs.length + (ints .u8 sb).length ≤ (ints .u8 (padz zs (zs.length + 4))).length := by rw [ints_len, ints_len, hsl.out, padz_len _ _ (by omega)]; exact Nat.le_refl _
 have HFit := hid hfit
 have HOne := hid (ints_one .u8 sb)
 have HSpl := hid (show ((ints .u8 (padz zs (zs.length + 4))).take zs.length ++ ints .u8 sb ++ (ints .u8 (padz zs (zs.length + 4))).drop (zs.length + (ints .u8 sb).length)) = ints .u8 (sealF zs) by
   rw [HS.out, ints_len, hsl.out, List.drop_of_length_le (by rw [ints_len, padz_len _ _ (by omega)]; exact Nat.le_refl _), List.append_nil]
   simp [ints, padz])
 clear hsrcY hfit rS
 go_region_held3 (fun w' => True) (trivial) (first | (refine step_copy_row ?_ (.tmp 18) (.tmp 19) 22 22 ?_ 5 Tryz.underlying22 Tryz.size5 ⟨G, 0, none⟩ 4 4 4 4 w.heap.size zs.length ?_ ?_ (ints .u8 (padz zs (zs.length + 4))) 5 ?_ (ints .u8 sb) HY.out HSrc.out HFit.out HOne.out ?_; rfl; rfl; rfl; rfl; exact rA'))
 rw [HSpl.out]
 have rF := setRow_heap w5.drew w.heap.size _ (ints .u8 (sealF zs)).toArray _ _ rA'
 have BF := below_setRow BA.drew (Nat.le_refl _) (ints .u8 (sealF zs)).toArray
 go_wp2
 go_ret
 exact ⟨rfl, rF, BF⟩
end
section
open Go.RowKit
attribute [local go_sem ↓] Go.wp_at_zero Go.wp_at_succ
theorem Tryz.guard178 : Tryz.prog.eqGuardType Tryz.prog.depth 178 = false := by kernel_rfl
theorem eqA4 (xs ys : List Int) (ha : xs.length = 4) (hb : ys.length = 4) (w : World) :
   (Op.equalIn 10000 178 (.agg (ints .u8 xs).toArray) (.agg (ints .u8 ys).toArray)).run Tryz.prog w = .ok (decide (xs = ys)) w :=
 equalIn_ints Tryz.underlying178 Tryz.underlying5 Tryz.size5 .u8 xs ys ha hb w
theorem whole_any (w : World) (xs ys : List Int) (hb8 : Byts (xs ++ ys)) (hy : ys.length = 4) (sp : Option Addr) (cap : Nat) (hS : Src w sp cap (xs ++ ys)) :
   Calls Tryz.prog 120 #[.slice sp (xs.length + 4) cap] w fun e w' => e = .returned (.bool (decide (sbF (sumF xs) = ys))) ∧ Below w.heap.size w w' := by
 obtain ⟨hc, hm, b, o, hb, hsp, hsrc⟩ := hS
 have hl : (xs ++ ys).length = xs.length + 4 := by rw [List.length_append, hy]
 rw [hl] at hc hb hsp hsrc
 obtain rfl := hsp (by omega)
 replace hb := hb (by omega)
 unfold maxLen at hm
 have i1 : ¬ ((xs.length : Int) + 4 < 4) := by omega
 have i2 : (xs.length : Int) + 4 ≤ 9223372036854775807 := by omega
 have i3 : (xs.length : Int) + 4 - 4 = (xs.length : Int) := by omega
 go_enter Tryz.func120, Tryz.ntmps120
 have h8x : Byts xs := fun x hx => hb8 x (List.mem_append_left _ hx)
 have lx := sumF_lt h8x
 obtain ⟨y0, y1, y2, y3, rfl⟩ : ∃ y0 y1 y2 y3, ys = [y0, y1, y2, y3] := by
   match ys, hy with
   | [y0, y1, y2, y3], _ => exact ⟨y0, y1, y2, y3, rfl⟩
 have gj : ∀ j, j < 4 → (xs ++ [y0, y1, y2, y3]).getD (xs.length + j) 0 = [y0, y1, y2, y3].getD j 0 := fun j hj => by
   rw [List.getD_eq_getElem?_getD, List.getElem?_append_right (by omega), show xs.length + j - xs.length = j by omega, ← List.getD_eq_getElem?_getD]
 have c0 : w.cell? ⟨b, o + xs.length, none⟩ = some (.int .u8 y0) := by have := hsrc (xs.length + 0) (by omega); rw [gj 0 (by omega)] at this; exact this
 have c1 : w.cell? ⟨b, o + xs.length + 1, none⟩ = some (.int .u8 y1) := by have := hsrc (xs.length + 1) (by omega); rw [gj 1 (by omega), ← Nat.add_assoc] at this; exact this
 have c2 : w.cell? ⟨b, o + xs.length + 2, none⟩ = some (.int .u8 y2) := by have := hsrc (xs.length + 2) (by omega); rw [gj 2 (by omega), ← Nat.add_assoc] at this; exact this
 have c3 : w.cell? ⟨b, o + xs.length + 3, none⟩ = some (.int .u8 y3) := by have := hsrc (xs.length + 3) (by omega); rw [gj 3 (by omega), ← Nat.add_assoc] at this; exact this
 have hX : Src w (some ⟨b, o, none⟩) cap xs := ⟨by omega, by unfold maxLen; omega, b, o, fun _ => hb, fun _ => rfl, fun j hj => by
   rw [hsrc j (by omega), List.getD_eq_getElem?_getD, List.getElem?_append_left hj, ← List.getD_eq_getElem?_getD]⟩
 have KX := hid (fun (w' : World) (B : Below w.heap.size w w') => sum_any w' xs h8x (some ⟨b, o, none⟩) cap (hX.below B (Nat.le_refl _)))
 have KB := hid (fun (w' : World) => sb_any w' (sumF xs) lx)
 have KG := hid (fun (w' : World) (B : Below w.heap.size w w') => show w'.cell? ⟨b, o + xs.length, none⟩ = some (.int .u8 y0) ∧ w'.cell? ⟨b, o + xs.length + 1, none⟩ = some (.int .u8 y1) ∧ w'.cell? ⟨b, o + xs.length + 2, none⟩ = some (.int .u8 y2) ∧ w'.cell? ⟨b, o + xs.length + 3, none⟩ = some (.int .u8 y3) from
   ⟨(B.cell (p := ⟨b, o + xs.length, none⟩) hb).trans c0, (B.cell (p := ⟨b, o + xs.length + 1, none⟩) hb).trans c1, (B.cell (p := ⟨b, o + xs.length + 2, none⟩) hb).trans c2, (B.cell (p := ⟨b, o + xs.length + 3, none⟩) hb).trans c3⟩)
 have q : ∀ w', (Op.equalIn 10000 178 (.agg (ints .u8 (sbF (sumF xs))).toArray) (.agg #[.int .u8 y0, .int .u8 y1, .int .u8 y2, .int .u8 y3])).run Tryz.prog w' = .ok (decide (sbF (sumF xs) = [y0, y1, y2, y3])) w' := fun w' => eqA4 (sbF (sumF xs)) [y0, y1, y2, y3] (sbF_len _) rfl w'
 have g4 := Tryz.guard178
 have hne : ¬ (cap = xs.length) := by omega
 have i4 : (xs.length : Int) ≤ (cap : Int) := by omega
 have i5 : (xs.length : Int) + 4 ≤ (cap : Int) := by omega
 have i6 : xs.length ≤ cap := by omega
 have hat : ∀ w, (Instr.arrayAt 178 (.slice (some ⟨b, o + xs.length, none⟩) 4 (cap - xs.length))).run Tryz.prog w = .ok (.pointer (some ⟨b, o + xs.length, none⟩)) w := fun w => run_arrayAt w 178 _ 4 _ 4 (cap - xs.length) Tryz.underlying178 (Nat.le_refl _)
 have i7 : (xs.length : Int) ≤ (xs.length : Int) + 4 := by omega
 have i8 : (0 : Int) ≤ (xs.length : Int) := by omega
 have i9 : xs.length ≤ xs.length + 4 := by omega
 have hne2 : ¬ (xs.length = cap) := by omega
 have BR := (Below.refl w.heap.size w).drew
 have sc := KG.out _ BR
 have R : ∀ (Z : Prop) [Decidable Z], True := fun _ _ => trivial
 generalize hD : decide (sbF (sumF xs) = [y0, y1, y2, y3]) = D at *
 clear hy hsrc hX hl gj hD R
 go_wp2_with fail
 go_region_held3 (fun w' => w'.cell? ⟨b, o + xs.length, none⟩ = some (.int .u8 y0) ∧ w'.cell? ⟨b, o + xs.length + 1, none⟩ = some (.int .u8 y1) ∧ w'.cell? ⟨b, o + xs.length + 2, none⟩ = some (.int .u8 y2) ∧ w'.cell? ⟨b, o + xs.length + 3, none⟩ = some (.int .u8 y3)) (first | exact ⟨c0, c1, c2, c3⟩ | exact sc | exact sc4 | exact sc5 | assumption) (first | (go_at_call 129; refine (KX.out _ BR).mono ?_; rintro e w4 ⟨rfl, b4⟩; have B4 := BR.trans (b4.mono BR.size); have sc4 := KG.out _ B4) | (go_at_call 128; refine (KB.out _).mono ?_; rintro e w5 ⟨rfl, b5⟩; have B5 := B4.trans (b5.mono B4.size); have sc5 := KG.out _ B5))
 all_goals go_wp2
 all_goals go_ret
 all_goals exact ⟨rfl, B5⟩
end
section

theorem split256 (r : Nat) : r = (256 * (r >>> 8)) ^^^ (r % 256) := by
 apply Nat.eq_of_testBit_eq
 intro i
 have e : 256 * (r >>> 8) = 2 ^ 8 * (r >>> 8) := by omega
 have e2 := Nat.testBit_mod_two_pow r 8 i
 rw [show (2 : Nat) ^ 8 = 256 by decide] at e2
 rw [e, Nat.testBit_xor, Nat.testBit_two_pow_mul, e2, Nat.testBit_shiftRight]
 by_cases h : i < 8
 · have h2 : ¬ i ≥ 8 := by omega
   simp [h, h2]
 · have h2 : i ≥ 8 := by omega
   simp [h, h2, show 8 + (i - 8) = i by omega]
theorem step8_256 (m : Nat) : stepN 8 (256 * m) = m := by
 rw [show 256 * m = 2 * (2 * (2 * (2 * (2 * (2 * (2 * (2 * m))))))) by omega]
 simp [stepN, step_even]
def le : List Int → Nat
 | [] => 0
 | y :: l => y.toNat + 256 * le l
theorem feed_le (l : List Int) : ∀ (h : Byts l) r, feed r l = stepN (8 * l.length) (r ^^^ le l) := by
 induction l with
 | nil => intro _ r; simp [feed, le, stepN]
 | cons y l ih =>
   intro h r
   have hy := h y (by simp)
   rw [feed, ih (fun x hx => h x (by simp [hx])), le]
   have e : y.toNat + 256 * le l = 256 * le l ^^^ y.toNat := by
     have := split256 (y.toNat + 256 * le l)
     rw [Nat.shiftRight_eq_div_pow, show (y.toNat + 256 * le l) / 2 ^ 8 = le l by omega, show (y.toNat + 256 * le l) % 256 = y.toNat by omega] at this
     exact this
   rw [e, show 8 * (y :: l).length = 8 + 8 * l.length by simp; omega, stepN_add]
   congr 1
   conv => lhs; rw [← step8_256 (le l)]
   rw [← stepN_xor]
   congr 1
   rw [Nat.xor_assoc, Nat.xor_comm y.toNat]
def CR : Nat := stepN 32 ones
theorem ones_lt : ones < 4294967296 := Nat.lt_succ_self _
theorem xor_ones {a b c : Nat} : a ^^^ b = c ↔ c ^^^ a = b := by
 constructor
 · intro h; rw [← h, Nat.xor_comm a b, Nat.xor_assoc, Nat.xor_self, Nat.xor_zero]
 · intro h; rw [← h, Nat.xor_comm, Nat.xor_assoc, Nat.xor_self, Nat.xor_zero]
theorem xz (o : Nat) : o ^^^ 0 = o := Nat.xor_zero o
theorem inv_zero : inv 0 = ones := by rw [inv, xz]
theorem sumF_feed (l : List Int) : sumF l = ones ^^^ feed ones l := by
 rw [sumF, updF, inv_zero, inv]
theorem whole_iff (xs : List Int) (y0 y1 y2 y3 : Int) (hx : Byts xs) (hy : Byts [y0, y1, y2, y3]) :
   feed ones (xs ++ [y0, y1, y2, y3]) = CR ↔ sumF xs = le [y0, y1, y2, y3] := by
 have h0 := hy y0 (by simp)
 have h1 := hy y1 (by simp)
 have h2 := hy y2 (by simp)
 have h3 := hy y3 (by simp)
 have hl : le [y0, y1, y2, y3] < 4294967296 := by simp only [le]; omega
 rw [feed_append, feed_le _ hy, sumF_feed]
 have hf := feed_lt xs hx ones ones_lt
 generalize feed ones xs = R at *
 generalize le [y0, y1, y2, y3] = V at *
 rw [show 8 * [y0, y1, y2, y3].length = 32 by rfl]
 rw [← xor_ones]
 constructor
 · intro h; exact stepN_inj 32 _ _ (xor_lt hf hl) ones_lt h
 · intro h; rw [h]; rfl
def vb (n : Nat) : Nat := stepN n 1
end
section
open Go.RowKit
attribute [local go_sem ↓] Go.wp_at_zero Go.wp_at_succ
def In (w : World) (g : Nat) (rest : List Value) (os : List Int) : Prop := w.heap[g]? = some (.cells (ints .u8 os ++ rest).toArray 5 (0, 0))
theorem In.cell {w : World} {g : Nat} {rest : List Value} {os : List Int} (h : In w g rest os) (j : Nat) (hj : j < os.length) : w.cell? ⟨g, j, none⟩ = some (.int .u8 (os.getD j 0)) := by
 rw [cell_of_row _ _ _ _ _ _ h]
 have hg2 := ints_get .u8 os j hj
 simp only [List.getElem?_toArray]
 rw [List.getElem?_append_left (by rw [ints_len]; exact hj), hg2]
theorem In.set {w : World} {g : Nat} {rest : List Value} {os : List Int} (h : In w g rest os) (j : Nat) (x : Int) (hj : j < os.length) : In (w.setCell ⟨g, j, none⟩ (.int .u8 x)) g rest (os.set j x) := by
 unfold In
 rw [setCell_eq_setRow w g _ _ _ _ _ h, setRow_heap _ _ _ _ _ _ h]
 congr 2
 simp only [List.setIfInBounds_toArray]
 rw [List.set_append_left _ _ (by rw [ints_len]; exact hj)]
 simp [ints, List.map_set]
theorem In.src {w : World} {g : Nat} {rest : List Value} {os : List Int} (h : In w g rest os) (cap : Nat) (hc : os.length ≤ cap) (hm : cap ≤ maxLen) : Src w (some ⟨g, 0, none⟩) cap os :=
 ⟨hc, hm, g, 0, fun _ => hlt h, fun _ => rfl, fun j hj => by rw [Nat.zero_add]; exact h.cell j hj⟩
theorem Keeps.setCell {g : Nat} {a b : World} (h : Keeps g a b) (j : Nat) (v : Value) : Keeps g a (b.setCell ⟨g, j, none⟩ v) :=
 ⟨h.os, h.tape, h.output, by rw [World.size_setCell]; exact h.size, fun k hk hne => by rw [heap_setCell_other _ _ _ _ hne]; exact h.block k hk hne⟩
theorem le_sb (s : Nat) (hs : s < 4294967296) : le (sbF s) = s := by simp only [sbF, le]; omega
theorem four_of {ys : List Int} (hy : ys.length = 4) : ∃ y0 y1 y2 y3, ys = [y0, y1, y2, y3] := by
 match ys, hy with
 | [y0, y1, y2, y3], _ => exact ⟨y0, y1, y2, y3, rfl⟩
theorem whole_D (xs ys : List Int) (h8 : Byts (xs ++ ys)) (hy : ys.length = 4) : decide (sbF (sumF xs) = ys) = decide (feed ones (xs ++ ys) = CR) := by
 obtain ⟨y0, y1, y2, y3, rfl⟩ := four_of hy
 have hx : Byts xs := fun x hx => h8 x (List.mem_append_left _ hx)
 have hyb : Byts [y0, y1, y2, y3] := fun x hx => h8 x (List.mem_append_right _ hx)
 have hw := whole_iff xs y0 y1 y2 y3 hx hyb
 have hs := sumF_lt hx
 have h0 := hyb y0 (by simp)
 have h1 := hyb y1 (by simp)
 have h2 := hyb y2 (by simp)
 have h3 := hyb y3 (by simp)
 rw [decide_eq_decide, hw]
 constructor
 · intro h; rw [← h, le_sb _ hs]
 · intro h
   rw [h]
   simp only [sbF, le, List.cons.injEq, and_true]
   omega
theorem whole_L (w : World) (L : List Int) (h8 : Byts L) (h4 : 4 ≤ L.length) (sp : Option Addr) (cap : Nat) (hS : Src w sp cap L) :
   Calls Tryz.prog 120 #[.slice sp L.length cap] w fun e w' => e = .returned (.bool (decide (feed ones L = CR))) ∧ Below w.heap.size w w' := by
 have e := List.take_append_drop (L.length - 4) L
 have hy : (L.drop (L.length - 4)).length = 4 := by rw [List.length_drop]; omega
 have hl : (L.take (L.length - 4)).length + 4 = L.length := by rw [List.length_take]; omega
 have := whole_any w (L.take (L.length - 4)) (L.drop (L.length - 4)) (by rw [e]; exact h8) hy sp cap (by rw [e]; exact hS)
 rw [whole_D _ _ (by rw [e]; exact h8) hy, e, hl] at this
 exact this
end
end Go.Proofs.YtjhocjjecfdphaaGreatDoor
