import Derived.Test.YtihkjfbhmlfonaaNha
import Derived.Lib.SlBytesConst
import Derived.Laws.IdiomStrings
namespace Go.Proofs.Ytihkjfbhmlfonaa
set_option linter.unusedVariables false
set_option linter.unusedSimpArgs false
open Go.RowKit
attribute [local go_sem ↓] Go.wp_at_zero Go.wp_at_succ

theorem src_rowf {w : World} {g t : Nat} {zs : List Int} {fr : Nat × Nat} (h : w.heap[g]? = some (.cells (ints .u8 zs).toArray t fr)) (cap : Nat) (hc : zs.length ≤ cap) (hm : cap ≤ maxLen) : Src w (some ⟨g, 0, none⟩) cap zs := by
  refine ⟨hc, hm, g, 0, fun _ => _root_.Go.Proofs.Ytihkjfbhmlfonaa.hlt h, fun _ => rfl, fun j hj => ?_⟩
  rw [Nat.zero_add, cell_ints h j hj]
theorem src_new (w : World) (zs : List Int) (t : Nat) (fr : Nat × Nat) (cap : Nat) (hc : zs.length ≤ cap) (hm : cap ≤ maxLen) : Src (w.alloc (.cells (ints .u8 zs).toArray t fr)) (some ⟨w.heap.size, 0, none⟩) cap zs := src_rowf (hnew w _) cap hc hm
theorem Src.tail {w : World} {tp : Option Addr} {tc k : Nat} {zs : List Int} (h : Src w tp tc zs) (hk : k ≤ zs.length) : Src w (Option.map (fun x => x.add k) tp) (tc - k) (zs.drop k) := by
  obtain ⟨h1, h2, b, o, h3, h4, h5⟩ := h
  refine ⟨by rw [List.length_drop]; omega, by omega, b, o + k, fun h => h3 (by rw [List.length_drop] at h; omega), fun h => ?_, fun j hj => ?_⟩
  · rw [List.length_drop] at h
    rw [h4 (by omega), Option.map_some, Addr.add_mid]
  · rw [List.length_drop] at hj
    have := h5 (k + j) (by omega)
    rw [Nat.add_assoc, this, List.getD_eq_getElem?_getD, List.getD_eq_getElem?_getD, List.getElem?_drop]
theorem Src.tail0 {w : World} {tp sq : Option Addr} {tc k : Nat} {zs : List Int} (h : Src w tp tc zs) (hk : tc = k) : Src w sq 0 (zs.drop k) := by
  have e : zs.drop k = [] := by apply List.eq_nil_of_length_eq_zero; rw [List.length_drop]; have := h.1; omega
  rw [e]
  exact Src.empty _ _ _ (by simp [maxLen])
theorem Byts.take {l : List Int} (h : Byts l) (n : Nat) : Byts (l.take n) := fun x hx => h x (List.mem_of_mem_take hx)
theorem Byts.drop {l : List Int} (h : Byts l) (n : Nat) : Byts (l.drop n) := fun x hx => h x (List.mem_of_mem_drop hx)
theorem below_new (w : World) (o : Obj) : Below w.heap.size w (w.alloc o) := (Below.refl _ _).alloc (Nat.le_refl _) _
set_option maxRecDepth 100000 in
set_option maxHeartbeats 400000 in
theorem same_any (w : World) (xs ys : List Int) (sp sq : Option Addr) (c d : Nat) (hX : Src w sp c xs) (hY : Src w sq d ys) :
    Calls Try.prog 20 #[.slice sp xs.length c, .slice sq ys.length d] w fun e w' => e = .returned (.bool (decide (xs = ys))) ∧ Below w.heap.size w w' := by
  obtain ⟨hc, hm, b, o, hb, hsp, hsrc⟩ := hX
  obtain ⟨hc', hm', b', o', hb', hsp', hsrc'⟩ := hY
  unfold maxLen at hm hm'
  by_cases hl : xs.length = ys.length
  · have hl1 : ((xs.length : Int) != (ys.length : Int)) = false := by simpa using (by omega : (xs.length : Int) = (ys.length : Int))
    have HL := hid hl
    have i0 : (xs.length : Int) ≤ 9223372036854775807 := by omega
    clear hl
    go_enter Try.func20, Try.ntmps20
    go_wp2
    go_loopw [5] (fun i wr => ∃ k : Nat, k ≤ xs.length ∧ i = .int .i64 k ∧ xs.take k = ys.take k ∧ Below w.heap.size w wr) (fun i _ => xs.length - (intOf i).toNat)
    case atStart => exact ⟨0, by omega, rfl, rfl, Below.refl _ _⟩
    case round =>
      obtain ⟨k, hk, rfl, hT, hB⟩ := hrel
      replace hT := hid hT
      by_cases hlt : k < xs.length
      · have i1 : (k : Int) < (xs.length : Int) := by omega
        have hlt' : k < ys.length := by have := HL.out; omega
        have i2 : (k : Int) < (ys.length : Int) := by omega
        obtain rfl := hsp (by omega)
        obtain rfl := hsp' (by omega)
        have c1 := (hB.cell (p := ⟨b, o + k, none⟩) (hb (by omega))).trans (hsrc k hlt)
        have c2 := (hB.cell (p := ⟨b', o' + k, none⟩) (hb' (by omega))).trans (hsrc' k hlt')
        have HX := hid (show xs.take (k + 1) = xs.take k ++ [xs.getD k 0] by
          rw [List.take_succ_eq_append_getElem hlt, List.getD_eq_getElem?_getD, List.getElem?_eq_getElem hlt]; rfl)
        have HY := hid (show ys.take (k + 1) = ys.take k ++ [ys.getD k 0] by
          rw [List.take_succ_eq_append_getElem hlt', List.getD_eq_getElem?_getD, List.getElem?_eq_getElem hlt']; rfl)
        by_cases hxy : xs.getD k 0 = ys.getD k 0
        · rw [hxy] at c1 HX
          clear hxy
          generalize ys.getD k 0 = y at *
          go_wp2
          go_region_held3 (fun w' => w'.cell? ⟨b, o + k, none⟩ = some (.int .u8 y) ∧ w'.cell? ⟨b', o' + k, none⟩ = some (.int .u8 y)) (go_keep) (fail)
          go_wp2
          go_roundw
          case rel => exact ⟨k + 1, by omega, by go_num, (by rw [HX.out, HY.out, hT.out]), hB.drew⟩
          case measure => simp [intOf]; omega
        · have HF := hid (show decide (xs = ys) = false from decide_eq_false (fun h => hxy (by rw [h])))
          generalize ys.getD k 0 = y at *
          generalize xs.getD k 0 = x at *
          have hxy' : (x != y) = true := by simpa using hxy
          go_wp2
          go_region_held3 (fun w' => w'.cell? ⟨b, o + k, none⟩ = some (.int .u8 x) ∧ w'.cell? ⟨b', o' + k, none⟩ = some (.int .u8 y)) (go_keep) (fail)
          go_wp2
          go_ret
          exact ⟨by rw [HF.out]; rfl, hB.drew⟩
      · obtain rfl : k = xs.length := by omega
        have HT := hid (show decide (xs = ys) = true from decide_eq_true (by
          have := hT.out
          rw [List.take_length, HL.out, List.take_length] at this
          exact this))
        clear hlt
        go_wp2
        go_ret
        exact ⟨by rw [HT.out]; rfl, hB⟩
  · have HF := hid (show decide (xs = ys) = false from decide_eq_false (fun h => hl (by rw [h])))
    have hl' : ((xs.length : Int) != (ys.length : Int)) = true := by simpa using (by omega : ¬ (xs.length : Int) = (ys.length : Int))
    clear hl
    go_enter Try.func20, Try.ntmps20
    go_wp2
    go_ret
    exact ⟨by rw [HF.out]; rfl, Below.refl _ _⟩
end Go.Proofs.Ytihkjfbhmlfonaa
namespace Go.Proofs.Ytihkjfbhmlfonaa
set_option linter.unusedVariables false
set_option linter.unusedSimpArgs false
open Go.RowKit
attribute [local go_sem ↓] Go.wp_at_zero Go.wp_at_succ

theorem Try.size145 : (Try.prog.info? 145).map (·.size) = some 4 := by kernel_rfl
/-- A checksum's bytes, the lowest first. -/
def sbF (s : Nat) : List Int := [(s : Int) % 256, (s : Int) / 256 % 256, (s : Int) / 65536 % 256, (s : Int) / 16777216 % 256]
theorem sbF_len (s : Nat) : (sbF s).length = 4 := rfl
theorem sbF_byts (s : Nat) : Byts (sbF s) := fun x hx => by simp [sbF] at hx; omega
def sealF (zs : List Int) : List Int := zs ++ sbF (sumF zs)
theorem sealF_len (zs : List Int) : (sealF zs).length = zs.length + 4 := by simp [sealF, sbF_len]
theorem sealF_byts {zs : List Int} (h : Byts zs) : Byts (sealF zs) := fun x hx => by
  rcases List.mem_append.1 hx with h1 | h1
  · exact h x h1
  · exact sbF_byts _ x h1
set_option maxRecDepth 100000 in
set_option maxHeartbeats 400000 in
theorem sb_any (w : World) (s : Nat) (hs : s < 4294967296) :
    Calls Try.prog 96 #[.int .u32 s] w fun e w' => e = .returned (.agg (ints .u8 (sbF s)).toArray) ∧ Below w.heap.size w w' := by
  have HE := hid (show (#[Value.int IntKind.u8 ((s : Int) % 256), Value.int IntKind.u8 ((s : Int) / 256 % 256), Value.int IntKind.u8 ((s : Int) / 65536 % 256), Value.int IntKind.u8 ((s : Int) / 16777216)] : Array Value) = (ints .u8 (sbF s)).toArray by
    simp [ints, sbF]; omega)
  go_enter Try.func96, Try.ntmps96
  go_wp2
  rw [HE.out]
  exact bodyPost_ret (v := .agg (ints .u8 (sbF s)).toArray) (results_cell_row Try.results96 _ _ w.heap.size 145 _ _ _ rfl (hnew w _) Try.underlying145 rfl (by rw [Try.size145, ints_size, sbF_len])) rfl ⟨rfl, below_new w _⟩
set_option maxRecDepth 100000 in
set_option maxHeartbeats 400000 in
theorem seal_any (w : World) (zs : List Int) (hb8 : Byts zs) (sp : Option Addr) (cap : Nat) (hS : Src w sp cap zs) (hlen : zs.length ≤ 140737488355000) :
    Calls Try.prog 95 #[.slice sp zs.length cap] w fun e w' => e = .returned (.slice (some ⟨w.heap.size, 0, none⟩) (zs.length + 4) (zs.length + 4)) ∧ w'.heap[w.heap.size]? = some (.cells (ints .u8 (sealF zs)).toArray 5 (0, 0)) ∧ Below w.heap.size w w' := by
  obtain ⟨i5, hi5, hz5, hs5, hy5⟩ := Try.info5
  have hS' := hS
  obtain ⟨hc, hm, b, o, hb, hsp, hsrc⟩ := hS
  have HI := hid hi5
  clear hi5
  have i1 : (zs.length : Int) ≤ 140737488355000 := by omega
  have K1 := hid (show i5.bytes * (zs.length + 4) ≤ 281474976710656 by rw [hy5]; omega)
  have K2 := hid (show zs.length + 4 ≤ maxLen by unfold maxLen; omega)
  have hcs : (ints .u8 zs).length = Nat.min zs.length (zs.length + 4) := by rw [ints_len]; exact (Nat.min_eq_left (by omega)).symm
  have hcs' : (ints .u8 zs).length = Nat.min (zs.length + 4) zs.length := by rw [ints_len]; exact (Nat.min_eq_right (by omega)).symm
  have KC := hid hcs
  have KC' := hid hcs'
  have KF := hid (show 0 + (ints .u8 zs).length ≤ (ints .u8 (padz [] (zs.length + 4))).length by rw [ints_len, ints_len, padz_len _ _ (by simp)]; omega)
  have KO := hid (ints_one .u8 zs)
  have KP : ∀ w1 : World, Below w.heap.size w w1 → 0 < (ints .u8 zs).length → ∃ ad, sp = some ad ∧ ∀ j v, (ints .u8 zs)[j]? = some v → w1.cell? (ad.add j) = some v := by
    intro w1 hB hpos
    rw [ints_len] at hpos
    refine ⟨_, hsp hpos, fun j v hv => ?_⟩
    have hj : j < zs.length := by have := (List.getElem?_eq_some_iff.1 hv).1; rwa [ints_len] at this
    rw [ints_get .u8 zs j hj] at hv
    cases hv
    rw [show (⟨b, o, none⟩ : Addr).add j = ⟨b, o + j, none⟩ by simp [Addr.add]]
    exact (hB.cell (p := ⟨b, o + j, none⟩) (hb hpos)).trans (hsrc j hj)
  have KP' := hid KP
  have hsl : splice (ints .u8 (padz [] (zs.length + 4))) 0 (ints .u8 zs) = ints .u8 (padz zs (zs.length + 4)) := by
    simp [splice, ints, padz]
  have KS := hid hsl
  clear hsl hcs KP hcs'
  have ls := sumF_lt hb8
  go_enter Try.func95, Try.ntmps95
  go_wp2_with (first
    | (refine wpList_make_full _ rfl _ _ 36 rfl w.heap.size 5 i5 (.int .u8 0) 1 Try.underlying36 HI.out hz5 hs5 .i64 .i64 _ _ (zs.length + 4) rfl rfl (by push_cast; rfl) (by push_cast; rfl) K1.out K2.out (Nat.le_refl _) ?_; intro w1 hO1 hg1; have hB1 := grown_keeps hg1 (fun k hk => by cases hk) (Nat.le_refl w.heap.size); have hr1 := made_row hO1; clear hg1 hO1)
    | (refine wpList_copy_splice rfl (.tmp 9) (.tmp 10) 36 36 rfl 5 Try.underlying36 Try.size5 (some ⟨w.heap.size, 0, none⟩) sp (zs.length + 4) (zs.length + 4) zs.length cap rfl rfl w.heap.size 0 (ints .u8 (padz [] (zs.length + 4))) 5 hr1 (ints .u8 zs) KC.out (fun h => ⟨rfl, KP'.out _ hB1 h⟩) KF.out KO.out w.heap.size w hB1 (Nat.le_refl _) ?_; intro w2 hr2 hB2))
  rw [KS.out] at hr2
  clear hr1 hB1 KC KF KO KP' KS K1 KC'
  refine (sum_any w2 zs hb8 sp cap (hS'.below hB2 (Nat.le_refl _))).mono ?_
  rintro e w3 ⟨rfl, b3⟩
  have r3 := hbel b3 hr2.out (hlt hr2.out)
  have B3 := hB2.trans (b3.mono hB2.size)
  clear hr2 hB2 b3
  go_wp2_with fail
  refine (sb_any w3 (sumF zs) ls).mono ?_
  rintro e w4 ⟨rfl, b4⟩
  have r4 := hbel b4 r3 (hlt r3)
  have B4 := B3.trans (b4.mono B3.size)
  clear r3 B3 b4
  have hsl := sbF_len (sumF zs)
  have K3 := hid (show (Try.prog.info? 145).map (·.size) = some (ints .u8 (sbF (sumF zs))).toArray.size by rw [Try.size145, ints_size, hsl])
  have ho := all_oneCell_toArray (ints_one .u8 (sbF (sumF zs)))
  replace hsl := hid hsl
  have HS := hid (show sealF zs = zs ++ sbF (sumF zs) from rfl)
  generalize sbF (sumF zs) = sb at *
  have K4 := hid (show (ints .u8 (padz [] 4)).toArray.size = (ints .u8 sb).toArray.size by rw [ints_size, ints_size, hsl.out]; rfl)
  have hne : ¬ (zs.length + 4 = zs.length) := by omega
  have i2 : (zs.length : Int) ≤ (zs.length : Int) + 4 := by omega
  have hG : w.heap.size < w4.heap.size := hlt r4
  have rA := hold (o := Obj.cells (ints .u8 sb).toArray 145 (0, 0)) r4
  have rS := hnew w4 (Obj.cells (ints .u8 sb).toArray 145 (0, 0))
  have BA : Below w.heap.size w (w4.alloc (Obj.cells (ints .u8 sb).toArray 145 (0, 0))) := B4.alloc B4.size _
  go_wp2_with (first | (refine wpList_store_row rfl 145 _ _ rfl _ _ rfl rfl 145 _ (by exact hnew _ _) K3.out (by exact K4.out) ho ?_; rw [setRow_alloc]; generalize w4.alloc (Obj.cells (ints .u8 sb).toArray 145 (0, 0)) = w5 at *; generalize w4.heap.size = G at *))
  simp only [Act.put]
  have HY := hid (show (ints .u8 sb).length = Nat.min 4 4 by rw [ints_len, hsl.out]; rfl)
  have rA' : w5.drew.heap[w.heap.size]? = some (.cells (ints .u8 (padz zs (zs.length + 4))).toArray 5 (0, 0)) := rA
  have hsrcY : ∀ j v, (ints .u8 sb)[j]? = some v → w5.drew.cell? (Addr.add ⟨G, 0, none⟩ j) = some v := fun j v hv => by
    rw [Addr.add_mid, Nat.zero_add]
    show w5.cell? _ = _
    rw [cell_of_row _ _ _ _ _ _ rS]; simpa using hv
  have HSrc := hid hsrcY
  have hfit : zs.length + (ints .u8 sb).length ≤ (ints .u8 (padz zs (zs.length + 4))).length := by rw [ints_len, ints_len, hsl.out, padz_len _ _ (by omega)]; exact Nat.le_refl _
  have HFit := hid hfit
  have HOne := hid (ints_one .u8 sb)
  have HSpl := hid (show ((ints .u8 (padz zs (zs.length + 4))).take zs.length ++ ints .u8 sb ++ (ints .u8 (padz zs (zs.length + 4))).drop (zs.length + (ints .u8 sb).length)) = ints .u8 (sealF zs) by
    rw [HS.out, ints_len, hsl.out, List.drop_of_length_le (by rw [ints_len, padz_len _ _ (by omega)]; exact Nat.le_refl _), List.append_nil]
    simp [ints, padz])
  clear hsrcY hfit rS
  go_region_held3 (fun w' => True) (trivial) (first | (refine step_copy_row ?_ (.tmp 18) (.tmp 19) 36 36 ?_ 5 Try.underlying36 Try.size5 ⟨G, 0, none⟩ 4 4 4 4 w.heap.size zs.length ?_ ?_ (ints .u8 (padz zs (zs.length + 4))) 5 ?_ (ints .u8 sb) HY.out HSrc.out HFit.out HOne.out ?_; rfl; rfl; rfl; rfl; exact rA'))
  rw [HSpl.out]
  have rF := setRow_heap w5.drew w.heap.size _ (ints .u8 (sealF zs)).toArray _ _ rA'
  have BF := below_setRow BA.drew (Nat.le_refl _) (ints .u8 (sealF zs)).toArray
  go_wp2
  go_ret
  exact ⟨rfl, rF, BF⟩
/-- What Seal answers is the caller's own. -/
theorem own_seal {w : World} {base g : Nat} {zs : List Int} (h : w.heap[g]? = some (.cells (ints .u8 zs).toArray 5 (0, 0))) (hg : base ≤ g) (hm : zs.length ≤ maxLen) : Own w base (.slice (some ⟨g, 0, none⟩) zs.length zs.length) zs := by
  refine ⟨by rw [ints_len]; omega, Or.inr ⟨g, zs.length, _, rfl, hg, h, Nat.le_refl _, hm, by rw [ints_size]; omega, ?_⟩⟩
  rw [Nat.mul_one, List.take_of_length_le (by rw [Array.length_toList, ints_size]; exact Nat.le_refl _)]
end Go.Proofs.Ytihkjfbhmlfonaa
