import Derived.Test.YtjpcegjgandnjaaGreatDoorQ01
import Derived.Lib.SlBytesConst
import Derived.Laws.IdiomStrings
import Derived.Laws.Cover3
namespace Go.Proofs.YtjpcegjgandnjaaGreatDoor
set_option linter.unusedVariables false
set_option linter.unusedSimpArgs false
open Go.RowKit
attribute [local go_sem ↓] Go.wp_at_zero Go.wp_at_succ

theorem src_rowf {w : World} {g t : Nat} {zs : List Int} {fr : Nat × Nat} (h : w.heap[g]? = some (.cells (ints .u8 zs).toArray t fr)) (cap : Nat) (hc : zs.length ≤ cap) (hm : cap ≤ maxLen) : Src w (some ⟨g, 0, none⟩) cap zs := by
  refine ⟨hc, hm, g, 0, fun _ => _root_.Go.Proofs.YtjpcegjgandnjaaGreatDoor.hlt h, fun _ => rfl, fun j hj => ?_⟩
  rw [Nat.zero_add, cell_ints h j hj]
theorem Src.tail {w : World} {tp : Option Addr} {tc k : Nat} {zs : List Int} (h : Src w tp tc zs) (hk : k ≤ zs.length) : Src w (Option.map (fun x => x.add k) tp) (tc - k) (zs.drop k) := by
  obtain ⟨h1, h2, b, o, h3, h4, h5⟩ := h
  refine ⟨by rw [List.length_drop]; omega, by omega, b, o + k, fun h => h3 (by rw [List.length_drop] at h; omega), fun h => ?_, fun j hj => ?_⟩
  · rw [List.length_drop] at h
    rw [h4 (by omega), Option.map_some, Addr.add_mid]
  · rw [List.length_drop] at hj
    have := h5 (k + j) (by omega)
    rw [Nat.add_assoc, this, List.getD_eq_getElem?_getD, List.getD_eq_getElem?_getD, List.getElem?_drop]
theorem Byts.take {l : List Int} (h : Byts l) (n : Nat) : Byts (l.take n) := fun x hx => h x (List.mem_of_mem_take hx)
theorem Byts.drop {l : List Int} (h : Byts l) (n : Nat) : Byts (l.drop n) := fun x hx => h x (List.mem_of_mem_drop hx)
theorem below_new (w : World) (o : Obj) : Below w.heap.size w (w.alloc o) := (Below.refl _ _).alloc (Nat.le_refl _) _
end Go.Proofs.YtjpcegjgandnjaaGreatDoor
namespace Go.Proofs.YtjpcegjgandnjaaGreatDoor
set_option linter.unusedVariables false
set_option linter.unusedSimpArgs false
open Go.RowKit
attribute [local go_sem ↓] Go.wp_at_zero Go.wp_at_succ

theorem Tryz.size303 : (Tryz.prog.info? 303).map (·.size) = some 4 := by kernel_rfl
/-- A checksum's bytes, the lowest first. -/
def sbF (s : Nat) : List Int := [(s : Int) % 256, (s : Int) / 256 % 256, (s : Int) / 65536 % 256, (s : Int) / 16777216 % 256]
theorem sbF_len (s : Nat) : (sbF s).length = 4 := rfl
theorem sbF_byts (s : Nat) : Byts (sbF s) := fun x hx => by simp [sbF] at hx; omega
def sealF (zs : List Int) : List Int := zs ++ sbF (sumF zs)
theorem sealF_len (zs : List Int) : (sealF zs).length = zs.length + 4 := by simp [sealF, sbF_len]
theorem sealF_byts {zs : List Int} (h : Byts zs) : Byts (sealF zs) := fun x hx => by
  rcases List.mem_append.1 hx with h1 | h1
  · exact h x h1
  · exact sbF_byts _ x h1
set_option maxRecDepth 100000 in
set_option maxHeartbeats 400000 in
theorem sb_any (w : World) (s : Nat) (hs : s < 4294967296) :
    Calls Tryz.prog 180 #[.int .u32 s] w fun e w' => e = .returned (.agg (ints .u8 (sbF s)).toArray) ∧ Below w.heap.size w w' := by
  have HE := hid (show (#[Value.int IntKind.u8 ((s : Int) % 256), Value.int IntKind.u8 ((s : Int) / 256 % 256), Value.int IntKind.u8 ((s : Int) / 65536 % 256), Value.int IntKind.u8 ((s : Int) / 16777216)] : Array Value) = (ints .u8 (sbF s)).toArray by
    simp [ints, sbF]; omega)
  go_enter Tryz.func180, Tryz.ntmps180
  go_wp2
  rw [HE.out]
  exact bodyPost_ret (v := .agg (ints .u8 (sbF s)).toArray) (results_cell_row Tryz.results180 _ _ w.heap.size 303 _ _ _ rfl (hnew w _) Tryz.underlying303 rfl (by rw [Tryz.size303, ints_size, sbF_len])) rfl ⟨rfl, below_new w _⟩
set_option maxRecDepth 100000 in
set_option maxHeartbeats 400000 in
theorem seal_any (w : World) (zs : List Int) (hb8 : Byts zs) (sp : Option Addr) (cap : Nat) (hS : Src w sp cap zs) (hlen : zs.length ≤ 140737488355000) :
    Calls Tryz.prog 179 #[.slice sp zs.length cap] w fun e w' => e = .returned (.slice (some ⟨w.heap.size, 0, none⟩) (zs.length + 4) (zs.length + 4)) ∧ w'.heap[w.heap.size]? = some (.cells (ints .u8 (sealF zs)).toArray 5 (0, 0)) ∧ Below w.heap.size w w' := by
  obtain ⟨i5, hi5, hz5, hs5, hy5⟩ := Tryz.info5
  have hS' := hS
  obtain ⟨hc, hm, b, o, hb, hsp, hsrc⟩ := hS
  have HI := hid hi5
  clear hi5
  have i1 : (zs.length : Int) ≤ 140737488355000 := by omega
  have K1 := hid (show i5.bytes * (zs.length + 4) ≤ 281474976710656 by rw [hy5]; omega)
  have K2 := hid (show zs.length + 4 ≤ maxLen by unfold maxLen; omega)
  have hcs : (ints .u8 zs).length = Nat.min zs.length (zs.length + 4) := by rw [ints_len]; exact (Nat.min_eq_left (by omega)).symm
  have hcs' : (ints .u8 zs).length = Nat.min (zs.length + 4) zs.length := by rw [ints_len]; exact (Nat.min_eq_right (by omega)).symm
  have KC := hid hcs
  have KC' := hid hcs'
  have KF := hid (show 0 + (ints .u8 zs).length ≤ (ints .u8 (padz [] (zs.length + 4))).length by rw [ints_len, ints_len, padz_len _ _ (by simp)]; omega)
  have KO := hid (ints_one .u8 zs)
  have KP : ∀ w1 : World, Below w.heap.size w w1 → 0 < (ints .u8 zs).length → ∃ ad, sp = some ad ∧ ∀ j v, (ints .u8 zs)[j]? = some v → w1.cell? (ad.add j) = some v := by
    intro w1 hB hpos
    rw [ints_len] at hpos
    refine ⟨_, hsp hpos, fun j v hv => ?_⟩
    have hj : j < zs.length := by have := (List.getElem?_eq_some_iff.1 hv).1; rwa [ints_len] at this
    rw [ints_get .u8 zs j hj] at hv
    cases hv
    rw [show (⟨b, o, none⟩ : Addr).add j = ⟨b, o + j, none⟩ by simp [Addr.add]]
    exact (hB.cell (p := ⟨b, o + j, none⟩) (hb hpos)).trans (hsrc j hj)
  have KP' := hid KP
  have hsl : splice (ints .u8 (padz [] (zs.length + 4))) 0 (ints .u8 zs) = ints .u8 (padz zs (zs.length + 4)) := by
    simp [splice, ints, padz]
  have KS := hid hsl
  clear hsl hcs KP hcs'
  have ls := sumF_lt hb8
  go_enter Tryz.func179, Tryz.ntmps179
  go_wp2_with (first
    | (refine wpList_make_full _ rfl _ _ 45 rfl w.heap.size 5 i5 (.int .u8 0) 1 Tryz.underlying45 HI.out hz5 hs5 .i64 .i64 _ _ (zs.length + 4) rfl rfl (by push_cast; rfl) (by push_cast; rfl) K1.out K2.out (Nat.le_refl _) ?_; intro w1 hO1 hg1; have hB1 := grown_keeps hg1 (fun k hk => by cases hk) (Nat.le_refl w.heap.size); have hr1 := made_row hO1; clear hg1 hO1)
    | (refine wpList_copy_splice rfl (.tmp 9) (.tmp 10) 45 45 rfl 5 Tryz.underlying45 Tryz.size5 (some ⟨w.heap.size, 0, none⟩) sp (zs.length + 4) (zs.length + 4) zs.length cap rfl rfl w.heap.size 0 (ints .u8 (padz [] (zs.length + 4))) 5 hr1 (ints .u8 zs) KC.out (fun h => ⟨rfl, KP'.out _ hB1 h⟩) KF.out KO.out w.heap.size w hB1 (Nat.le_refl _) ?_; intro w2 hr2 hB2))
  rw [KS.out] at hr2
  clear hr1 hB1 KC KF KO KP' KS K1 KC'
  refine (sum_any w2 zs hb8 sp cap (hS'.below hB2 (Nat.le_refl _))).mono ?_
  rintro e w3 ⟨rfl, b3⟩
  have r3 := hbel b3 hr2.out (hlt hr2.out)
  have B3 := hB2.trans (b3.mono hB2.size)
  clear hr2 hB2 b3
  go_wp2_with fail
  refine (sb_any w3 (sumF zs) ls).mono ?_
  rintro e w4 ⟨rfl, b4⟩
  have r4 := hbel b4 r3 (hlt r3)
  have B4 := B3.trans (b4.mono B3.size)
  clear r3 B3 b4
  have hsl := sbF_len (sumF zs)
  have K3 := hid (show (Tryz.prog.info? 303).map (·.size) = some (ints .u8 (sbF (sumF zs))).toArray.size by rw [Tryz.size303, ints_size, hsl])
  have ho := all_oneCell_toArray (ints_one .u8 (sbF (sumF zs)))
  replace hsl := hid hsl
  have HS := hid (show sealF zs = zs ++ sbF (sumF zs) from rfl)
  generalize sbF (sumF zs) = sb at *
  have K4 := hid (show (ints .u8 (padz [] 4)).toArray.size = (ints .u8 sb).toArray.size by rw [ints_size, ints_size, hsl.out]; rfl)
  have hne : ¬ (zs.length + 4 = zs.length) := by omega
  have i2 : (zs.length : Int) ≤ (zs.length : Int) + 4 := by omega
  have hG : w.heap.size < w4.heap.size := hlt r4
  have rA := hold (o := Obj.cells (ints .u8 sb).toArray 303 (0, 0)) r4
  have rS := hnew w4 (Obj.cells (ints .u8 sb).toArray 303 (0, 0))
  have BA : Below w.heap.size w (w4.alloc (Obj.cells (ints .u8 sb).toArray 303 (0, 0))) := B4.alloc B4.size _
  go_wp2_with (first | (refine wpList_store_row rfl 303 _ _ rfl _ _ rfl rfl 303 _ (by exact hnew _ _) K3.out (by exact K4.out) ho ?_; rw [setRow_alloc]; generalize w4.alloc (Obj.cells (ints .u8 sb).toArray 303 (0, 0)) = w5 at *; generalize w4.heap.size = G at *))
  simp only [Act.put]
  have HY := hid (show (ints .u8 sb).length = Nat.min 4 4 by rw [ints_len, hsl.out]; rfl)
  have rA' : w5.drew.heap[w.heap.size]? = some (.cells (ints .u8 (padz zs (zs.length + 4))).toArray 5 (0, 0)) := rA
  have hsrcY : ∀ j v, (ints .u8 sb)[j]? = some v → w5.drew.cell? (Addr.add ⟨G, 0, none⟩ j) = some v := fun j v hv => by
    rw [Addr.add_mid, Nat.zero_add]
    show w5.cell? _ = _
    rw [cell_of_row _ _ _ _ _ _ rS]; simpa using hv
  have HSrc := hid hsrcY
  have hfit : zs.length + (ints .u8 sb).length ≤ (ints .u8 (padz zs (zs.length + 4))).length := by rw [ints_len, ints_len, hsl.out, padz_len _ _ (by omega)]; exact Nat.le_refl _
  have HFit := hid hfit
  have HOne := hid (ints_one .u8 sb)
  have HSpl := hid (show ((ints .u8 (padz zs (zs.length + 4))).take zs.length ++ ints .u8 sb ++ (ints .u8 (padz zs (zs.length + 4))).drop (zs.length + (ints .u8 sb).length)) = ints .u8 (sealF zs) by
    rw [HS.out, ints_len, hsl.out, List.drop_of_length_le (by rw [ints_len, padz_len _ _ (by omega)]; exact Nat.le_refl _), List.append_nil]
    simp [ints, padz])
  clear hsrcY hfit rS
  go_region_held3 (fun w' => True) (trivial) (first | (refine step_copy_row ?_ (.tmp 18) (.tmp 19) 45 45 ?_ 5 Tryz.underlying45 Tryz.size5 ⟨G, 0, none⟩ 4 4 4 4 w.heap.size zs.length ?_ ?_ (ints .u8 (padz zs (zs.length + 4))) 5 ?_ (ints .u8 sb) HY.out HSrc.out HFit.out HOne.out ?_; rfl; rfl; rfl; rfl; exact rA'))
  rw [HSpl.out]
  have rF := setRow_heap w5.drew w.heap.size _ (ints .u8 (sealF zs)).toArray _ _ rA'
  have BF := below_setRow BA.drew (Nat.le_refl _) (ints .u8 (sealF zs)).toArray
  go_wp2
  go_ret
  exact ⟨rfl, rF, BF⟩
end Go.Proofs.YtjpcegjgandnjaaGreatDoor
namespace Go.Proofs.YtjpcegjgandnjaaGreatDoor
set_option linter.unusedVariables false
set_option linter.unusedSimpArgs false
open Go.RowKit
attribute [local go_sem ↓] Go.wp_at_zero Go.wp_at_succ

theorem Tryz.guard303 : Tryz.prog.eqGuardType Tryz.prog.depth 303 = false := by kernel_rfl
theorem eqA4 (xs ys : List Int) (ha : xs.length = 4) (hb : ys.length = 4) (w : World) :
    (Op.equalIn 10000 303 (.agg (ints .u8 xs).toArray) (.agg (ints .u8 ys).toArray)).run Tryz.prog w = .ok (decide (xs = ys)) w :=
  equalIn_ints Tryz.underlying303 Tryz.underlying5 Tryz.size5 .u8 xs ys ha hb w
set_option maxRecDepth 100000 in
set_option maxHeartbeats 400000 in
theorem whole_any (w : World) (xs ys : List Int) (hb8 : Byts (xs ++ ys)) (hy : ys.length = 4) (sp : Option Addr) (cap : Nat) (hS : Src w sp cap (xs ++ ys)) :
    Calls Tryz.prog 147 #[.slice sp (xs.length + 4) cap] w fun e w' => e = .returned (.bool (decide (sbF (sumF xs) = ys))) ∧ Below w.heap.size w w' := by
  obtain ⟨hc, hm, b, o, hb, hsp, hsrc⟩ := hS
  have hl : (xs ++ ys).length = xs.length + 4 := by rw [List.length_append, hy]
  rw [hl] at hc hb hsp hsrc
  obtain rfl := hsp (by omega)
  replace hb := hb (by omega)
  unfold maxLen at hm
  have i1 : ¬ ((xs.length : Int) + 4 < 4) := by omega
  have i2 : (xs.length : Int) + 4 ≤ 9223372036854775807 := by omega
  have i3 : (xs.length : Int) + 4 - 4 = (xs.length : Int) := by omega
  go_enter Tryz.func147, Tryz.ntmps147
  have h8x : Byts xs := fun x hx => hb8 x (List.mem_append_left _ hx)
  have lx := sumF_lt h8x
  obtain ⟨y0, y1, y2, y3, rfl⟩ : ∃ y0 y1 y2 y3, ys = [y0, y1, y2, y3] := by
    match ys, hy with
    | [y0, y1, y2, y3], _ => exact ⟨y0, y1, y2, y3, rfl⟩
  have gj : ∀ j, j < 4 → (xs ++ [y0, y1, y2, y3]).getD (xs.length + j) 0 = [y0, y1, y2, y3].getD j 0 := fun j hj => by
    rw [List.getD_eq_getElem?_getD, List.getElem?_append_right (by omega), show xs.length + j - xs.length = j by omega, ← List.getD_eq_getElem?_getD]
  have c0 : w.cell? ⟨b, o + xs.length, none⟩ = some (.int .u8 y0) := by have := hsrc (xs.length + 0) (by omega); rw [gj 0 (by omega)] at this; exact this
  have c1 : w.cell? ⟨b, o + xs.length + 1, none⟩ = some (.int .u8 y1) := by have := hsrc (xs.length + 1) (by omega); rw [gj 1 (by omega), ← Nat.add_assoc] at this; exact this
  have c2 : w.cell? ⟨b, o + xs.length + 2, none⟩ = some (.int .u8 y2) := by have := hsrc (xs.length + 2) (by omega); rw [gj 2 (by omega), ← Nat.add_assoc] at this; exact this
  have c3 : w.cell? ⟨b, o + xs.length + 3, none⟩ = some (.int .u8 y3) := by have := hsrc (xs.length + 3) (by omega); rw [gj 3 (by omega), ← Nat.add_assoc] at this; exact this
  have hX : Src w (some ⟨b, o, none⟩) cap xs := ⟨by omega, by unfold maxLen; omega, b, o, fun _ => hb, fun _ => rfl, fun j hj => by
    rw [hsrc j (by omega), List.getD_eq_getElem?_getD, List.getElem?_append_left hj, ← List.getD_eq_getElem?_getD]⟩
  have KX := hid (fun (w' : World) (B : Below w.heap.size w w') => sum_any w' xs h8x (some ⟨b, o, none⟩) cap (hX.below B (Nat.le_refl _)))
  have KB := hid (fun (w' : World) => sb_any w' (sumF xs) lx)
  have KG := hid (fun (w' : World) (B : Below w.heap.size w w') => show w'.cell? ⟨b, o + xs.length, none⟩ = some (.int .u8 y0) ∧ w'.cell? ⟨b, o + xs.length + 1, none⟩ = some (.int .u8 y1) ∧ w'.cell? ⟨b, o + xs.length + 2, none⟩ = some (.int .u8 y2) ∧ w'.cell? ⟨b, o + xs.length + 3, none⟩ = some (.int .u8 y3) from
    ⟨(B.cell (p := ⟨b, o + xs.length, none⟩) hb).trans c0, (B.cell (p := ⟨b, o + xs.length + 1, none⟩) hb).trans c1, (B.cell (p := ⟨b, o + xs.length + 2, none⟩) hb).trans c2, (B.cell (p := ⟨b, o + xs.length + 3, none⟩) hb).trans c3⟩)
  have q : ∀ w', (Op.equalIn 10000 303 (.agg (ints .u8 (sbF (sumF xs))).toArray) (.agg #[.int .u8 y0, .int .u8 y1, .int .u8 y2, .int .u8 y3])).run Tryz.prog w' = .ok (decide (sbF (sumF xs) = [y0, y1, y2, y3])) w' := fun w' => eqA4 (sbF (sumF xs)) [y0, y1, y2, y3] (sbF_len _) rfl w'
  have g4 := Tryz.guard303
  have hne : ¬ (cap = xs.length) := by omega
  have i4 : (xs.length : Int) ≤ (cap : Int) := by omega
  have i5 : (xs.length : Int) + 4 ≤ (cap : Int) := by omega
  have i6 : xs.length ≤ cap := by omega
  have hat : ∀ w, (Instr.arrayAt 303 (.slice (some ⟨b, o + xs.length, none⟩) 4 (cap - xs.length))).run Tryz.prog w = .ok (.pointer (some ⟨b, o + xs.length, none⟩)) w := fun w => run_arrayAt w 303 _ 4 _ 4 (cap - xs.length) Tryz.underlying303 (Nat.le_refl _)
  have i7 : (xs.length : Int) ≤ (xs.length : Int) + 4 := by omega
  have i8 : (0 : Int) ≤ (xs.length : Int) := by omega
  have i9 : xs.length ≤ xs.length + 4 := by omega
  have hne2 : ¬ (xs.length = cap) := by omega
  have BR := (Below.refl w.heap.size w).drew
  have sc := KG.out _ BR
  have R : ∀ (Z : Prop) [Decidable Z], True := fun _ _ => trivial
  generalize hD : decide (sbF (sumF xs) = [y0, y1, y2, y3]) = D at *
  clear hy hsrc hX hl gj hD R
  go_wp2_with fail
  go_region_held3 (fun w' => w'.cell? ⟨b, o + xs.length, none⟩ = some (.int .u8 y0) ∧ w'.cell? ⟨b, o + xs.length + 1, none⟩ = some (.int .u8 y1) ∧ w'.cell? ⟨b, o + xs.length + 2, none⟩ = some (.int .u8 y2) ∧ w'.cell? ⟨b, o + xs.length + 3, none⟩ = some (.int .u8 y3)) (first | exact ⟨c0, c1, c2, c3⟩ | exact sc | exact sc4 | exact sc5 | assumption) (first | (go_at_call 181; refine (KX.out _ BR).mono ?_; rintro e w4 ⟨rfl, b4⟩; have B4 := BR.trans (b4.mono BR.size); have sc4 := KG.out _ B4) | (go_at_call 180; refine (KB.out _).mono ?_; rintro e w5 ⟨rfl, b5⟩; have B5 := B4.trans (b5.mono B4.size); have sc5 := KG.out _ B5))
  all_goals go_wp2
  all_goals go_ret
  all_goals exact ⟨rfl, B5⟩
end Go.Proofs.YtjpcegjgandnjaaGreatDoor
namespace Go.Proofs.YtjpcegjgandnjaaGreatDoor
set_option linter.unusedVariables false
set_option linter.unusedSimpArgs false

/-! A text of four bytes at the end. -/
theorem split256 (r : Nat) : r = (256 * (r >>> 8)) ^^^ (r % 256) := by
  apply Nat.eq_of_testBit_eq
  intro i
  have e : 256 * (r >>> 8) = 2 ^ 8 * (r >>> 8) := by omega
  have e2 := Nat.testBit_mod_two_pow r 8 i
  rw [show (2 : Nat) ^ 8 = 256 by decide] at e2
  rw [e, Nat.testBit_xor, Nat.testBit_two_pow_mul, e2, Nat.testBit_shiftRight]
  by_cases h : i < 8
  · have h2 : ¬ i ≥ 8 := by omega
    simp [h, h2]
  · have h2 : i ≥ 8 := by omega
    simp [h, h2, show 8 + (i - 8) = i by omega]
theorem step8_256 (m : Nat) : stepN 8 (256 * m) = m := by
  rw [show 256 * m = 2 * (2 * (2 * (2 * (2 * (2 * (2 * (2 * m))))))) by omega]
  simp [stepN, step_even]
/-- The number that bytes make, the lowest first. -/
def le : List Int → Nat
  | [] => 0
  | y :: l => y.toNat + 256 * le l
theorem feed_le (l : List Int) : ∀ (h : Byts l) r, feed r l = stepN (8 * l.length) (r ^^^ le l) := by
  induction l with
  | nil => intro _ r; simp [feed, le, stepN]
  | cons y l ih =>
    intro h r
    have hy := h y (by simp)
    rw [feed, ih (fun x hx => h x (by simp [hx])), le]
    have e : y.toNat + 256 * le l = 256 * le l ^^^ y.toNat := by
      have := split256 (y.toNat + 256 * le l)
      rw [Nat.shiftRight_eq_div_pow, show (y.toNat + 256 * le l) / 2 ^ 8 = le l by omega, show (y.toNat + 256 * le l) % 256 = y.toNat by omega] at this
      exact this
    rw [e, show 8 * (y :: l).length = 8 + 8 * l.length by simp; omega, stepN_add]
    congr 1
    conv => lhs; rw [← step8_256 (le l)]
    rw [← stepN_xor]
    congr 1
    rw [Nat.xor_assoc, Nat.xor_comm y.toNat]
def CR : Nat := stepN 32 ones
theorem ones_lt : ones < 4294967296 := Nat.lt_succ_self _
theorem xor_ones {a b c : Nat} : a ^^^ b = c ↔ c ^^^ a = b := by
  constructor
  · intro h; rw [← h, Nat.xor_comm a b, Nat.xor_assoc, Nat.xor_self, Nat.xor_zero]
  · intro h; rw [← h, Nat.xor_comm, Nat.xor_assoc, Nat.xor_self, Nat.xor_zero]
theorem xz (o : Nat) : o ^^^ 0 = o := Nat.xor_zero o
theorem inv_zero : inv 0 = ones := by rw [inv, xz]
theorem sumF_feed (l : List Int) : sumF l = ones ^^^ feed ones l := by
  rw [sumF, updF, inv_zero, inv]
theorem whole_iff (xs : List Int) (y0 y1 y2 y3 : Int) (hx : Byts xs) (hy : Byts [y0, y1, y2, y3]) :
    feed ones (xs ++ [y0, y1, y2, y3]) = CR ↔ sumF xs = le [y0, y1, y2, y3] := by
  have h0 := hy y0 (by simp)
  have h1 := hy y1 (by simp)
  have h2 := hy y2 (by simp)
  have h3 := hy y3 (by simp)
  have hl : le [y0, y1, y2, y3] < 4294967296 := by simp only [le]; omega
  rw [feed_append, feed_le _ hy, sumF_feed]
  have hf := feed_lt xs hx ones ones_lt
  generalize feed ones xs = R at *
  generalize le [y0, y1, y2, y3] = V at *
  rw [show 8 * [y0, y1, y2, y3].length = 32 by rfl]
  rw [← xor_ones]
  constructor
  · intro h; exact stepN_inj 32 _ _ (xor_lt hf hl) ones_lt h
  · intro h; rw [h]; rfl

/-- A register with one bit, n bits ago. -/
def vb (n : Nat) : Nat := stepN n 1
end Go.Proofs.YtjpcegjgandnjaaGreatDoor
namespace Go.Proofs.YtjpcegjgandnjaaGreatDoor
set_option linter.unusedVariables false
set_option linter.unusedSimpArgs false
open Go.RowKit
attribute [local go_sem ↓] Go.wp_at_zero Go.wp_at_succ

/-- A list of bytes that lies in block g, from its beginning. -/
def In (w : World) (g : Nat) (rest : List Value) (os : List Int) : Prop := w.heap[g]? = some (.cells (ints .u8 os ++ rest).toArray 5 (0, 0))
theorem In.cell {w : World} {g : Nat} {rest : List Value} {os : List Int} (h : In w g rest os) (j : Nat) (hj : j < os.length) : w.cell? ⟨g, j, none⟩ = some (.int .u8 (os.getD j 0)) := by
  rw [cell_of_row _ _ _ _ _ _ h]
  have hg2 := ints_get .u8 os j hj
  simp only [List.getElem?_toArray]
  rw [List.getElem?_append_left (by rw [ints_len]; exact hj), hg2]
theorem In.set {w : World} {g : Nat} {rest : List Value} {os : List Int} (h : In w g rest os) (j : Nat) (x : Int) (hj : j < os.length) : In (w.setCell ⟨g, j, none⟩ (.int .u8 x)) g rest (os.set j x) := by
  unfold In
  rw [setCell_eq_setRow w g _ _ _ _ _ h, setRow_heap _ _ _ _ _ _ h]
  congr 2
  simp only [List.setIfInBounds_toArray]
  rw [List.set_append_left _ _ (by rw [ints_len]; exact hj)]
  simp [ints, List.map_set]
theorem In.src {w : World} {g : Nat} {rest : List Value} {os : List Int} (h : In w g rest os) (cap : Nat) (hc : os.length ≤ cap) (hm : cap ≤ maxLen) : Src w (some ⟨g, 0, none⟩) cap os :=
  ⟨hc, hm, g, 0, fun _ => hlt h, fun _ => rfl, fun j hj => by rw [Nat.zero_add]; exact h.cell j hj⟩
theorem Keeps.setCell {g : Nat} {a b : World} (h : Keeps g a b) (j : Nat) (v : Value) : Keeps g a (b.setCell ⟨g, j, none⟩ v) :=
  ⟨h.os, h.tape, h.output, by rw [World.size_setCell]; exact h.size, fun k hk hne => by rw [heap_setCell_other _ _ _ _ hne]; exact h.block k hk hne⟩
theorem le_sb (s : Nat) (hs : s < 4294967296) : le (sbF s) = s := by simp only [sbF, le]; omega
theorem seal_CR (zs : List Int) (h : Byts zs) : feed ones (sealF zs) = CR := by
  have hs := sumF_lt h
  have h1 := sbF_byts (sumF zs)
  have := (whole_iff zs _ _ _ _ h h1).2 (le_sb _ hs).symm
  exact this
theorem four_of {ys : List Int} (hy : ys.length = 4) : ∃ y0 y1 y2 y3, ys = [y0, y1, y2, y3] := by
  match ys, hy with
  | [y0, y1, y2, y3], _ => exact ⟨y0, y1, y2, y3, rfl⟩
theorem whole_D (xs ys : List Int) (h8 : Byts (xs ++ ys)) (hy : ys.length = 4) : decide (sbF (sumF xs) = ys) = decide (feed ones (xs ++ ys) = CR) := by
  obtain ⟨y0, y1, y2, y3, rfl⟩ := four_of hy
  have hx : Byts xs := fun x hx => h8 x (List.mem_append_left _ hx)
  have hyb : Byts [y0, y1, y2, y3] := fun x hx => h8 x (List.mem_append_right _ hx)
  have hw := whole_iff xs y0 y1 y2 y3 hx hyb
  have hs := sumF_lt hx
  have h0 := hyb y0 (by simp)
  have h1 := hyb y1 (by simp)
  have h2 := hyb y2 (by simp)
  have h3 := hyb y3 (by simp)
  rw [decide_eq_decide, hw]
  constructor
  · intro h; rw [← h, le_sb _ hs]
  · intro h
    rw [h]
    simp only [sbF, le, List.cons.injEq, and_true]
    omega
theorem whole_L (w : World) (L : List Int) (h8 : Byts L) (h4 : 4 ≤ L.length) (sp : Option Addr) (cap : Nat) (hS : Src w sp cap L) :
    Calls Tryz.prog 147 #[.slice sp L.length cap] w fun e w' => e = .returned (.bool (decide (feed ones L = CR))) ∧ Below w.heap.size w w' := by
  have e := List.take_append_drop (L.length - 4) L
  have hy : (L.drop (L.length - 4)).length = 4 := by rw [List.length_drop]; omega
  have hl : (L.take (L.length - 4)).length + 4 = L.length := by rw [List.length_take]; omega
  have := whole_any w (L.take (L.length - 4)) (L.drop (L.length - 4)) (by rw [e]; exact h8) hy sp cap (by rw [e]; exact hS)
  rw [whole_D _ _ (by rw [e]; exact h8) hy, e, hl] at this
  exact this
end Go.Proofs.YtjpcegjgandnjaaGreatDoor
namespace Go.Proofs.YtjpcegjgandnjaaGreatDoor
set_option linter.unusedVariables false
set_option linter.unusedSimpArgs false
open Go.RowKit

/-! Numbers as bytes. -/
/-- The bytes of a number, the lowest first. -/
def num (v : Int) : Nat → List Int
  | 0 => []
  | n + 1 => v % 256 :: num (v / 256) n
theorem num_len (v : Int) (n : Nat) : (num v n).length = n := by
  induction n generalizing v with
  | zero => rfl
  | succ n ih => simp [num, ih]
theorem num_byts (v : Int) (n : Nat) : Byts (num v n) := by
  induction n generalizing v with
  | zero => intro x hx; simp [num] at hx
  | succ n ih =>
    intro x hx
    rcases List.mem_cons.1 hx with rfl | h
    · omega
    · exact ih _ x h
theorem num_snoc (v : Int) (hv : 0 ≤ v) (n : Nat) : num v (n + 1) = num v n ++ [v / 256 ^ n % 256] := by
  induction n generalizing v with
  | zero => simp [num]
  | succ n ih =>
    rw [num, ih (v / 256) (Int.ediv_nonneg hv (by decide)), num, List.cons_append, Int.ediv_ediv_of_nonneg (by decide), Int.pow_succ, Int.mul_comm]
theorem le_num (v : Nat) (n : Nat) (h : v < 256 ^ n) : le (num (v : Int) n) = v := by
  induction n generalizing v with
  | zero => simp [num, le]; omega
  | succ n ih =>
    have e : (v : Int) / 256 = ((v / 256 : Nat) : Int) := by omega
    rw [num, le, e, ih (v / 256) (by rw [Nat.pow_succ] at h; omega)]
    omega
theorem le_lt (l : List Int) (h : Byts l) : le l < 256 ^ l.length := by
  induction l with
  | nil => simp [le]
  | cons y l ih =>
    have h1 := h y (by simp)
    have h2 := ih (fun x hx => h x (by simp [hx]))
    rw [le, List.length_cons, Nat.pow_succ]
    omega
theorem le_snoc (l : List Int) (x : Int) : le (l ++ [x]) = le l + x.toNat * 256 ^ l.length := by
  induction l with
  | nil => simp [le]
  | cons y l ih => rw [List.cons_append, le, le, ih, List.length_cons, Nat.pow_succ]; rw [Nat.mul_add, Nat.mul_comm (256 ^ l.length) 256, Nat.mul_left_comm, Nat.add_assoc]

/-! A page. -/
def bodyP (k p : Int) (l : List Int) : List Int := [k, (l.length : Int)] ++ num p 4 ++ l ++ List.replicate (246 - l.length) 0
theorem bodyP_len (k p : Int) (l : List Int) (h : l.length ≤ 246) : (bodyP k p l).length = 252 := by simp [bodyP, num_len]; omega
theorem rep_byts (n : Nat) : Byts (List.replicate n 0) := fun x hx => by rw [List.eq_of_mem_replicate hx]; decide
theorem byts_app {a b : List Int} (ha : Byts a) (hb : Byts b) : Byts (a ++ b) := fun x hx => by
  rcases List.mem_append.1 hx with h | h
  · exact ha x h
  · exact hb x h
theorem bodyP_byts (k p : Int) (l : List Int) (hk : 0 ≤ k ∧ k < 256) (h : l.length ≤ 246) (h8 : Byts l) : Byts (bodyP k p l) := by
  refine byts_app (byts_app (byts_app ?_ (num_byts _ _)) h8) (rep_byts _)
  intro x hx
  simp at hx
  omega
def pageP (k p : Int) (l : List Int) : List Int := sealF (bodyP k p l)
theorem pageP_len (k p : Int) (l : List Int) (h : l.length ≤ 246) : (pageP k p l).length = 256 := by rw [pageP, sealF_len, bodyP_len k p l h]
def kindOk (k : Int) : Bool := decide (1 ≤ k) && decide (k ≤ 3)
def placeOk (p : Int) : Bool := decide (2 ≤ p) && decide (p < 4096)
theorem kindOk_iff (k : Int) : kindOk k = true ↔ 1 ≤ k ∧ k ≤ 3 := by simp [kindOk]
theorem placeOk_iff (p : Int) : placeOk p = true ↔ 2 ≤ p ∧ p < 4096 := by simp [placeOk]
/-- What Unpack answers. -/
def unpackF (p : Int) (r : List Int) : Int × List Int × Int :=
  if placeOk p = false then (0, [], 54) else if r.length ≠ 256 then (0, [], 53) else if feed ones r ≠ CR then (0, [], 52)
  else if kindOk (r.getD 0 0) = false then (0, [], 50) else if 246 < r.getD 1 0 then (0, [], 51)
  else if (le ((r.drop 2).take 4) : Int) ≠ p then (0, [], 54)
  else if (r.drop (6 + (r.getD 1 0).toNat)).take (246 - (r.getD 1 0).toNat) ≠ List.replicate (246 - (r.getD 1 0).toNat) 0 then (0, [], 53)
  else (r.getD 0 0, (r.drop 6).take (r.getD 1 0).toNat, 0)
theorem bodyP_parts (k p : Int) (l : List Int) (h : l.length ≤ 246) (s : List Int) (hs : s.length = 4) :
    (bodyP k p l ++ s).getD 0 0 = k ∧ (bodyP k p l ++ s).getD 1 0 = (l.length : Int) ∧ ((bodyP k p l ++ s).drop 2).take 4 = num p 4
    ∧ ((bodyP k p l ++ s).drop (6 + l.length)).take (246 - l.length) = List.replicate (246 - l.length) 0 ∧ ((bodyP k p l ++ s).drop 6).take l.length = l := by
  have h4 := num_len p 4
  refine ⟨by simp [bodyP], by simp [bodyP], ?_, ?_, ?_⟩
  · simp only [bodyP, List.append_assoc, List.cons_append, List.nil_append]
    rw [List.drop_succ_cons, List.drop_succ_cons, List.drop_zero, List.take_left' h4]
  · simp only [bodyP]
    rw [show (([k, (l.length : Int)] ++ num p 4 ++ l ++ List.replicate (246 - l.length) 0) ++ s) = (([k, (l.length : Int)] ++ num p 4 ++ l) ++ (List.replicate (246 - l.length) 0 ++ s)) by simp [List.append_assoc]]
    rw [List.drop_left' (by simp [h4]; omega), List.take_left' (by simp)]
  · simp only [bodyP]
    rw [show (([k, (l.length : Int)] ++ num p 4 ++ l ++ List.replicate (246 - l.length) 0) ++ s) = (([k, (l.length : Int)] ++ num p 4) ++ (l ++ (List.replicate (246 - l.length) 0 ++ s))) by simp [List.append_assoc]]
    rw [List.drop_left' (by simp [h4]), List.take_left' rfl]
theorem unpack_page (k p q : Int) (l : List Int) (hk : kindOk k = true) (hp : placeOk p = true) (h : l.length ≤ 246) (h8 : Byts l) :
    unpackF q (pageP k p l) = if q = p then (k, l, 0) else (0, [], 54) := by
  have hk' := (kindOk_iff k).1 hk
  have hp' := (placeOk_iff p).1 hp
  obtain ⟨a1, a2, a3, a4, a5⟩ := bodyP_parts k p l h _ (sbF_len (sumF (bodyP k p l)))
  have hC := seal_CR (bodyP k p l) (bodyP_byts k p l (by omega) h h8)
  have hlen := pageP_len k p l h
  have hle : (le (num p 4) : Int) = p := by
    obtain ⟨n, rfl⟩ := Int.eq_ofNat_of_zero_le (show 0 ≤ p by omega)
    rw [le_num n 4 (by omega)]
  unfold unpackF
  by_cases hq : placeOk q = true
  · rw [if_neg (by simp [hq]), if_neg (by simp [hlen])]
    unfold pageP sealF at *
    rw [if_neg (by simp [hC]), a1, a2, if_neg (by simp [hk]), if_neg (by omega), a3, hle, Int.toNat_natCast, a4, a5]
    by_cases e : q = p
    · subst e; simp
    · rw [if_pos (fun h => e h.symm), if_neg e]
  · have : placeOk q = false := by simpa using hq
    rw [if_pos this, if_neg (fun e => by rw [e, hp] at this; cases this)]
theorem unpack_sum (p : Int) (r : List Int) (hp : placeOk p = true) (h : r.length = 256) (hC : feed ones r ≠ CR) : unpackF p r = (0, [], 52) := by
  unfold unpackF
  rw [if_neg (by simp [hp]), if_neg (by simp [h]), if_pos hC]
end Go.Proofs.YtjpcegjgandnjaaGreatDoor
