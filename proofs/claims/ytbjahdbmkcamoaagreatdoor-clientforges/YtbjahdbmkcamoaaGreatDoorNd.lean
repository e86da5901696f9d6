import Derived.Test.YtbjahdbmkcamoaaGreatDoorXb9
import Derived.Test.YtbjahdbmkcamoaaGreatDoorVf9
namespace Go.Proofs.YtbjahdbmkcamoaaGreatDoor
set_option linter.unusedVariables false
set_option linter.unusedSimpArgs false
open Go.RowKit
attribute [local go_sem ↓] Go.wp_at_zero Go.wp_at_succ

set_option maxRecDepth 100000 in
set_option maxHeartbeats 1000000 in
theorem xbit_any (w : World) (k : List Int) (hk : k.length = 32) (hb : Byts k) (i : Nat) (hi : i < 256) :
    Calls Tryz.prog 61 #[.agg (ints .u8 k).toArray, .int .i64 i] w fun e w' => e = .returned (.int .i64 (bitK k i)) ∧ Below w.heap.size w w' := by
  have i1 : (i : Int) < 256 := by omega
  have hx := hb.get (i / 8)
  have c0 : (w.alloc (.cells (ints .u8 k).toArray 24)).cell? ⟨w.heap.size, i / 8, none⟩ = some (.int .u8 (k.getD (i / 8) 0)) := cell_ints (hnew w _) (i / 8) (by omega)
  have hB := (Below.refl w.heap.size w).alloc (Nat.le_refl _) (.cells (ints .u8 k).toArray 24)
  have HK := hid (show bitK k i = k.getD (i / 8) 0 / 2 ^ (7 - i % 8) % 2 from rfl)
  rw [HK.out]
  clear HK
  generalize k.getD (i / 8) 0 = x at *
  obtain ⟨x, rfl⟩ := Int.eq_ofNat_of_zero_le hx.1
  have i2 : (x : Int) ≤ 255 := by omega
  go_enter Tryz.func61, Tryz.ntmps61
  go_wp2
  generalize w.alloc (.cells (ints .u8 k).toArray 24) = w1 at *
  go_loopw [5, 6] (fun v jv wr => w1 = wr ∧ ∃ t : Nat, i % 8 + t ≤ 7 ∧ v = .int .i64 ((x / 2 ^ t : Nat) : Int) ∧ jv = .int .i64 ((i % 8 + t : Nat) : Int)) (fun _ jv _ => 7 - (intOf jv).toNat)
  case atStart => exact ⟨rfl, 0, by omega, by simp, by simp⟩
  case round =>
    obtain ⟨rfl, t, ht, rfl, rfl⟩ := hrel
    have hle : x / 2 ^ t ≤ 255 := Nat.le_trans (Nat.div_le_self _ _) (by omega)
    by_cases hlt' : i % 8 + t < 7
    · have HT := hid (show x / 2 ^ (t + 1) = x / 2 ^ t / 2 by rw [Nat.pow_succ, Nat.div_div_eq_div_mul])
      generalize hy : x / 2 ^ t = y at *
      generalize hq : i % 8 + t = q at *
      have HY := hid hy
      have HQ := hid hq
      clear hy hq
      have i3 : (q : Int) < 7 := by omega
      have i4 : (y : Int) ≤ 255 := by omega
      clear c0 i1 hi
      go_wp2
      go_roundw
      case rel => exact ⟨trivial, t + 1, by have := HQ.out; omega, by rw [HT.out]; simp, by have := HQ.out; rw [show i % 8 + (t + 1) = q + 1 by omega]; go_num⟩
      case measure => simp [intOf]; omega
    · have e7 : 7 - i % 8 = t := by omega
      rw [show x / 2 ^ t = x / 2 ^ (7 - i % 8) by rw [e7]]
      have HR := hid (show ((x : Int) / 2 ^ (7 - i % 8) % 2) = (((x / 2 ^ (7 - i % 8)) % 2 : Nat) : Int) by simp)
      rw [e7] at HR ⊢
      generalize hy : x / 2 ^ t = y at *
      generalize hq : i % 8 + t = q at *
      have i3 : ¬ ((q : Int) < 7) := by omega
      have i4 : (y : Int) ≤ 255 := by omega
      clear c0 i1 hi hy hq hlt'
      go_wp2
      go_ret
      exact ⟨by rw [HR.out]; simp, hB⟩
end Go.Proofs.YtbjahdbmkcamoaaGreatDoor
namespace Go.Proofs.YtbjahdbmkcamoaaGreatDoor
set_option linter.unusedVariables false
set_option linter.unusedSimpArgs false
open Go.RowKit
attribute [local go_sem ↓] Go.wp_at_zero Go.wp_at_succ

theorem list32bq {l : List Value} (h : l.length = 32) : ∃ x0 x1 x2 x3 x4 x5 x6 x7 x8 x9 x10 x11 x12 x13 x14 x15 x16 x17 x18 x19 x20 x21 x22 x23 x24 x25 x26 x27 x28 x29 x30 x31, l = [x0, x1, x2, x3, x4, x5, x6, x7, x8, x9, x10, x11, x12, x13, x14, x15, x16, x17, x18, x19, x20, x21, x22, x23, x24, x25, x26, x27, x28, x29, x30, x31] := by
  match l, h with
  | [x0, x1, x2, x3, x4, x5, x6, x7, x8, x9, x10, x11, x12, x13, x14, x15, x16, x17, x18, x19, x20, x21, x22, x23, x24, x25, x26, x27, x28, x29, x30, x31], _ => exact ⟨x0, x1, x2, x3, x4, x5, x6, x7, x8, x9, x10, x11, x12, x13, x14, x15, x16, x17, x18, x19, x20, x21, x22, x23, x24, x25, x26, x27, x28, x29, x30, x31, rfl⟩
theorem slice_digq (ks : List Value) (hk : ks.length = 32) (w : World) :
    (Instr.buildSlice 48 1 #[(0, .agg ks.toArray)]).run Tryz.prog w = .ok (.slice (some ⟨w.heap.size, 0, none⟩) 1 1) (w.alloc (.cells ks.toArray 28)) := by
  obtain ⟨x0, x1, x2, x3, x4, x5, x6, x7, x8, x9, x10, x11, x12, x13, x14, x15, x16, x17, x18, x19, x20, x21, x22, x23, x24, x25, x26, x27, x28, x29, x30, x31, rfl⟩ := list32bq hk
  kernel_rfl
theorem wpList_sliceDq {w : World} {ops : Array Oper} {rest : List Oper} {o : Oper} {a : Act} {Q : Exit → Act → World → Prop} (hg : o.guard = none) (x : Operand) (ho : o.op = .buildSlice 48 1 #[(0, x)])
    (ks : List Value) (hk : ks.length = 32) (hx : a.eval x = .agg ks.toArray) (h : wpList Tryz.prog ops Q rest (a.put o.dst (.slice (some ⟨w.heap.size, 0, none⟩) 1 1)) (w.alloc (.cells ks.toArray 28))) :
    wpList Tryz.prog ops Q (o :: rest) a w := by
  refine wpList_plain hg fun K hK => ?_
  unfold Oper.wp execOp
  simp only [ho, List.map_toArray, List.map_cons, List.map_nil, hx, Sem.run_bind, slice_digq ks hk w, Result.andThen_ok, Sem.run_pure]
  exact hK _ _ h
theorem infoDmq : (Tryz.prog.info? 28).map (fun i => (i.zero.map fun z => z.cells.size, i.size, i.bytes)) = some (some 32, 32, 32) := by kernel_rfl
theorem infoDq : ∃ i z, Tryz.prog.info? 28 = some i ∧ i.zero = some z ∧ z.cells.size = 32 ∧ i.size = 32 ∧ i.bytes = 32 := by
  have h := infoDmq
  cases hq : Tryz.prog.info? 28 with
  | none => rw [hq] at h; cases h
  | some i =>
    rw [hq] at h
    simp only [Option.map_some, Option.some.injEq, Prod.mk.injEq] at h
    obtain ⟨h1, h2, h3⟩ := h
    cases hz : i.zero with
    | none => rw [hz] at h1; cases h1
    | some z =>
      rw [hz] at h1
      simp only [Option.map_some, Option.some.injEq] at h1
      exact ⟨i, z, rfl, hz, h1, h2, h3⟩
theorem ownsRow_heapq {w w1 : World} {base t k n : Nat} {v : Value} {cs : List Value} (h : w.ownsRow base t k v n cs) (hk : ∀ i, v.ownBlock = some i → w1.heap[i]? = w.heap[i]?) : w1.ownsRow base t k v n cs := by
  refine ⟨h.1, ?_⟩
  rcases h.2 with h2 | ⟨g, cap, cur, rfl, hg, hh, r⟩
  · exact Or.inl h2
  · exact Or.inr ⟨g, cap, cur, rfl, hg, (hk g rfl).trans hh, r⟩
theorem ownsRow_blockq {w : World} {base t k n : Nat} {v : Value} {cs : List Value} (h : w.ownsRow base t k v n cs) : ∀ i, v.ownBlock = some i → base ≤ i ∧ ∃ cur, w.heap[i]? = some (.cells cur t (0, 0)) := by
  intro i hi
  rcases h.2 with ⟨rfl, _⟩ | ⟨g, cap, cur, rfl, hg, hh, r⟩
  · simp [Value.ownBlock] at hi
  · simp [Value.ownBlock] at hi; subst hi; exact ⟨hg, cur, hh⟩
theorem ownsRow_formq {w : World} {base t k n : Nat} {v : Value} {cs : List Value} (h : w.ownsRow base t k v n cs) : ∃ sp cap, v = .slice sp n cap := by
  rcases h.2 with ⟨rfl, rfl⟩ | ⟨g, cap, cur, rfl, _⟩
  · exact ⟨none, 0, rfl⟩
  · exact ⟨_, _, rfl⟩
/-- append(own list of digests, one more). -/
theorem wpList_pushDq {w : World} {ops : Array Oper} {rest : List Oper} {o : Oper} {a : Act} {Q : Exit → Act → World → Prop} (hgd : o.guard = none) (s x : Operand)
    (ho : o.op = .call { callee := .builtin .append, args := #[s, x], argTypes := #[48, 48] })
    (base : Nat) (v : Value) (n : Nat) (xs : List Value) (ks : List Value) (hs : a.eval s = v) (hown : w.ownsRow base 28 32 v n xs) (hx : a.eval x = .slice (some ⟨w.heap.size, 0, none⟩) 1 1) (hl : ks.length = 32) (h1 : ∀ y ∈ ks, y.oneCell' = true)
    (hlen : n + 1 ≤ 1000000) (hbase : base ≤ w.heap.size) (t : TypeId) (fr : Nat × Nat)
    (h : ∀ v' w', w'.ownsRow base 28 32 v' (n + 1) (xs ++ ks) → Below base w w' → wpList Tryz.prog ops Q rest (a.put o.dst v') w') :
    wpList Tryz.prog ops Q (o :: rest) a (w.alloc (.cells ks.toArray t fr)) := by
  obtain ⟨i5, z, hi5, hz5, hc5, hs5, hy5⟩ := infoDq
  have hown' : (w.alloc (.cells ks.toArray t fr)).ownsRow base 28 32 v n xs := ownsRow_heapq hown fun k hk => by
    obtain ⟨_, cur, hh⟩ := ownsRow_blockq hown k hk
    rw [hh]; exact hold hh
  refine wpList_append_own_at _ hgd s x 48 ho base 28 i5 z 32 32 Tryz.underlying48 hi5 hz5 hs5 hy5 hc5 (by decide) v n _ hs hown' ⟨w.heap.size, 0, none⟩ 1 1 ks hx (by omega) ?_ h1 (by unfold maxLen; omega) (by omega) (by simp; omega) ?_
  · intro j u hu
    rw [Addr.add_mid, Nat.zero_add, cell_of_row _ _ _ _ _ _ (hnew w _)]
    simpa using hu
  · intro v' w' q1 q2 _ q4
    exact h v' w' q1 (((Below.refl base w).alloc hbase _).trans (grown_keeps q2 (fun k hk => (ownsRow_blockq hown k hk).1) (by simp; omega)))
/-- The digests of the empty subtrees, one behind the other. -/
def emC (k : Int) : Nat → List Value
  | 0 => []
  | n + 1 => emC k n ++ ints .u8 (emptyD k n)
theorem emC_len (k : Int) : ∀ n, (emC k n).length = 32 * n
  | 0 => rfl
  | n + 1 => by simp [emC, emC_len k n, ints_len, emptyD_len]; omega
theorem emC_get (k : Int) (i j : Nat) (hj : j < 32) : ∀ n, i < n → (emC k n)[i * 32 + j]? = (ints .u8 (emptyD k i))[j]?
  | n + 1, h => by
    unfold emC
    by_cases hc : i < n
    · rw [List.getElem?_append_left (by rw [emC_len]; omega), emC_get k i j hj n hc]
    · obtain rfl : i = n := by omega
      rw [List.getElem?_append_right (by rw [emC_len]; omega), emC_len, show i * 32 + j - 32 * i = j by omega]
theorem own_digs1 (w : World) (base : Nat) (k : Int) (hb : base ≤ w.heap.size) : (w.alloc (.cells (ints .u8 (emptyD k 0)).toArray 28)).ownsRow base 28 32 (.slice (some ⟨w.heap.size, 0, none⟩) 1 1) 1 (emC k 1) := by
  have hl := emptyD_len k 0
  refine ⟨by rw [emC_len], Or.inr ⟨w.heap.size, 1, (ints .u8 (emptyD k 0)).toArray, rfl, hb, hnew w _, Nat.le_refl _, by simp [maxLen], by rw [ints_size, hl], ?_⟩⟩
  show (ints .u8 (emptyD k 0)).take (1 * 32) = [] ++ ints .u8 (emptyD k 0)
  rw [List.take_of_length_le (by rw [ints_len, hl]; decide), List.nil_append]
theorem row_rng {w : World} {base : Nat} {v : Value} {k : Int} {n : Nat} (h : w.ownsRow base 28 32 v n (emC k n)) (hp : 0 < n) : ∃ g cap, v = .slice (some ⟨g, 0, none⟩) n cap ∧ base ≤ g ∧ g < w.heap.size ∧ ∀ i, i < n → w.rangeAt g (i * 32) (ints .u8 (emptyD k i)) := by
  obtain ⟨h1, ⟨rfl, hn⟩ | ⟨g, cap, cur, rfl, hg, hh, hc, hm, hs, ht⟩⟩ := h
  · omega
  · refine ⟨g, cap, rfl, hg, hlt hh, fun i hi j u hu => ?_⟩
    have hj : j < 32 := by have := (List.getElem?_eq_some_iff.1 hu).1; rwa [ints_len, emptyD_len] at this
    rw [cell_of_row _ _ _ _ _ _ hh]
    have h3 := emC_get k i j hj n hi
    rw [hu, ← ht, List.getElem?_take, if_pos (by omega)] at h3
    simpa using h3
set_option maxRecDepth 100000 in
set_option maxHeartbeats 2000000 in
theorem xempties_any (w : World) (hG : Gb w) (k : Int) :
    Calls Tryz.prog 16 #[.int .i64 k] w fun e w' => ∃ v, e = .returned v ∧ w'.ownsRow w.heap.size 28 32 v 257 (emC k 257) ∧ Below w.heap.size w w' := by
  have hz32 : z32.length = 32 := rfl
  have hB1 := (Below.refl w.heap.size w).alloc (Nat.le_refl _) (.cells #[.int .u8 2] 5)
  have g1 : (w.alloc (.cells #[.int .u8 2] 5)).heap[w.heap.size]? = some (.cells (ints .u8 ([2] ++ [])).toArray 5) := hnew w _
  go_enter Tryz.func16, Tryz.ntmps16
  go_wp2_with fail
  show Calls Tryz.prog 31 _ (w.alloc (.cells #[.int .u8 2] 5)) _
  generalize w.alloc (.cells #[.int .u8 2] 5) = w1 at *
  have hS1 : Src w1 (some ⟨w.heap.size, 0, none⟩) 1 [2] := src_row g1 1 (by simp) (by simp [maxLen])
  refine (xcut_any w1 (hG.keep hB1) k [2] (emptyD k 0) _ 1 hS1 (fun h => by cases h) (by simp) rfl).mono ?_
  rintro e w3 ⟨rfl, hB3⟩
  have hcl := emptyD_len k 0
  have hB3' := hB1.trans (hB3.mono hB1.size)
  have r3 := hnew w3 (.cells (ints .u8 (emptyD k 0)).toArray 28)
  have r4 := hold (o := .cells (ints .u8 (emptyD k 0)).toArray 28) r3
  have hB4 := (hB3'.alloc hB3'.size (.cells (ints .u8 (emptyD k 0)).toArray 28)).alloc (by simp; have := hB3'.size; omega) (.cells (ints .u8 (emptyD k 0)).toArray 28)
  have hs3 := hB3'.size
  have hO4 := own_digs1 (w3.alloc (.cells (ints .u8 (emptyD k 0)).toArray 28)) (w3.heap.size + 1) k (by simp)
  rw [show (w3.alloc (.cells (ints .u8 (emptyD k 0)).toArray 28)).heap.size = w3.heap.size + 1 by simp] at hO4
  clear hS1 g1 hB3 hB1 hB3'
  go_wp2_with (first | (refine wpList_store_row rfl 28 _ _ rfl _ _ rfl rfl 28 _ (by exact hnew _ (.cells (ints .u8 z32).toArray 28)) (by rw [Tryz.size28, ints_size, hcl]) (by rw [ints_size, ints_size, hcl]; rfl) (all_oneCell_toArray (ints_one .u8 _)) ?_; rw [setRow_alloc]) | refine wpList_load_row rfl 28 _ rfl _ rfl 28 _ _ _ r3 Tryz.underlying28 rfl (by rw [ints_size, hcl]; rfl) ?_ | refine wpList_sliceDq rfl _ rfl (ints .u8 (emptyD k 0)) (by rw [ints_len, hcl]) rfl ?_)
  generalize (w3.alloc (.cells (ints .u8 (emptyD k 0)).toArray 28)).alloc (.cells (ints .u8 (emptyD k 0)).toArray 28) = w5 at *
  generalize w3.heap.size = E at *
  go_loopw [4, 5] (fun v iv wr => ∃ j : Nat, j ≤ 256 ∧ iv = .int .i64 j ∧ wr.ownsRow (E + 1) 28 32 v (j + 1) (emC k (j + 1)) ∧ wr.heap[E]? = some (.cells (ints .u8 (emptyD k j)).toArray 28) ∧ Below w.heap.size w wr) (fun _ iv _ => 256 - (intOf iv).toNat)
  case atStart => exact ⟨0, by omega, rfl, hO4, r4, hB4⟩
  case round =>
    clear hO4 r4 hB4 r3 hcl
    obtain ⟨j, hj, rfl, hO, r, hB⟩ := hrel
    have hcl := emptyD_len k j
    by_cases hlt' : j < 256
    · have i1 : (j : Int) < 256 := by omega
      have hcl2 := emptyD_len k (j + 1)
      have KB := hid (xbranch_to wr (hG.keep hB) k (emptyD k j) (emptyD k j) (emptyD k (j + 1)) hcl hcl rfl)
      have HE := hid (show emC k (j + 1 + 1) = emC k (j + 1) ++ ints .u8 (emptyD k (j + 1)) from rfl)
      generalize hD2 : emptyD k (j + 1) = D2 at *
      have HD2 := hid hD2
      clear hD2
      generalize emptyD k j = D1 at *
      obtain ⟨spv, capv, rfl⟩ := ownsRow_formq hO
      go_wp2_with (first | refine wpList_load_row rfl 28 _ rfl _ rfl 28 _ _ _ r Tryz.underlying28 rfl (by rw [ints_size, hcl]; rfl) ?_)
      refine KB.out.mono ?_
      rintro e w7 ⟨rfl, hB7⟩
      have r7 := hbel hB7 r (hlt r)
      have hB7' := hB.trans (hB7.mono hB.size)
      have hO7 := ownsRow_heapq (w1 := w7) hO fun q hq => hB7.block q (by obtain ⟨_, cur, hh⟩ := ownsRow_blockq hO q hq; exact hlt hh)
      have hO8 := ownsRow_heapq (w1 := w7.setRow E (ints .u8 D2).toArray) hO7 fun q hq => setRow_other _ _ _ _ (by have := (ownsRow_blockq hO7 q hq).1; omega)
      have r8 := dig_set (E := D2) r7
      have hB8 := below_setRow hB7' hs3 (ints .u8 D2).toArray
      have hE8 : E + 1 ≤ (w7.setRow E (ints .u8 D2).toArray).heap.size := hlt r8
      clear KB hB7 r hO hO7 hB
      go_wp2_with (first | refine wpList_store_row rfl 28 _ _ rfl _ _ rfl rfl 28 _ r7 (by rw [Tryz.size28, ints_size, hcl2]) (by rw [ints_size, ints_size, hcl2, hcl]) (all_oneCell_toArray (ints_one .u8 _)) ?_ | refine wpList_load_row rfl 28 _ rfl _ rfl 28 _ _ _ r8 Tryz.underlying28 rfl (by rw [ints_size, hcl2]; rfl) ?_ | refine wpList_sliceDq rfl _ rfl (ints .u8 D2) (by rw [ints_len, hcl2]) rfl ?_ | (at_builtin; refine wpList_pushDq rfl (.tmp 19) (.tmp 21) rfl (E + 1) _ _ _ (ints .u8 D2) rfl hO8 rfl (by rw [ints_len, hcl2]) (ints_one _ _) (by omega) hE8 _ _ ?_; intro v2 w2 hO2 hB2))
      go_roundw
      case rel => exact ⟨j + 1, by omega, by go_num, by rw [HE.out]; exact hO2, by rw [HD2.out]; exact hbel hB2 r8 (by omega), hB8.trans (hB2.mono (by omega))⟩
      case measure => simp [intOf]; omega
    · obtain rfl : j = 256 := by omega
      clear hlt'
      obtain ⟨spv, capv, rfl⟩ := ownsRow_formq hO
      go_wp2
      go_ret
      refine ⟨_, rfl, ?_, hB⟩
      refine ⟨hO.1, ?_⟩
      rcases hO.2 with h2 | ⟨g, cap, cur, e, hg, q⟩
      · exact Or.inl h2
      · exact Or.inr ⟨g, cap, cur, e, by omega, q⟩
end Go.Proofs.YtbjahdbmkcamoaaGreatDoor
namespace Go.Proofs.YtbjahdbmkcamoaaGreatDoor
set_option linter.unusedVariables false
set_option linter.unusedSimpArgs false
open Go.RowKit
attribute [local go_sem ↓] Go.wp_at_zero Go.wp_at_succ

theorem rng_set {w : World} {g b o : Nat} {cs : List Value} {xs : Array Value} (h : w.rangeAt g o cs) (hne : g ≠ b) : (w.setRow b xs).rangeAt g o cs := fun j u hu => by
  have h1 := h j u hu
  unfold World.cell? at h1 ⊢
  rw [setRow_other _ _ _ _ hne]; exact h1
set_option maxRecDepth 100000 in
set_option maxHeartbeats 4000000 in
theorem xclimbWith_any (w : World) (hG : Gb w) (k : Int) (ks : List Int) (hk : ks.length = 32) (hby : Byts ks) (fr tt : Int) (ds : List Int) (hd : ds.length = 32) (ge ce : Nat) (hgw : ge < w.heap.size) (hR : ∀ i, i < 257 → w.rangeAt ge (i * 32) (ints .u8 (emptyD k i))) :
    Calls Tryz.prog 34 #[.slice (some ⟨ge, 0, none⟩) 257 ce, .int .i64 k, .agg (ints .u8 ks).toArray, .int .i64 fr, .agg (ints .u8 ds).toArray, .int .i64 tt] w fun e w' => e = .returned (.agg (ints .u8 (climbTo k ks (hgt fr) (cutZ ds (kept k)) (hgt tt - hgt fr))).toArray) ∧ Below w.heap.size w w' := by
  have d0 := (((DR.nil w).alloc ks 24).alloc ds 28).alloc z32 28
  rw [show ((w.alloc (.cells (ints .u8 ks).toArray 24)).alloc (.cells (ints .u8 ds).toArray 28)).heap.size = w.heap.size + 1 + 1 by simp, show (w.alloc (.cells (ints .u8 ks).toArray 24)).heap.size = w.heap.size + 1 by simp] at d0
  have d1 : DR w (((w.alloc (.cells (ints .u8 ks).toArray 24)).alloc (.cells (ints .u8 ds).toArray 28)).alloc (.cells (ints .u8 z32).toArray 28)) [(w.heap.size + 1, ds, 28), (w.heap.size + 1 + 1, z32, 28), (w.heap.size, ks, 24)] := ⟨d0.1, fun x hx => d0.2 x (by simp at hx ⊢; rcases hx with rfl | rfl | rfl <;> simp)⟩
  clear d0
  have hz32 : z32.length = 32 := rfl
  have KF := hid (fun w1 => xwithin_any fr 0 256 (by decide) w1)
  have KT := hid (fun w1 => xwithin_any tt 0 256 (by decide) w1)
  rw [show min (max fr 0) 256 = ((hgt fr : Nat) : Int) by unfold hgt; omega] at KF
  rw [show min (max tt 0) 256 = ((hgt tt : Nat) : Int) by unfold hgt; omega] at KT
  have ha := hgt_le fr
  have hc := hgt_le tt
  have KU := hid (fun w1 => rcutD_any ds hd k w1)
  have hcl := cutZ_len ds (kept k) hd
  generalize hgt fr = na at *
  generalize hgt tt = nc at *
  generalize cutZ ds (kept k) = CD at *
  have ia : (na : Int) ≤ 256 := by omega
  have ic : (nc : Int) ≤ 256 := by omega
  have hge : ge ≠ w.heap.size + 1 := by omega
  have hdl : ∀ x, x ∈ [(w.heap.size + 1 + 1, z32, 28), (w.heap.size, ks, 24)] → x.1 ≠ w.heap.size + 1 := fun x hx => by
    simp at hx; rcases hx with rfl | rfl
    · show w.heap.size + 1 + 1 ≠ w.heap.size + 1; omega
    · show w.heap.size ≠ w.heap.size + 1; omega
  go_enter Tryz.func34, Tryz.ntmps34
  have r1 := d1.row (.head _)
  go_wp2_with (first | (go_at_call 60; refine (KF.out _).mono ?_; rintro e w5 ⟨rfl, hw5⟩; obtain rfl := hw5.symm; clear KF) | (go_at_call 60; refine (KT.out _).mono ?_; rintro e w5 ⟨rfl, hw5⟩; obtain rfl := hw5.symm; clear KT) | refine wpList_load_row rfl 28 _ rfl _ rfl 28 _ _ _ r1 Tryz.underlying28 rfl (by rw [ints_size, hd]; rfl) ?_)
  refine (KU.out _).mono ?_
  rintro e w3 ⟨rfl, hB3⟩
  have d2 := d1.call hB3
  have r2 := d2.row (.head _)
  have d3 := d2.set (by omega) hdl CD
  clear d1 hB3 KU r1
  go_wp2_with (first | refine wpList_store_row rfl 28 _ _ rfl _ _ rfl rfl 28 _ r2 (by rw [Tryz.size28, ints_size, hcl]) (by rw [ints_size, ints_size, hcl, hd]) (all_oneCell_toArray (ints_one .u8 _)) ?_)
  generalize w3.setRow (w.heap.size + 1) (ints .u8 CD).toArray = w4 at *
  go_loopw [15] (fun i wr => ∃ j : Nat, (j = 0 ∨ na + j ≤ nc) ∧ i = .int .i64 ((na + j : Nat) : Int) ∧ DR w wr [(w.heap.size + 1, climbTo k ks na CD j, 28), (w.heap.size + 1 + 1, z32, 28), (w.heap.size, ks, 24)]) (fun i _ => nc - (intOf i).toNat)
  case atStart => exact ⟨0, Or.inl rfl, rfl, d3⟩
  case round =>
    clear d2 d3 r2
    obtain ⟨j, hj, rfl, dr⟩ := hrel
    have hX1 := climbTo_len k ks na CD hcl j
    by_cases hlt' : na + j < nc
    · generalize hm : na + j = m at *
      have HM := hid hm
      have i3 : (m : Int) < (nc : Int) := by omega
      have hel := emptyD_len k m
      have KBit := hid (fun w1 => xbit_any w1 ks hk hby (255 - m) (by omega))
      rw [show ((255 - m : Nat) : Int) = 255 - (m : Int) by omega] at KBit
      have hX2 := climbTo_len k ks na CD hcl (j + 1)
      have HS := hid (show climbTo k ks na CD (j + 1) = stepD k ks m (climbTo k ks na CD j) by rw [← hm]; rfl)
      have h01 := bitK_01 ks (255 - m)
      have rk := dr.row (.tail _ (.tail _ (.head _)))
      have hR := hR
      by_cases hb : bitK ks (255 - m) = 0
      · have KS := hid (fun w2 hG2 => xbranch_to w2 hG2 k (climbTo k ks na CD j) (emptyD k m) (climbTo k ks na CD (j + 1)) hX1 hel (by rw [HS.out, stepD, if_pos hb]))
        rw [hb] at KBit
        clear hb h01 HS hm
        have hRm := hR m (by omega)
        replace hR : ∀ i, i < 257 → i = m → w.rangeAt ge (i * 32) (ints .u8 (emptyD k m)) := fun i hi he => by rw [he]; exact hRm
        clear hRm
        generalize hX2e : climbTo k ks na CD (j + 1) = X2 at *
        have HX2 := hid hX2e
        clear hX2e
        generalize climbTo k ks na CD j = X1 at *
        generalize emptyD k m = E1 at *
        go_wp2_with (first | refine wpList_load_row rfl 24 _ rfl _ rfl 24 _ _ _ rk Tryz.underlying24 rfl (by rw [ints_size, hk]; rfl) ?_)
        refine (KBit.out _).mono ?_
        rintro e w7 ⟨rfl, hB7⟩
        replace dr := (dr.call hB7).drew
        clear KBit hB7 rk
        go_wp2
        refine wp_region_noPanic ?_
        refine wp_region_held_drew (S := fun w' => w'.rangeAt ge (m * 32) (ints .u8 E1)) (by kernel_rfl) (rng_below (hR m (by omega) rfl) dr.1 hgw) (fun hHeld => ?_)
        refine wpAnyH_take (i := 0) (oi := { dst := some 36, op := Op.move (Operand.tmp 1), type := 3, pos := "ref.go:113", after := #[], guard := none }) (v := .int .i64 k) rfl (by kernel_rfl) (by kernel_rfl) (by kernel_rfl) (fun _ _ _ h => h) (Or.inl ⟨by rfl, by intro w hS; go_simp⟩) hHeld ?_
        try simp only [Act.put, List.setIfInBounds_toArray, List.set_cons_zero, List.set_cons_succ]
        refine wpAnyH_take (i := 2) (oi := { dst := some 38, op := Op.move (Operand.tmp 0), type := 48, pos := "ref.go:113", after := #[], guard := none }) (v := .slice (some ⟨ge, 0, none⟩) 257 ce) rfl (by kernel_rfl) (by kernel_rfl) (by kernel_rfl) (fun _ _ _ h => h) (Or.inl ⟨by rfl, by intro w hS; go_simp⟩) hHeld ?_
        try simp only [Act.put, List.setIfInBounds_toArray, List.set_cons_zero, List.set_cons_succ]
        refine wpAnyH_take (i := 3) (oi := { dst := some 39, op := Op.move (Operand.tmp 15), type := 3, pos := "ref.go:113", after := #[], guard := none }) (v := .int .i64 m) rfl (by kernel_rfl) (by kernel_rfl) (by kernel_rfl) (fun _ _ _ h => h) (Or.inl ⟨by rfl, by intro w hS; go_simp⟩) hHeld ?_
        try simp only [Act.put, List.setIfInBounds_toArray, List.set_cons_zero, List.set_cons_succ]
        refine wpAnyH_take (i := 4) (oi := { dst := some 40, op := Op.indexAddr 48 (Operand.tmp 38) (Operand.tmp 39), type := 0, pos := "ref.go:113", after := #[{ on := 2, ground := Ground.data }, { on := 3, ground := Ground.data }], guard := none }) (v := .pointer (some ⟨ge, m * 32, none⟩)) rfl (by kernel_rfl) (by kernel_rfl) (by kernel_rfl) (fun _ _ _ h => h) (Or.inl ⟨by rfl, by intro w hS; (go_simp <;> (intro h; exfalso; omega))⟩) hHeld ?_
        try simp only [Act.put, List.setIfInBounds_toArray, List.set_cons_zero, List.set_cons_succ]
        refine wpAnyH_take (i := 5) (oi := { dst := some 41, op := Op.load 28 (Operand.tmp 40), type := 28, pos := "ref.go:113", after := #[{ on := 4, ground := Ground.data }], guard := none }) (v := .agg (ints .u8 E1).toArray) rfl (by kernel_rfl) (by kernel_rfl) (by kernel_rfl) (fun _ _ _ h => h) (yieldsIf_load_mid (by rfl) 28 _ rfl ge (m * 32) rfl (ints .u8 E1) _ (fun w hS => hS) Tryz.underlying28 rfl (by rw [ints_len, hel]; rfl)) hHeld ?_
        try simp only [Act.put, List.setIfInBounds_toArray, List.set_cons_zero, List.set_cons_succ]
        refine wpAnyH_ready (rs := [1]) (by kernel_rfl) (by simp) ?_
        refine (AllReadyH.cons (o := { dst := some 37, op := Op.load 28 (Operand.tmp 10), type := 28, pos := "ref.go:113", after := #[], guard := none }) rfl (fun K hK => ?_) AllReadyH.nil)
        rw [if_pos (by rfl)]
        refine wp_load_mid 28 _ rfl (w.heap.size + 1) 0 rfl (ints .u8 X1) _ (dr.rng (.head _)) Tryz.underlying28 rfl (by rw [ints_len, hX1]; rfl) ?_
        refine hK.out _ _ (hHeld) (fun hHeld2 => ?_)
        clear hK K hHeld
        have hHeld := hHeld2
        clear hHeld2
        try simp only [Act.put, List.setIfInBounds_toArray, List.set_cons_zero, List.set_cons_succ]
        refine wpAnyH_ready (rs := [6]) (by kernel_rfl) (by simp) ?_
        refine (AllReadyH.cons (o := { dst := some 42, op := Op.call { callee := Callee.value (Operand.func 32), args := #[Operand.tmp 36, Operand.tmp 37, Operand.tmp 41], argTypes := #[3, 28, 28] }, type := 28, pos := "ref.go:113", after := #[{ on := 0, ground := Ground.data }, { on := 1, ground := Ground.data }, { on := 5, ground := Ground.data }], guard := none }) rfl (fun K hK => ?_) AllReadyH.nil)
        go_simp
        go_at_call 32
        refine (KS.out _ (hG.keep dr.1)).mono ?_
        rintro e w4 ⟨rfl, hb4⟩
        have hgl := Nat.lt_of_lt_of_le hgw dr.1.size
        replace dr := dr.call hb4
        go_wp2_with fail
        refine hK.out _ _ (rng_below hHeld hb4 hgl) (fun hHeld2 => ?_)
        clear hK K hHeld
        have hHeld := hHeld2
        clear hHeld2
        try simp only [Act.put, List.setIfInBounds_toArray, List.set_cons_zero, List.set_cons_succ]
        refine wpAnyH_ready (rs := [7]) (by kernel_rfl) (by simp) ?_
        refine (AllReadyH.cons (o := { dst := none, op := Op.store 28 (Operand.tmp 10) (Operand.tmp 42), type := 0, pos := "ref.go:113", after := #[{ on := 6, ground := Ground.data }, { on := 6, ground := Ground.chain }, { on := 0, ground := Ground.phase }, { on := 1, ground := Ground.phase }, { on := 2, ground := Ground.phase }, { on := 3, ground := Ground.phase }, { on := 4, ground := Ground.phase }, { on := 5, ground := Ground.phase }, { on := 6, ground := Ground.phase }], guard := none }) rfl (fun K hK => ?_) AllReadyH.nil)
        rw [if_pos (by rfl)]
        refine wp_store_row 28 _ _ rfl (w.heap.size + 1) (ints .u8 X2).toArray rfl rfl 28 _ (dr.row (.head _)) (by rw [Tryz.size28, ints_size, hX2]) (by rw [ints_size, ints_size, hX2, hX1]) (all_oneCell_toArray (ints_one .u8 _)) ?_
        refine hK.out _ _ (rng_set hHeld hge) (fun hHeld2 => ?_)
        clear hK K hHeld
        have hHeld := hHeld2
        clear hHeld2
        try simp only [Act.put, List.setIfInBounds_toArray, List.set_cons_zero, List.set_cons_succ]
        refine wpAnyH_done (by kernel_rfl) ?_ _
        refine NoPanic.normal ?_
        replace dr := dr.set (by omega) hdl X2
        go_wp2
        go_roundw
        case rel => exact ⟨j + 1, Or.inr (by have := HM.out; omega), by have := HM.out; rw [show na + (j + 1) = m + 1 by omega]; go_num, by rw [HX2.out]; exact dr⟩
        case measure => simp [intOf]; omega
      · have hb1' : bitK ks (255 - m) = 1 := by rcases h01 with h | h; exact absurd h hb; exact h
        have KS := hid (fun w2 hG2 => xbranch_to w2 hG2 k (emptyD k m) (climbTo k ks na CD j) (climbTo k ks na CD (j + 1)) hel hX1 (by rw [HS.out, stepD, if_neg hb]))
        rw [hb1'] at KBit
        clear hb1'
        clear hb h01 HS hm
        have hRm := hR m (by omega)
        replace hR : ∀ i, i < 257 → i = m → w.rangeAt ge (i * 32) (ints .u8 (emptyD k m)) := fun i hi he => by rw [he]; exact hRm
        clear hRm
        generalize hX2e : climbTo k ks na CD (j + 1) = X2 at *
        have HX2 := hid hX2e
        clear hX2e
        generalize climbTo k ks na CD j = X1 at *
        generalize emptyD k m = E1 at *
        go_wp2_with (first | refine wpList_load_row rfl 24 _ rfl _ rfl 24 _ _ _ rk Tryz.underlying24 rfl (by rw [ints_size, hk]; rfl) ?_)
        refine (KBit.out _).mono ?_
        rintro e w7 ⟨rfl, hB7⟩
        replace dr := (dr.call hB7).drew
        clear KBit hB7 rk
        go_wp2
        refine wp_region_noPanic ?_
        refine wp_region_held_drew (S := fun w' => w'.rangeAt ge (m * 32) (ints .u8 E1)) (by kernel_rfl) (rng_below (hR m (by omega) rfl) dr.1 hgw) (fun hHeld => ?_)
        refine wpAnyH_take (i := 0) (oi := { dst := some 43, op := Op.move (Operand.tmp 1), type := 3, pos := "ref.go:115", after := #[], guard := none }) (v := .int .i64 k) rfl (by kernel_rfl) (by kernel_rfl) (by kernel_rfl) (fun _ _ _ h => h) (Or.inl ⟨by rfl, by intro w hS; go_simp⟩) hHeld ?_
        try simp only [Act.put, List.setIfInBounds_toArray, List.set_cons_zero, List.set_cons_succ]
        refine wpAnyH_take (i := 1) (oi := { dst := some 44, op := Op.move (Operand.tmp 0), type := 48, pos := "ref.go:115", after := #[], guard := none }) (v := .slice (some ⟨ge, 0, none⟩) 257 ce) rfl (by kernel_rfl) (by kernel_rfl) (by kernel_rfl) (fun _ _ _ h => h) (Or.inl ⟨by rfl, by intro w hS; go_simp⟩) hHeld ?_
        try simp only [Act.put, List.setIfInBounds_toArray, List.set_cons_zero, List.set_cons_succ]
        refine wpAnyH_take (i := 2) (oi := { dst := some 45, op := Op.move (Operand.tmp 15), type := 3, pos := "ref.go:115", after := #[], guard := none }) (v := .int .i64 m) rfl (by kernel_rfl) (by kernel_rfl) (by kernel_rfl) (fun _ _ _ h => h) (Or.inl ⟨by rfl, by intro w hS; go_simp⟩) hHeld ?_
        try simp only [Act.put, List.setIfInBounds_toArray, List.set_cons_zero, List.set_cons_succ]
        refine wpAnyH_take (i := 3) (oi := { dst := some 46, op := Op.indexAddr 48 (Operand.tmp 44) (Operand.tmp 45), type := 0, pos := "ref.go:115", after := #[{ on := 1, ground := Ground.data }, { on := 2, ground := Ground.data }], guard := none }) (v := .pointer (some ⟨ge, m * 32, none⟩)) rfl (by kernel_rfl) (by kernel_rfl) (by kernel_rfl) (fun _ _ _ h => h) (Or.inl ⟨by rfl, by intro w hS; (go_simp <;> (intro h; exfalso; omega))⟩) hHeld ?_
        try simp only [Act.put, List.setIfInBounds_toArray, List.set_cons_zero, List.set_cons_succ]
        refine wpAnyH_take (i := 4) (oi := { dst := some 47, op := Op.load 28 (Operand.tmp 46), type := 28, pos := "ref.go:115", after := #[{ on := 3, ground := Ground.data }], guard := none }) (v := .agg (ints .u8 E1).toArray) rfl (by kernel_rfl) (by kernel_rfl) (by kernel_rfl) (fun _ _ _ h => h) (yieldsIf_load_mid (by rfl) 28 _ rfl ge (m * 32) rfl (ints .u8 E1) _ (fun w hS => hS) Tryz.underlying28 rfl (by rw [ints_len, hel]; rfl)) hHeld ?_
        try simp only [Act.put, List.setIfInBounds_toArray, List.set_cons_zero, List.set_cons_succ]
        refine wpAnyH_ready (rs := [5]) (by kernel_rfl) (by simp) ?_
        refine (AllReadyH.cons (o := { dst := some 48, op := Op.load 28 (Operand.tmp 10), type := 28, pos := "ref.go:115", after := #[], guard := none }) rfl (fun K hK => ?_) AllReadyH.nil)
        rw [if_pos (by rfl)]
        refine wp_load_mid 28 _ rfl (w.heap.size + 1) 0 rfl (ints .u8 X1) _ (dr.rng (.head _)) Tryz.underlying28 rfl (by rw [ints_len, hX1]; rfl) ?_
        refine hK.out _ _ (hHeld) (fun hHeld2 => ?_)
        clear hK K hHeld
        have hHeld := hHeld2
        clear hHeld2
        try simp only [Act.put, List.setIfInBounds_toArray, List.set_cons_zero, List.set_cons_succ]
        refine wpAnyH_ready (rs := [6]) (by kernel_rfl) (by simp) ?_
        refine (AllReadyH.cons (o := { dst := some 49, op := Op.call { callee := Callee.value (Operand.func 32), args := #[Operand.tmp 43, Operand.tmp 47, Operand.tmp 48], argTypes := #[3, 28, 28] }, type := 28, pos := "ref.go:115", after := #[{ on := 0, ground := Ground.data }, { on := 4, ground := Ground.data }, { on := 5, ground := Ground.data }], guard := none }) rfl (fun K hK => ?_) AllReadyH.nil)
        go_simp
        go_at_call 32
        refine (KS.out _ (hG.keep dr.1)).mono ?_
        rintro e w4 ⟨rfl, hb4⟩
        have hgl := Nat.lt_of_lt_of_le hgw dr.1.size
        replace dr := dr.call hb4
        go_wp2_with fail
        refine hK.out _ _ (rng_below hHeld hb4 hgl) (fun hHeld2 => ?_)
        clear hK K hHeld
        have hHeld := hHeld2
        clear hHeld2
        try simp only [Act.put, List.setIfInBounds_toArray, List.set_cons_zero, List.set_cons_succ]
        refine wpAnyH_ready (rs := [7]) (by kernel_rfl) (by simp) ?_
        refine (AllReadyH.cons (o := { dst := none, op := Op.store 28 (Operand.tmp 10) (Operand.tmp 49), type := 0, pos := "ref.go:115", after := #[{ on := 6, ground := Ground.data }, { on := 6, ground := Ground.chain }, { on := 0, ground := Ground.phase }, { on := 1, ground := Ground.phase }, { on := 2, ground := Ground.phase }, { on := 3, ground := Ground.phase }, { on := 4, ground := Ground.phase }, { on := 5, ground := Ground.phase }, { on := 6, ground := Ground.phase }], guard := none }) rfl (fun K hK => ?_) AllReadyH.nil)
        rw [if_pos (by rfl)]
        refine wp_store_row 28 _ _ rfl (w.heap.size + 1) (ints .u8 X2).toArray rfl rfl 28 _ (dr.row (.head _)) (by rw [Tryz.size28, ints_size, hX2]) (by rw [ints_size, ints_size, hX2, hX1]) (all_oneCell_toArray (ints_one .u8 _)) ?_
        refine hK.out _ _ (rng_set hHeld hge) (fun hHeld2 => ?_)
        clear hK K hHeld
        have hHeld := hHeld2
        clear hHeld2
        try simp only [Act.put, List.setIfInBounds_toArray, List.set_cons_zero, List.set_cons_succ]
        refine wpAnyH_done (by kernel_rfl) ?_ _
        refine NoPanic.normal ?_
        replace dr := dr.set (by omega) hdl X2
        go_wp2
        go_roundw
        case rel => exact ⟨j + 1, Or.inr (by have := HM.out; omega), by have := HM.out; rw [show na + (j + 1) = m + 1 by omega]; go_num, by rw [HX2.out]; exact dr⟩
        case measure => simp [intOf]; omega
    · obtain rfl : j = nc - na := by omega
      generalize hWe : climbTo k ks na CD (nc - na) = WW at *
      have HW := hid hWe
      clear hWe
      have i3 : ¬ (((na + (nc - na) : Nat) : Int) < (nc : Int)) := by omega
      generalize na + (nc - na) = mm at *
      have rr := dr.row (.head _)
      have rz := dr.row (.tail _ (.head _))
      go_wp2_with (first | refine wpList_load_row rfl 28 _ rfl _ rfl 28 _ _ _ rr Tryz.underlying28 rfl (by rw [ints_size, hX1]; rfl) ?_ | refine wpList_store_row rfl 28 _ _ rfl _ _ rfl rfl 28 _ rz (by rw [Tryz.size28, ints_size, hX1]) (by rw [ints_size, ints_size, hX1, hz32]) (all_oneCell_toArray (ints_one .u8 _)) ?_)
      exact bodyPost_ret (v := .agg (ints .u8 WW).toArray) (results_cell_row Tryz.results34 _ _ (w.heap.size + 1 + 1) 28 _ _ _ rfl (setRow_heap _ _ _ _ _ _ rz) Tryz.underlying28 rfl (by rw [Tryz.size28, ints_size, hX1])) rfl ⟨by rw [HW.out], below_setRow dr.1 (by omega) _⟩
end Go.Proofs.YtbjahdbmkcamoaaGreatDoor
