import Derived.Test.YtbjahdbmkcamoaaGreatDoorVe9
namespace Go.Proofs.YtbjahdbmkcamoaaGreatDoor
set_option linter.unusedVariables false
set_option linter.unusedSimpArgs false
open Go.RowKit
attribute [local go_sem ↓] Go.wp_at_zero Go.wp_at_succ

/-- Blocks of bytes that this call made. -/
def DR (w0 w : World) (L : List (Nat × List Int × Nat)) : Prop := Below w0.heap.size w0 w ∧ ∀ x, x ∈ L → w.heap[x.1]? = some (.cells (ints .u8 x.2.1).toArray x.2.2 (0, 0))
theorem DR.nil (w : World) : DR w w [] := ⟨Below.refl _ _, fun x h => by cases h⟩
theorem DR.row {w0 w : World} {L : List (Nat × List Int × Nat)} (h : DR w0 w L) {b t : Nat} {zs : List Int} (hm : (b, zs, t) ∈ L) : w.heap[b]? = some (.cells (ints .u8 zs).toArray t (0, 0)) := h.2 _ hm
theorem DR.rng {w0 w : World} {L : List (Nat × List Int × Nat)} (h : DR w0 w L) {b t : Nat} {zs : List Int} (hm : (b, zs, t) ∈ L) : w.rangeAt b 0 (ints .u8 zs) := Go.Proofs.YtbjahdbmkcamoaaGreatDoor.rng (h.row hm)
theorem DR.call {w0 w w' : World} {L : List (Nat × List Int × Nat)} (h : DR w0 w L) (hb : Below w.heap.size w w') : DR w0 w' L :=
  ⟨h.1.trans (hb.mono h.1.size), fun x hx => hbel hb (h.2 x hx) (hlt (h.2 x hx))⟩
theorem DR.alloc {w0 w : World} {L : List (Nat × List Int × Nat)} (h : DR w0 w L) (zs : List Int) (t : Nat) : DR w0 (w.alloc (.cells (ints .u8 zs).toArray t)) ((w.heap.size, zs, t) :: L) := by
  refine ⟨h.1.alloc h.1.size _, fun x hx => ?_⟩
  rcases List.mem_cons.1 hx with rfl | hx
  · exact hnew w _
  · exact hold (h.2 x hx)
theorem DR.other {w0 w : World} {L : List (Nat × List Int × Nat)} (h : DR w0 w L) (o : Obj) : DR w0 (w.alloc o) L := ⟨h.1.alloc h.1.size _, fun x hx => hold (h.2 x hx)⟩
theorem DR.drew {w0 w : World} {L : List (Nat × List Int × Nat)} (h : DR w0 w L) : DR w0 w.drew L := ⟨h.1.drew, h.2⟩
theorem DR.glob {w0 w : World} {L : List (Nat × List Int × Nat)} (h : DR w0 w L) (hG : Glob w0) : Glob w := hG.below h.1 hG.1
theorem DR.lt {w0 w : World} {L : List (Nat × List Int × Nat)} (h : DR w0 w L) {b t : Nat} {zs : List Int} (hm : (b, zs, t) ∈ L) : b < w.heap.size := hlt (h.row hm)
theorem DR.src {w0 w : World} {L : List (Nat × List Int × Nat)} (h : DR w0 w L) {sp : Option Addr} {cap : Nat} {zs : List Int} (hs : Src w0 sp cap zs) : Src w sp cap zs := hs.below h.1 (Nat.le_refl _)
/-- The first of them written over. -/
theorem DR.set {w0 w : World} {L : List (Nat × List Int × Nat)} {b t : Nat} {zs : List Int} (h : DR w0 w ((b, zs, t) :: L)) (hb : w0.heap.size ≤ b) (hL : ∀ x, x ∈ L → x.1 ≠ b) (ys : List Int) : DR w0 (w.setRow b (ints .u8 ys).toArray) ((b, ys, t) :: L) := by
  refine ⟨below_setRow h.1 hb _, fun x hx => ?_⟩
  rcases List.mem_cons.1 hx with rfl | hx
  · exact dig_set (h.row (List.mem_cons_self ..))
  · exact (setRow_other _ _ _ _ (hL x hx)).trans (h.2 x (List.mem_cons_of_mem _ hx))
theorem Tryz.guardD : Tryz.prog.eqGuardType Tryz.prog.depth 28 = false := by kernel_rfl
theorem eqD (xs ys : List Int) (ha : xs.length = 32) (hb : ys.length = 32) (w : World) :
    (Op.equalIn 10000 28 (.agg (ints .u8 xs).toArray) (.agg (ints .u8 ys).toArray)).run Tryz.prog w = .ok (decide (xs = ys)) w :=
  equalIn_ints Tryz.underlying28 Tryz.underlying5 Tryz.size5 .u8 xs ys ha hb w
theorem eqD_self (xs : List Int) (ha : xs.length = 32) (w : World) :
    (Op.equalIn 10000 28 (.agg (ints .u8 xs).toArray) (.agg (ints .u8 xs).toArray)).run Tryz.prog w = .ok true w := by
  rw [eqD xs xs ha ha]; simp
theorem eqD_ne (xs ys : List Int) (ha : xs.length = 32) (hb : ys.length = 32) (h : xs ≠ ys) (w : World) :
    (Op.equalIn 10000 28 (.agg (ints .u8 xs).toArray) (.agg (ints .u8 ys).toArray)).run Tryz.prog w = .ok false w := by
  rw [eqD xs ys ha hb]; simp [h]
theorem cutZ_get (zs : List Int) (hl : zs.length = 32) (n : Nat) (hn : n ≤ 32) (j : Nat) : (cutZ zs n)[j]? = if j < n then zs[j]? else if j < 32 then some 0 else none := by
  simp only [cutZ, splice, List.take_zero, List.nil_append, Nat.zero_add, List.length_take]
  by_cases c : j < n
  · rw [if_pos c, List.getElem?_append_left (by simp [hl]; omega), List.getElem?_take, if_pos c]
  · rw [if_neg c, List.getElem?_append_right (by simp; omega), List.getElem?_drop, List.getElem?_replicate, List.length_take, hl]
    by_cases d : j < 32
    · rw [if_pos d, if_pos (by omega)]
    · rw [if_neg d, if_neg (by omega)]
theorem cutZ_cutZ (zs : List Int) (hl : zs.length = 32) (n : Nat) (hn : n ≤ 32) : cutZ (cutZ zs n) n = cutZ zs n := by
  apply List.ext_getElem?; intro j
  rw [cutZ_get _ (cutZ_len zs n hl) n hn, cutZ_get zs hl n hn]
  by_cases c : j < n <;> simp [c]
theorem cutZ_take (zs : List Int) (hl : zs.length = 32) (n : Nat) (hn : n ≤ 32) : (cutZ zs n).take n = zs.take n := by
  apply List.ext_getElem?; intro j
  rw [List.getElem?_take, List.getElem?_take, cutZ_get zs hl n hn]
  by_cases c : j < n <;> simp [c]
theorem branchD_cut (k : Int) (l r : List Int) (hl : l.length = 32) (hr : r.length = 32) : branchD k (cutZ l (kept k)) (cutZ r (kept k)) = branchD k l r := by
  unfold branchD branchT; rw [cutZ_take l hl _ (kept_le k), cutZ_take r hr _ (kept_le k)]
theorem branchD_cutl (k : Int) (l r : List Int) (hl : l.length = 32) : branchD k (cutZ l (kept k)) r = branchD k l r := by
  unfold branchD branchT; rw [cutZ_take l hl _ (kept_le k)]
theorem branchD_cutr (k : Int) (l r : List Int) (hr : r.length = 32) : branchD k l (cutZ r (kept k)) = branchD k l r := by
  unfold branchD branchT; rw [cutZ_take r hr _ (kept_le k)]
theorem cut_leafD (k : Int) (ks vs : List Int) : cutZ (leafD k ks vs) (kept k) = leafD k ks vs := cutZ_cutZ _ (sha_len _) _ (kept_le k)
theorem cut_branchD (k : Int) (l r : List Int) : cutZ (branchD k l r) (kept k) = branchD k l r := cutZ_cutZ _ (sha_len _) _ (kept_le k)
theorem cut_emptyD (k : Int) : ∀ h, cutZ (emptyD k h) (kept k) = emptyD k h
  | 0 => cutZ_cutZ _ (sha_len _) _ (kept_le k)
  | h + 1 => cut_branchD _ _ _
theorem cutZ_full (zs : List Int) (hl : zs.length = 32) : cutZ zs 32 = zs := by
  unfold cutZ splice; rw [List.take_of_length_le (by omega : zs.length ≤ 32)]; simp [hl]
theorem built_zeroD : Tryz.prog.built 28 [] = some (ints .u8 z32).toArray := by kernel_rfl
/-- A zero value built, guarded or not. -/
theorem wpList_zero_w {P : Program} {ops : Array Oper} {rest : List Oper} {o : Oper} {a : Act} {w : World} {Q : Exit → Act → World → Prop} (hw : Region.wanted o (yielded ops a.tmps) = true) (t : TypeId) (ho : o.op = .build t #[]) (cs : Array Value) (hb : P.built t [] = some cs)
    (h : wpList P ops Q rest (a.put o.dst (.agg cs)) w) : wpList P ops Q (o :: rest) a w := by
  have e : P.built t ((#[] : Array (Nat × Operand)).map fun (i, x) => (i, a.eval x)).toList = some cs := by simpa using hb
  exact BigFrame.wpList_want hw fun _ hK => wp_build t #[] ho (by rw [e]; rfl) (by rw [e]; exact hK _ _ h)
theorem sha2_ne : sha [2] ≠ z32 := by
  intro h
  have h2 : (sha [2]).getD 0 0 = 219 := by kernel_rfl
  rw [h] at h2
  exact absurd h2 (by decide)
end Go.Proofs.YtbjahdbmkcamoaaGreatDoor
