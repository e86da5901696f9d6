import Derived.Test.YtbjahdbmkcamoaaDoorTrZ
import Derived.Test.YtbjahdbmkcamoaaDoorNs
import Derived.Test.YtbjahdbmkcamoaaDoorNp
import Derived.Laws.AppendOwnNone
namespace Go.Proofs.YtbjahdbmkcamoaaDoor
set_option linter.unusedVariables false
set_option linter.unusedSimpArgs false
open Go.RowKit
attribute [local go_sem ↓] Go.wp_at_zero Go.wp_at_succ

def OwnKy (w : World) (base : Nat) (v : Value) (ss : List (List Int)) : Prop := (∀ d ∈ ss, d.length = 32) ∧ w.ownsRow base 30 32 v ss.length (ints .u8 ss.flatten)
theorem OwnKy.form {w : World} {base : Nat} {v : Value} {ss : List (List Int)} (h : OwnKy w base v ss) : ∃ sp cap, v = .slice sp ss.length cap ∧ SrcD w sp cap ss ∧ (sp = none → cap = 0) := by
  obtain ⟨h0, h1, ⟨rfl, hn⟩ | ⟨g, cap, cur, rfl, hg, hh, hc, hm, hs, ht⟩⟩ := h
  · have : ss = [] := List.eq_nil_of_length_eq_zero hn
    subst this
    exact ⟨none, 0, rfl, SrcD.nil w, fun _ => rfl⟩
  · refine ⟨some ⟨g, 0, none⟩, cap, rfl, ⟨hc, hm, h0, g, 0, fun _ => hlt hh, fun _ => rfl, fun i hi j u hu => ?_⟩, (fun h => by cases h)⟩
    have hd : (ss.getD i []).length = 32 := h0 _ (by rw [List.getD_eq_getElem?_getD, List.getElem?_eq_getElem hi]; exact List.getElem_mem _)
    have hj : j < 32 := by have := (List.getElem?_eq_some_iff.1 hu).1; rwa [ints_len, hd] at this
    have h3 := flat_get ss i j h0 hi hj
    rw [hu, ← ht, List.getElem?_take] at h3
    split at h3
    · rw [Nat.zero_add, cell_of_row _ _ _ _ _ _ hh]
      simpa using h3
    · cases h3
theorem OwnKy.form0 {w : World} {base : Nat} {v : Value} {ss : List (List Int)} (h : OwnKy w base v ss) (hp : 0 < ss.length) : ∃ g cap, v = .slice (some ⟨g, 0, none⟩) ss.length cap ∧ g < w.heap.size ∧ ∀ i, i < ss.length → w.rangeAt g (0 + i * 32) (ints .u8 (ss.getD i [])) := by
  obtain ⟨h0, h1, ⟨rfl, hn⟩ | ⟨g, cap, cur, rfl, hg, hh, hc, hm, hs, ht⟩⟩ := h
  · omega
  · refine ⟨g, cap, rfl, hlt hh, fun i hi j u hu => ?_⟩
    have hd : (ss.getD i []).length = 32 := h0 _ (by rw [List.getD_eq_getElem?_getD, List.getElem?_eq_getElem hi]; exact List.getElem_mem _)
    have hj : j < 32 := by have := (List.getElem?_eq_some_iff.1 hu).1; rwa [ints_len, hd] at this
    have h3 := flat_get ss i j h0 hi hj
    rw [hu, ← ht, List.getElem?_take] at h3
    split at h3
    · rw [Nat.zero_add, cell_of_row _ _ _ _ _ _ hh]
      simpa using h3
    · cases h3
theorem infoKm : (Tryd.prog.info? 30).map (fun i => (i.zero.map fun z => z.cells.size, i.size, i.bytes)) = some (some 32, 32, 32) := by kernel_rfl
theorem infoKy : ∃ i z, Tryd.prog.info? 30 = some i ∧ i.zero = some z ∧ z.cells.size = 32 ∧ i.size = 32 ∧ i.bytes = 32 := by
  have h := infoKm
  cases hi : Tryd.prog.info? 30 with
  | none => rw [hi] at h; simp at h
  | some i =>
    rw [hi] at h
    cases hz : i.zero with
    | none => simp [hz] at h
    | some z => simp [hz] at h; exact ⟨i, z, rfl, hz, h.1, h.2.1, h.2.2⟩
theorem slice_key (ks : List Value) (hk : ks.length = 32) (w : World) :
    (Instr.buildSlice 23 1 #[(0, .agg ks.toArray)]).run Tryd.prog w = .ok (.slice (some ⟨w.heap.size, 0, none⟩) 1 1) (w.alloc (.cells ks.toArray 30)) := by
  obtain ⟨x0, x1, x2, x3, x4, x5, x6, x7, x8, x9, x10, x11, x12, x13, x14, x15, x16, x17, x18, x19, x20, x21, x22, x23, x24, x25, x26, x27, x28, x29, x30, x31, rfl⟩ := list32 hk
  kernel_rfl
theorem wpList_sliceKy {w : World} {ops : Array Oper} {rest : List Oper} {o : Oper} {a : Act} {Q : Exit → Act → World → Prop} (hg : o.guard = none) (x : Operand) (ho : o.op = .buildSlice 23 1 #[(0, x)])
    (ks : List Value) (hk : ks.length = 32) (hx : a.eval x = .agg ks.toArray) (h : wpList Tryd.prog ops Q rest (a.put o.dst (.slice (some ⟨w.heap.size, 0, none⟩) 1 1)) (w.alloc (.cells ks.toArray 30))) :
    wpList Tryd.prog ops Q (o :: rest) a w := by
  refine wpList_plain hg fun K hK => ?_
  unfold Oper.wp execOp
  simp only [ho, List.map_toArray, List.map_cons, List.map_nil, hx, Sem.run_bind, slice_key ks hk w, Result.andThen_ok, Sem.run_pure]
  exact hK _ _ h
theorem flat_cells {ss : List (List Int)} (h : ∀ d ∈ ss, d.length = 32) {w : World} {b o : Nat} (hr : ∀ j, j < ss.length → w.rangeAt b (o + j * 32) (ints .u8 (ss.getD j []))) : w.rangeAt b o (ints .u8 ss.flatten) := fun j v hv => by
  have hl : (ss.flatten).length = ss.length * 32 := by
    clear hr hv
    induction ss with
    | nil => rfl
    | cons d ss ih => simp only [List.flatten_cons, List.length_append, List.length_cons, ih fun d hd => h d (List.mem_cons_of_mem _ hd), h d (.head _)]; omega
  have hj : j < ss.length * 32 := by have := (List.getElem?_eq_some_iff.1 hv).1; rw [ints_len, hl] at this; exact this
  obtain ⟨i, k, hk, rfl⟩ : ∃ i k, k < 32 ∧ j = i * 32 + k := ⟨j / 32, j % 32, by omega, by omega⟩
  have hi : i < ss.length := by omega
  rw [flat_get ss i k h hi hk] at hv
  have := hr i hi k v hv
  rwa [Nat.add_assoc] at this
/-- append of keys onto one. -/
theorem wpList_appendKeys {w : World} {ops : Array Oper} {rest : List Oper} {o : Oper} {a : Act} {Q : Exit → Act → World → Prop} (hgd : o.guard = none) (s x : Operand)
    (ho : o.op = .call { callee := .builtin .append, args := #[s, x], argTypes := #[23, 23] })
    (k0 : List Int) (hk0 : k0.length = 32) (hs : a.eval s = .slice (some ⟨w.heap.size, 0, none⟩) 1 1) (ss : List (List Int)) (sp : Option Addr) (cap : Nat) (hx : a.eval x = .slice sp ss.length cap) (hS : SrcD w sp cap ss) (hn : sp = none → cap = 0)
    (hlen : ss.length ≤ 1000000)
    (h : ∀ v' w', OwnKy w' w.heap.size v' (k0 :: ss) → Below w.heap.size w w' → wpList Tryd.prog ops Q rest (a.put o.dst v') w') :
    wpList Tryd.prog ops Q (o :: rest) a (w.alloc (.cells (ints .u8 k0).toArray 30)) := by
  obtain ⟨i5, z, hi5, hz5, hc5, hs5, hy5⟩ := infoKy
  have hown : (w.alloc (.cells (ints .u8 k0).toArray 30)).ownsRow w.heap.size 30 32 (.slice (some ⟨w.heap.size, 0, none⟩) 1 1) 1 (ints .u8 k0) :=
    ⟨by rw [ints_len, hk0], Or.inr ⟨w.heap.size, 1, (ints .u8 k0).toArray, rfl, Nat.le_refl _, hnew w _, Nat.le_refl _, by simp [maxLen], by rw [ints_size, hk0], by rw [List.take_of_length_le (by rw [ints_len, hk0]; omega)]⟩⟩
  have hb : Below w.heap.size w (w.alloc (.cells (ints .u8 k0).toArray 30)) := (Below.refl _ _).alloc (Nat.le_refl _) _
  have hS1 := hS.below hb (Nat.le_refl _)
  have hall : ∀ d ∈ k0 :: ss, d.length = 32 := fun d hd => by
    rcases List.mem_cons.1 hd with rfl | hd
    · exact hk0
    · exact hS.2.2.1 d hd
  cases sp with
  | none =>
    have hz : ss = [] := by
      obtain ⟨_, _, _, b, o, _, h4, _⟩ := hS
      by_cases q : 0 < ss.length
      · cases h4 q
      · exact List.eq_nil_of_length_eq_zero (by omega)
    subst hz
    obtain rfl := hn rfl
    refine wpList_append_own_none hgd s x 23 ho w.heap.size 30 i5 32 Tryd.underlying23 hi5 _ 1 _ hs hown hx ?_
    exact h _ _ ⟨hall, by simpa using hown⟩ hb
  | some ad =>
    have hcell : ∀ j u, (ints .u8 ss.flatten)[j]? = some u → (w.alloc (.cells (ints .u8 k0).toArray 30)).cell? (ad.add j) = some u := by
      obtain ⟨h1, h2, h3, b, o, h4, h5, h6⟩ := hS1
      intro j u hu
      by_cases q : 0 < ss.length
      · have e := h5 q
        simp only [Option.some.injEq] at e
        subst e
        rw [Addr.add_mid]
        exact flat_cells h3 h6 j u hu
      · have : ss = [] := List.eq_nil_of_length_eq_zero (by omega)
        subst this; simp [ints] at hu
    have hfl : (ints .u8 ss.flatten).length = ss.length * 32 := by
      rw [ints_len]
      have h3 := hS.2.2.1
      clear hcell hS hS1 h hx hlen hall
      induction ss with
      | nil => rfl
      | cons d ss ih => simp only [List.flatten_cons, List.length_append, List.length_cons, ih fun d hd => h3 d (List.mem_cons_of_mem _ hd), h3 d (.head _)]; omega
    refine wpList_append_own_at _ hgd s x 23 ho w.heap.size 30 i5 z 32 32 Tryd.underlying23 hi5 hz5 hs5 hy5 hc5 (by decide) _ 1 _ hs hown ad ss.length cap (ints .u8 ss.flatten) hx hfl hcell (ints_one _ _) (by unfold maxLen; omega) (by omega) hb.size ?_
    intro v' w' q1 q2 _ q4
    refine h v' w' ⟨hall, ?_⟩ (hb.trans (grown_keeps q2 (fun k hk => by simp [Value.ownBlock] at hk; omega) hb.size))
    rw [List.length_cons, List.flatten_cons, show ints .u8 (k0 ++ ss.flatten) = ints .u8 k0 ++ ints .u8 ss.flatten by simp [ints], Nat.add_comm ss.length 1]
    exact q1
theorem an_of {w0 w : World} {L : List (Nat × List Value × Nat)} (h : BK w0 w L) : (w.alloc (.cells (ansC false (.slice none 0 0)).toArray 34)).heap[w.heap.size]? = some (.cells (ansC false (.slice none 0 0)).toArray 34 (0, 0)) := hnew w _
theorem sz_al (w : World) (o : Obj) : (w.alloc o).heap.size = w.heap.size + 1 := by simp
theorem sz_dr (w : World) : w.drew.heap.size = w.heap.size := rfl
theorem own_setO {w : World} {base g : Nat} {v : Value} {zs : List Int} {cs : Array Value} {fr : Nat × Nat} (h : Own w base v zs) (hg : w.heap[g]? = some (.cells cs 34 fr)) (ys : Array Value) : Own (w.setRow g ys) base v zs := h.of_heap fun k e => by
  obtain ⟨_, cur, hc⟩ := ownsRow_block h k e
  exact setRow_other _ g k _ (ne_tyC hc hg (by decide))
theorem below_new' (w : World) (o : Obj) : Below w.heap.size w (w.alloc o) := (Below.refl _ _).alloc (Nat.le_refl _) _
theorem ne_one {b b1 : Nat} {z1 : List Value} {t1 : Nat} (h1 : b1 ≠ b) : ∀ x, x ∈ [(b1, z1, t1)] → x.1 ≠ b := fun x hx => by
  simp only [List.mem_cons, List.not_mem_nil, or_false] at hx
  subst hx; exact h1
set_option maxRecDepth 100000 in
set_option maxHeartbeats 4000000 in
theorem treg11 (w0 w : World) (n : Nat) (root ks t : List Int) (hr : root.length = 32) (hk : ks.length = 32) (B9 kb NN kc i : Nat) (hi : i < NN) (hik : w.rangeAt kb (0 + i * 32) (ints .u8 ks)) (hkb : kb < w.heap.size) (vE : Int) (vF : Bool) (vV : List Int) (sp : Option Addr) (cap : Nat) {Q : Exit → Act → World → Prop} {u0 u1 u3 u4 u5 u6 u8 u12 u13 u14 u15 u16 u17 u18 u19 u20 u21 u22 u23 u24 u25 u26 u27 u28 u29 u30 u31 u32 u33 u34 u35 u36 u37 u38 u39 u40 u41 u42 u43 u44 u45 u46 u47 u48 u49 u50 u51 u52 u53 u54 u55 u56 u57 u58 u59 u60 u61 u62 u63 u64 u65 u66 u67 u68 u69 u70 u71 u72 u73 u74 u75 u76 u77 u78 u79 u80 u81 u82 u83 u84 u85 u86 u87 u88 u89 u90 u91 u92 u93 u94 u95 u96 u97 u98 u99 u100 u101 u102 u103 u104 u105 u106 u107 u108 u109 u110 u111 u112 : Value} (hNN : NN ≤ 1000000) (hws : w0.heap.size ≤ w.heap.size) (d0 : BK w0 w [(B9, ints .u8 root, 28)]) (KV : Hid (∀ w1, Below w.heap.size w w1 → Calls Tryd.prog 8 #[.int .i64 n, .agg (ints .u8 root).toArray, .agg (ints .u8 ks).toArray, .slice sp t.length cap] w1 fun e w' => ∃ s c, e = .returned (.tuple #[.agg (ansC vF (.slice s vV.length c)).toArray, .int .i64 vE]) ∧ Own w' w1.heap.size (.slice s vV.length c) vV ∧ Below w1.heap.size w1 w'))
    (HK : ∀ (ga : Nat) (s : Option Addr) (c : Nat) (w' : World) (t54 t55 t56 t57 t58 t59 t60 t61 t53 t62 t63 : Value), BK w0 w' [(B9, ints .u8 root, 28)] → Below w.heap.size w w' → w.heap.size ≤ ga → w'.heap[ga]? = some (.cells (ansC vF (.slice s vV.length c)).toArray 34 (0, 0)) → Own w' w.heap.size (.slice s vV.length c) vV → Q .normal { tmps := #[u0, u1, .slice (some ⟨kb, 0, none⟩) NN kc, u3, u4, u5, u6, .int .i64 n, u8, .pointer (some ⟨B9, 0, none⟩), .int .i64 i, .slice sp t.length cap, .pointer (some ⟨ga, 0, none⟩), .int .i64 vE, u14, u15, u16, u17, u18, u19, u20, u21, u22, u23, u24, u25, u26, u27, u28, u29, u30, u31, u32, u33, u34, u35, u36, u37, u38, u39, u40, u41, u42, u43, u44, u45, u46, u47, u48, u49, u50, u51, u52, t53, t54, t55, t56, t57, t58, t59, t60, t61, t62, t63, u64, u65, u66, u67, u68, u69, u70, u71, u72, u73, u74, u75, u76, u77, u78, u79, u80, u81, u82, u83, u84, u85, u86, u87, u88, u89, u90, u91, u92, u93, u94, u95, u96, u97, u98, u99, u100, u101, u102, u103, u104, u105, u106, u107, u108, u109, u110, u111, u112], defers := [] } w') :
    Code.wp Tryd.prog (Code.region 11 #[{ dst := some 54, op := Op.move (Operand.tmp 7), type := 3, pos := "law.go:402", after := #[], guard := none }, { dst := some 55, op := Op.load 28 (Operand.tmp 9), type := 28, pos := "law.go:402", after := #[], guard := none }, { dst := some 56, op := Op.move (Operand.tmp 2), type := 23, pos := "law.go:402", after := #[], guard := none }, { dst := some 57, op := Op.move (Operand.tmp 10), type := 3, pos := "law.go:402", after := #[], guard := none }, { dst := some 58, op := Op.indexAddr 23 (Operand.tmp 56) (Operand.tmp 57), type := 0, pos := "law.go:402", after := #[{ on := 2, ground := Ground.data }, { on := 3, ground := Ground.data }], guard := none }, { dst := some 59, op := Op.load 30 (Operand.tmp 58), type := 30, pos := "law.go:402", after := #[{ on := 4, ground := Ground.data }], guard := none }, { dst := some 60, op := Op.move (Operand.tmp 11), type := 31, pos := "law.go:402", after := #[], guard := none }, { dst := some 61, op := Op.call { callee := Callee.value (Operand.func 8), args := #[Operand.tmp 54, Operand.tmp 55, Operand.tmp 59, Operand.tmp 60], argTypes := #[3, 28, 30, 31] }, type := 36, pos := "law.go:402", after := #[{ on := 0, ground := Ground.data }, { on := 1, ground := Ground.data }, { on := 5, ground := Ground.data }, { on := 6, ground := Ground.data }], guard := none }, { dst := some 53, op := Op.move (Operand.tmp 61), type := 36, pos := "law.go:402", after := #[{ on := 7, ground := Ground.data }], guard := none }, { dst := some 62, op := Op.extract (Operand.tmp 53) 0, type := 34, pos := "law.go:402", after := #[{ on := 8, ground := Ground.data }], guard := none }, { dst := some 63, op := Op.extract (Operand.tmp 53) 1, type := 35, pos := "law.go:402", after := #[{ on := 8, ground := Ground.data }, { on := 12, ground := Ground.gcOnly Departure.lateStores }], guard := none }, { dst := some 12, op := Op.alloc 34, type := 0, pos := "law.go:402", after := #[], guard := none }, { dst := none, op := Op.store 34 (Operand.tmp 12) (Operand.tmp 62), type := 0, pos := "law.go:402", after := #[{ on := 11, ground := Ground.data }, { on := 9, ground := Ground.data }, { on := 7, ground := Ground.chain }, { on := 0, ground := Ground.phase }, { on := 1, ground := Ground.phase }, { on := 2, ground := Ground.phase }, { on := 3, ground := Ground.phase }, { on := 4, ground := Ground.phase }, { on := 5, ground := Ground.phase }, { on := 6, ground := Ground.phase }, { on := 7, ground := Ground.phase }, { on := 8, ground := Ground.phase }, { on := 9, ground := Ground.phase }, { on := 10, ground := Ground.textOnly Departure.lateStores }, { on := 11, ground := Ground.phase }], guard := none }, { dst := some 13, op := Op.assign (Operand.tmp 63), type := 35, pos := "law.go:402", after := #[{ on := 10, ground := Ground.data }, { on := 12, ground := Ground.chain }, { on := 0, ground := Ground.phase }, { on := 1, ground := Ground.phase }, { on := 2, ground := Ground.phase }, { on := 3, ground := Ground.phase }, { on := 4, ground := Ground.phase }, { on := 5, ground := Ground.phase }, { on := 6, ground := Ground.phase }, { on := 7, ground := Ground.phase }, { on := 8, ground := Ground.phase }, { on := 9, ground := Ground.phase }, { on := 10, ground := Ground.phase }, { on := 11, ground := Ground.phase }, { on := 12, ground := Ground.phase }], guard := none }] true) Q { tmps := #[u0, u1, .slice (some ⟨kb, 0, none⟩) NN kc, u3, u4, u5, u6, .int .i64 n, u8, .pointer (some ⟨B9, 0, none⟩), .int .i64 i, .slice sp t.length cap, u12, u13, u14, u15, u16, u17, u18, u19, u20, u21, u22, u23, u24, u25, u26, u27, u28, u29, u30, u31, u32, u33, u34, u35, u36, u37, u38, u39, u40, u41, u42, u43, u44, u45, u46, u47, u48, u49, u50, u51, u52, u53, u54, u55, u56, u57, u58, u59, u60, u61, u62, u63, u64, u65, u66, u67, u68, u69, u70, u71, u72, u73, u74, u75, u76, u77, u78, u79, u80, u81, u82, u83, u84, u85, u86, u87, u88, u89, u90, u91, u92, u93, u94, u95, u96, u97, u98, u99, u100, u101, u102, u103, u104, u105, u106, u107, u108, u109, u110, u111, u112], defers := [] } w := by
  have AA := hid allocAn
  have LK := hid (show (Tryd.prog.info? 30).map (·.size) = some (ints .u8 ks).length by rw [Tryd.sizeKy, ints_len, hk])
  have LR := hid (show (Tryd.prog.info? 28).map (·.size) = some (ints .u8 root).length by rw [Tryd.sizeD, ints_len, hr])
  have j1 : (i : Int) < (NN : Int) := by omega
  have j2 : (NN : Int) ≤ 1000000 := by omega
  refine wp_region_noPanic ?_
  refine wp_region_held_drew (S := (fun w' => BK w0 w' [(B9, ints .u8 root, 28)] ∧ Below w.heap.size w w')) (by kernel_rfl) ⟨d0.drew, (Below.refl _ _).drew⟩ (fun hHeld => ?_)
  refine wpAnyH_take (i := 0) (oi := { dst := some 54, op := Op.move (Operand.tmp 7), type := 3, pos := "law.go:402", after := #[], guard := none }) (v := .int .i64 n) rfl (by kernel_rfl) (by kernel_rfl) (by kernel_rfl) (fun _ _ _ h => h) (Or.inl ⟨by rfl, by intro w hS; go_simp⟩) hHeld ?_
  try simp only [Act.put, List.setIfInBounds_toArray, List.set_cons_zero, List.set_cons_succ]
  refine wpAnyH_take (i := 1) (oi := { dst := some 55, op := Op.load 28 (Operand.tmp 9), type := 28, pos := "law.go:402", after := #[], guard := none }) (v := .agg (ints .u8 root).toArray) rfl (by kernel_rfl) (by kernel_rfl) (by kernel_rfl) (fun _ _ _ h => h) (yieldsIf_load_mid (by rfl) 28 _ rfl B9 (0) rfl (ints .u8 root) _ (fun w hS => hS.1.rng (.head _) (fun j x hx => by rw [Nat.zero_add]; exact hx)) Tryd.underlying28 rfl LR.out) hHeld ?_
  try simp only [Act.put, List.setIfInBounds_toArray, List.set_cons_zero, List.set_cons_succ]
  refine wpAnyH_take (i := 2) (oi := { dst := some 56, op := Op.move (Operand.tmp 2), type := 23, pos := "law.go:402", after := #[], guard := none }) (v := .slice (some ⟨kb, 0, none⟩) NN kc) rfl (by kernel_rfl) (by kernel_rfl) (by kernel_rfl) (fun _ _ _ h => h) (Or.inl ⟨by rfl, by intro w hS; go_simp⟩) hHeld ?_
  try simp only [Act.put, List.setIfInBounds_toArray, List.set_cons_zero, List.set_cons_succ]
  refine wpAnyH_take (i := 3) (oi := { dst := some 57, op := Op.move (Operand.tmp 10), type := 3, pos := "law.go:402", after := #[], guard := none }) (v := .int .i64 i) rfl (by kernel_rfl) (by kernel_rfl) (by kernel_rfl) (fun _ _ _ h => h) (Or.inl ⟨by rfl, by intro w hS; go_simp⟩) hHeld ?_
  try simp only [Act.put, List.setIfInBounds_toArray, List.set_cons_zero, List.set_cons_succ]
  refine wpAnyH_take (i := 6) (oi := { dst := some 60, op := Op.move (Operand.tmp 11), type := 31, pos := "law.go:402", after := #[], guard := none }) (v := .slice sp t.length cap) rfl (by kernel_rfl) (by kernel_rfl) (by kernel_rfl) (fun _ _ _ h => h) (Or.inl ⟨by rfl, by intro w hS; go_simp⟩) hHeld ?_
  try simp only [Act.put, List.setIfInBounds_toArray, List.set_cons_zero, List.set_cons_succ]
  refine wpAnyH_take (i := 4) (oi := { dst := some 58, op := Op.indexAddr 23 (Operand.tmp 56) (Operand.tmp 57), type := 0, pos := "law.go:402", after := #[{ on := 2, ground := Ground.data }, { on := 3, ground := Ground.data }], guard := none }) (v := .pointer (some ⟨kb, 0 + i * 32, none⟩)) rfl (by kernel_rfl) (by kernel_rfl) (by kernel_rfl) (fun _ _ _ h => h) (Or.inl ⟨by rfl, by intro w hS; go_simp⟩) hHeld ?_
  try simp only [Act.put, List.setIfInBounds_toArray, List.set_cons_zero, List.set_cons_succ]
  refine wpAnyH_take (i := 5) (oi := { dst := some 59, op := Op.load 30 (Operand.tmp 58), type := 30, pos := "law.go:402", after := #[{ on := 4, ground := Ground.data }], guard := none }) (v := .agg (ints .u8 ks).toArray) rfl (by kernel_rfl) (by kernel_rfl) (by kernel_rfl) (fun _ _ _ h => h) (yieldsIf_load_mid (by rfl) 30 _ rfl kb (0 + i * 32) rfl (ints .u8 ks) _ (fun w hS => rng_below hik hS.2 hkb) Tryd.underlying30 rfl LK.out) hHeld ?_
  try simp only [Act.put, List.setIfInBounds_toArray, List.set_cons_zero, List.set_cons_succ]
  refine wpAnyH_ready (rs := [7, 11]) (by kernel_rfl) (by simp) ?_
  refine (AllReadyH.cons (o := { dst := some 61, op := Op.call { callee := Callee.value (Operand.func 8), args := #[Operand.tmp 54, Operand.tmp 55, Operand.tmp 59, Operand.tmp 60], argTypes := #[3, 28, 30, 31] }, type := 36, pos := "law.go:402", after := #[{ on := 0, ground := Ground.data }, { on := 1, ground := Ground.data }, { on := 5, ground := Ground.data }, { on := 6, ground := Ground.data }], guard := none }) rfl (fun K hK => ?_) (AllReadyH.cons (o := { dst := some 12, op := Op.alloc 34, type := 0, pos := "law.go:402", after := #[], guard := none }) rfl (fun K hK => ?_) AllReadyH.nil))
  · skip
    go_simp
    go_at_call 8
    refine (KV.out _ hHeld.2).mono ?_
    rintro e w5 ⟨s5, c5, rfl, hO5, hb5⟩
    try replace hA := hbel hb5 hA (hlt hA)
    replace hO5 := own_lower hO5 hHeld.2.size
    go_wp2_with fail
    refine hK.out _ _ (⟨hHeld.1.call hb5, hHeld.2.trans (hb5.mono hHeld.2.size)⟩) (fun hHeld2 => ?_)
    clear hK K hHeld
    have hHeld := hHeld2
    clear hHeld2
    try simp only [Act.put, List.setIfInBounds_toArray, List.set_cons_zero, List.set_cons_succ]
    refine wpAnyH_take (i := 8) (oi := { dst := some 53, op := Op.move (Operand.tmp 61), type := 36, pos := "law.go:402", after := #[{ on := 7, ground := Ground.data }], guard := none }) (v := .tuple #[.agg (ansC vF (.slice s5 vV.length c5)).toArray, .int .i64 vE]) rfl (by kernel_rfl) (by kernel_rfl) (by kernel_rfl) (fun _ _ _ h => h) (Or.inl ⟨by rfl, by intro w hS; go_simp⟩) hHeld ?_
    try simp only [Act.put, List.setIfInBounds_toArray, List.set_cons_zero, List.set_cons_succ]
    refine wpAnyH_take (i := 9) (oi := { dst := some 62, op := Op.extract (Operand.tmp 53) 0, type := 34, pos := "law.go:402", after := #[{ on := 8, ground := Ground.data }], guard := none }) (v := .agg (ansC vF (.slice s5 vV.length c5)).toArray) rfl (by kernel_rfl) (by kernel_rfl) (by kernel_rfl) (fun _ _ _ h => h) (Or.inl ⟨by rfl, by intro w hS; go_simp⟩) hHeld ?_
    try simp only [Act.put, List.setIfInBounds_toArray, List.set_cons_zero, List.set_cons_succ]
    refine wpAnyH_take (i := 10) (oi := { dst := some 63, op := Op.extract (Operand.tmp 53) 1, type := 35, pos := "law.go:402", after := #[{ on := 8, ground := Ground.data }, { on := 12, ground := Ground.gcOnly Departure.lateStores }], guard := none }) (v := .int .i64 vE) rfl (by kernel_rfl) (by kernel_rfl) (by kernel_rfl) (fun _ _ _ h => h) (Or.inl ⟨by rfl, by intro w hS; go_simp⟩) hHeld ?_
    try simp only [Act.put, List.setIfInBounds_toArray, List.set_cons_zero, List.set_cons_succ]
    refine wpAnyH_ready (rs := [11]) (by kernel_rfl) (by simp) ?_
    refine (AllReadyH.cons (o := { dst := some 12, op := Op.alloc 34, type := 0, pos := "law.go:402", after := #[], guard := none }) rfl (fun K hK => ?_) AllReadyH.nil)
    have hA := an_of hHeld.1
    have hgB := hHeld.2.size
    have hne := hHeld.1.lt (.head _)
    try replace hO5 := hO5.below (below_new' _ (.cells (ansC false (.slice none 0 0)).toArray 34)) (Nat.le_refl _)
    try simp only [sz_al, sz_dr] at hA hgB hne
    rw [if_pos (by rfl)]
    unfold Oper.wp
    rw [AA.out _ _ _ rfl]
    refine hK.out _ _ (⟨hHeld.1.other _, hHeld.2.alloc hHeld.2.size _⟩) (fun hHeld2 => ?_)
    clear hK K hHeld
    have hHeld := hHeld2
    clear hHeld2
    try simp only [Act.put, List.setIfInBounds_toArray, List.set_cons_zero, List.set_cons_succ]
    refine wpAnyH_ready (rs := [12]) (by kernel_rfl) (by simp) ?_
    refine (AllReadyH.cons (o := { dst := none, op := Op.store 34 (Operand.tmp 12) (Operand.tmp 62), type := 0, pos := "law.go:402", after := #[{ on := 11, ground := Ground.data }, { on := 9, ground := Ground.data }, { on := 7, ground := Ground.chain }, { on := 0, ground := Ground.phase }, { on := 1, ground := Ground.phase }, { on := 2, ground := Ground.phase }, { on := 3, ground := Ground.phase }, { on := 4, ground := Ground.phase }, { on := 5, ground := Ground.phase }, { on := 6, ground := Ground.phase }, { on := 7, ground := Ground.phase }, { on := 8, ground := Ground.phase }, { on := 9, ground := Ground.phase }, { on := 10, ground := Ground.textOnly Departure.lateStores }, { on := 11, ground := Ground.phase }], guard := none }) rfl (fun K hK => ?_) AllReadyH.nil)
    rw [if_pos (by rfl)]
    refine wp_store_row 34 _ _ rfl _ (ansC vF (.slice s5 vV.length c5)).toArray rfl rfl 34 _ hA (by rw [Tryd.sizeAn]; rfl) rfl (all_oneCell_toArray (ansC_one _ _ _ _)) ?_
    have qA := setRow_heap _ _ _ (ansC vF (.slice s5 vV.length c5)).toArray _ _ hA
    have qO := own_setO hO5 hA (ansC vF (.slice s5 vV.length c5)).toArray
    refine hK.out _ _ (⟨hHeld.1.setO (Nat.le_trans hws hgB) (ne_one (by omega)) _, below_setRow hHeld.2 hgB _⟩) (fun hHeld2 => ?_)
    clear hK K hHeld
    have hHeld := hHeld2
    clear hHeld2
    try simp only [Act.put, List.setIfInBounds_toArray, List.set_cons_zero, List.set_cons_succ]
    refine wpAnyH_take (i := 13) (oi := { dst := some 13, op := Op.assign (Operand.tmp 63), type := 35, pos := "law.go:402", after := #[{ on := 10, ground := Ground.data }, { on := 12, ground := Ground.chain }, { on := 0, ground := Ground.phase }, { on := 1, ground := Ground.phase }, { on := 2, ground := Ground.phase }, { on := 3, ground := Ground.phase }, { on := 4, ground := Ground.phase }, { on := 5, ground := Ground.phase }, { on := 6, ground := Ground.phase }, { on := 7, ground := Ground.phase }, { on := 8, ground := Ground.phase }, { on := 9, ground := Ground.phase }, { on := 10, ground := Ground.phase }, { on := 11, ground := Ground.phase }, { on := 12, ground := Ground.phase }], guard := none }) (v := .int .i64 vE) rfl (by kernel_rfl) (by kernel_rfl) (by kernel_rfl) (fun _ _ _ h => h) (Or.inl ⟨by rfl, by intro w hS; go_simp⟩) hHeld ?_
    try simp only [Act.put, List.setIfInBounds_toArray, List.set_cons_zero, List.set_cons_succ]
    refine wpAnyH_done (by kernel_rfl) ?_ _
    refine NoPanic.normal ?_
    exact HK _ s5 c5 _ _ _ _ _ _ _ _ _ _ _ _ hHeld.1 hHeld.2 hgB qA qO
  · skip
    have hA := an_of hHeld.1
    have hgB := hHeld.2.size
    have hne := hHeld.1.lt (.head _)
    try replace hO5 := hO5.below (below_new' _ (.cells (ansC false (.slice none 0 0)).toArray 34)) (Nat.le_refl _)
    try simp only [sz_al, sz_dr] at hA hgB hne
    rw [if_pos (by rfl)]
    unfold Oper.wp
    rw [AA.out _ _ _ rfl]
    refine hK.out _ _ (⟨hHeld.1.other _, hHeld.2.alloc hHeld.2.size _⟩) (fun hHeld2 => ?_)
    clear hK K hHeld
    have hHeld := hHeld2
    clear hHeld2
    try simp only [Act.put, List.setIfInBounds_toArray, List.set_cons_zero, List.set_cons_succ]
    refine wpAnyH_ready (rs := [7]) (by kernel_rfl) (by simp) ?_
    refine (AllReadyH.cons (o := { dst := some 61, op := Op.call { callee := Callee.value (Operand.func 8), args := #[Operand.tmp 54, Operand.tmp 55, Operand.tmp 59, Operand.tmp 60], argTypes := #[3, 28, 30, 31] }, type := 36, pos := "law.go:402", after := #[{ on := 0, ground := Ground.data }, { on := 1, ground := Ground.data }, { on := 5, ground := Ground.data }, { on := 6, ground := Ground.data }], guard := none }) rfl (fun K hK => ?_) AllReadyH.nil)
    go_simp
    go_at_call 8
    refine (KV.out _ hHeld.2).mono ?_
    rintro e w5 ⟨s5, c5, rfl, hO5, hb5⟩
    try replace hA := hbel hb5 hA (hlt hA)
    replace hO5 := own_lower hO5 hHeld.2.size
    go_wp2_with fail
    refine hK.out _ _ (⟨hHeld.1.call hb5, hHeld.2.trans (hb5.mono hHeld.2.size)⟩) (fun hHeld2 => ?_)
    clear hK K hHeld
    have hHeld := hHeld2
    clear hHeld2
    try simp only [Act.put, List.setIfInBounds_toArray, List.set_cons_zero, List.set_cons_succ]
    refine wpAnyH_take (i := 8) (oi := { dst := some 53, op := Op.move (Operand.tmp 61), type := 36, pos := "law.go:402", after := #[{ on := 7, ground := Ground.data }], guard := none }) (v := .tuple #[.agg (ansC vF (.slice s5 vV.length c5)).toArray, .int .i64 vE]) rfl (by kernel_rfl) (by kernel_rfl) (by kernel_rfl) (fun _ _ _ h => h) (Or.inl ⟨by rfl, by intro w hS; go_simp⟩) hHeld ?_
    try simp only [Act.put, List.setIfInBounds_toArray, List.set_cons_zero, List.set_cons_succ]
    refine wpAnyH_take (i := 9) (oi := { dst := some 62, op := Op.extract (Operand.tmp 53) 0, type := 34, pos := "law.go:402", after := #[{ on := 8, ground := Ground.data }], guard := none }) (v := .agg (ansC vF (.slice s5 vV.length c5)).toArray) rfl (by kernel_rfl) (by kernel_rfl) (by kernel_rfl) (fun _ _ _ h => h) (Or.inl ⟨by rfl, by intro w hS; go_simp⟩) hHeld ?_
    try simp only [Act.put, List.setIfInBounds_toArray, List.set_cons_zero, List.set_cons_succ]
    refine wpAnyH_take (i := 10) (oi := { dst := some 63, op := Op.extract (Operand.tmp 53) 1, type := 35, pos := "law.go:402", after := #[{ on := 8, ground := Ground.data }, { on := 12, ground := Ground.gcOnly Departure.lateStores }], guard := none }) (v := .int .i64 vE) rfl (by kernel_rfl) (by kernel_rfl) (by kernel_rfl) (fun _ _ _ h => h) (Or.inl ⟨by rfl, by intro w hS; go_simp⟩) hHeld ?_
    try simp only [Act.put, List.setIfInBounds_toArray, List.set_cons_zero, List.set_cons_succ]
    refine wpAnyH_ready (rs := [12]) (by kernel_rfl) (by simp) ?_
    refine (AllReadyH.cons (o := { dst := none, op := Op.store 34 (Operand.tmp 12) (Operand.tmp 62), type := 0, pos := "law.go:402", after := #[{ on := 11, ground := Ground.data }, { on := 9, ground := Ground.data }, { on := 7, ground := Ground.chain }, { on := 0, ground := Ground.phase }, { on := 1, ground := Ground.phase }, { on := 2, ground := Ground.phase }, { on := 3, ground := Ground.phase }, { on := 4, ground := Ground.phase }, { on := 5, ground := Ground.phase }, { on := 6, ground := Ground.phase }, { on := 7, ground := Ground.phase }, { on := 8, ground := Ground.phase }, { on := 9, ground := Ground.phase }, { on := 10, ground := Ground.textOnly Departure.lateStores }, { on := 11, ground := Ground.phase }], guard := none }) rfl (fun K hK => ?_) AllReadyH.nil)
    rw [if_pos (by rfl)]
    refine wp_store_row 34 _ _ rfl _ (ansC vF (.slice s5 vV.length c5)).toArray rfl rfl 34 _ hA (by rw [Tryd.sizeAn]; rfl) rfl (all_oneCell_toArray (ansC_one _ _ _ _)) ?_
    have qA := setRow_heap _ _ _ (ansC vF (.slice s5 vV.length c5)).toArray _ _ hA
    have qO := own_setO hO5 hA (ansC vF (.slice s5 vV.length c5)).toArray
    refine hK.out _ _ (⟨hHeld.1.setO (Nat.le_trans hws hgB) (ne_one (by omega)) _, below_setRow hHeld.2 hgB _⟩) (fun hHeld2 => ?_)
    clear hK K hHeld
    have hHeld := hHeld2
    clear hHeld2
    try simp only [Act.put, List.setIfInBounds_toArray, List.set_cons_zero, List.set_cons_succ]
    refine wpAnyH_take (i := 13) (oi := { dst := some 13, op := Op.assign (Operand.tmp 63), type := 35, pos := "law.go:402", after := #[{ on := 10, ground := Ground.data }, { on := 12, ground := Ground.chain }, { on := 0, ground := Ground.phase }, { on := 1, ground := Ground.phase }, { on := 2, ground := Ground.phase }, { on := 3, ground := Ground.phase }, { on := 4, ground := Ground.phase }, { on := 5, ground := Ground.phase }, { on := 6, ground := Ground.phase }, { on := 7, ground := Ground.phase }, { on := 8, ground := Ground.phase }, { on := 9, ground := Ground.phase }, { on := 10, ground := Ground.phase }, { on := 11, ground := Ground.phase }, { on := 12, ground := Ground.phase }], guard := none }) (v := .int .i64 vE) rfl (by kernel_rfl) (by kernel_rfl) (by kernel_rfl) (fun _ _ _ h => h) (Or.inl ⟨by rfl, by intro w hS; go_simp⟩) hHeld ?_
    try simp only [Act.put, List.setIfInBounds_toArray, List.set_cons_zero, List.set_cons_succ]
    refine wpAnyH_done (by kernel_rfl) ?_ _
    refine NoPanic.normal ?_
    exact HK _ s5 c5 _ _ _ _ _ _ _ _ _ _ _ _ hHeld.1 hHeld.2 hgB qA qO
end Go.Proofs.YtbjahdbmkcamoaaDoor
