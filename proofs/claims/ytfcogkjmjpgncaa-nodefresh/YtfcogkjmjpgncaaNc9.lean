import Derived.Test.YtfcogkjmjpgncaaNa9
namespace Go.Proofs.Ytfcogkjmjpgncaa
set_option linter.unusedVariables false
set_option linter.unusedSimpArgs false
open Go.RowKit
attribute [local go_sem ↓] Go.wp_at_zero Go.wp_at_succ

/-! Children, leaves, branches and nodes as cells: builds and equality. -/
def chC (p c : Int) (s : List Int) : List Value := [.int .i64 p, .int .i64 c] ++ ints .u8 s
def leafC (k : List Int) (v : Value) : List Value := ints .u8 k ++ [v]
def brC (n : Nd) : List Value := chC n.l n.lc n.ls ++ chC n.r n.rc n.rs
theorem chC_len (p c : Int) (s : List Int) (h : s.length = 32) : (chC p c s).length = 34 := by simp [chC, ints_len, h]
theorem leafC_len (k : List Int) (v : Value) (h : k.length = 32) : (leafC k v).length = 33 := by simp [leafC, ints_len, h]
theorem brC_len {n : Nd} (h : NdOk n) : (brC n).length = 68 := by simp [brC, chC_len _ _ _ h.ls, chC_len _ _ _ h.rs]
theorem chC_one (p c : Int) (s : List Int) : ∀ x ∈ chC p c s, x.oneCell' = true := fun x hx => by
  simp only [chC, List.mem_append, List.mem_cons, List.not_mem_nil, or_false] at hx
  rcases hx with (rfl | rfl) | hx
  · rfl
  · rfl
  · exact ints_one _ _ x hx
theorem leafC_one (k : List Int) (v : Value) (hv : v.oneCell' = true) : ∀ x ∈ leafC k v, x.oneCell' = true := fun x hx => by
  simp only [leafC, List.mem_append, List.mem_cons, List.not_mem_nil, or_false] at hx
  rcases hx with hx | rfl
  · exact ints_one _ _ x hx
  · exact hv
theorem brC_one (n : Nd) : ∀ x ∈ brC n, x.oneCell' = true := fun x hx => by
  simp only [brC, List.mem_append] at hx
  rcases hx with hx | hx
  · exact chC_one _ _ _ x hx
  · exact chC_one _ _ _ x hx
theorem ndC_one (n : Nd) (v : Value) (hv : v.oneCell' = true) : ∀ x ∈ ndC n v, x.oneCell' = true := fun x hx => by
  simp only [ndC, List.mem_append, List.mem_cons, List.not_mem_nil, or_false] at hx
  rcases hx with (rfl | rfl | rfl | rfl | rfl) | hx | hx | hx | rfl
  · rfl
  · rfl
  · rfl
  · rfl
  · rfl
  · exact ints_one _ _ x hx
  · exact ints_one _ _ x hx
  · exact ints_one _ _ x hx
  · exact hv
theorem Try.sizeNd : (Try.prog.info? 32).map (·.size) = some 102 := by kernel_rfl
theorem Try.sizeCh : (Try.prog.info? 58).map (·.size) = some 34 := by kernel_rfl
theorem Try.sizeLf : (Try.prog.info? 60).map (·.size) = some 33 := by kernel_rfl
theorem Try.sizeBr : (Try.prog.info? 62).map (·.size) = some 68 := by kernel_rfl
theorem list32 {l : List Value} (h : l.length = 32) : ∃ x0 x1 x2 x3 x4 x5 x6 x7 x8 x9 x10 x11 x12 x13 x14 x15 x16 x17 x18 x19 x20 x21 x22 x23 x24 x25 x26 x27 x28 x29 x30 x31, l = [x0, x1, x2, x3, x4, x5, x6, x7, x8, x9, x10, x11, x12, x13, x14, x15, x16, x17, x18, x19, x20, x21, x22, x23, x24, x25, x26, x27, x28, x29, x30, x31] := by
  match l, h with
  | [x0, x1, x2, x3, x4, x5, x6, x7, x8, x9, x10, x11, x12, x13, x14, x15, x16, x17, x18, x19, x20, x21, x22, x23, x24, x25, x26, x27, x28, x29, x30, x31], _ => exact ⟨x0, x1, x2, x3, x4, x5, x6, x7, x8, x9, x10, x11, x12, x13, x14, x15, x16, x17, x18, x19, x20, x21, x22, x23, x24, x25, x26, x27, x28, x29, x30, x31, rfl⟩
theorem built_child' (p c : Int) (l : List Value) (hl : l.length = 32) : Try.prog.built 58 [(0, .int .i64 p), (1, .int .i64 c), (2, .agg l.toArray)] = some ([Value.int .i64 p, .int .i64 c] ++ l).toArray := by
  obtain ⟨x0, x1, x2, x3, x4, x5, x6, x7, x8, x9, x10, x11, x12, x13, x14, x15, x16, x17, x18, x19, x20, x21, x22, x23, x24, x25, x26, x27, x28, x29, x30, x31, rfl⟩ := list32 hl
  kernel_rfl
theorem built_child (p c : Int) (s : List Int) (h : s.length = 32) : Try.prog.built 58 [(0, .int .i64 p), (1, .int .i64 c), (2, .agg (ints .u8 s).toArray)] = some (chC p c s).toArray := built_child' p c _ (by rw [ints_len, h])
theorem built_leaf' (l : List Value) (hl : l.length = 32) (sp : Option Addr) (n c : Nat) : Try.prog.built 60 [(0, .agg l.toArray), (1, .slice sp n c)] = some (l ++ [Value.slice sp n c]).toArray := by
  obtain ⟨x0, x1, x2, x3, x4, x5, x6, x7, x8, x9, x10, x11, x12, x13, x14, x15, x16, x17, x18, x19, x20, x21, x22, x23, x24, x25, x26, x27, x28, x29, x30, x31, rfl⟩ := list32 hl
  kernel_rfl
theorem built_leaf (k : List Int) (h : k.length = 32) (sp : Option Addr) (n c : Nat) : Try.prog.built 60 [(0, .agg (ints .u8 k).toArray), (1, .slice sp n c)] = some (leafC k (.slice sp n c)).toArray := built_leaf' _ (by rw [ints_len, h]) sp n c
theorem built_branch' (p c q d : Int) (l r : List Value) (hl : l.length = 32) (hr : r.length = 32) : Try.prog.built 62 [(0, .agg ([Value.int .i64 p, .int .i64 c] ++ l).toArray), (1, .agg ([Value.int .i64 q, .int .i64 d] ++ r).toArray)] = some (([Value.int .i64 p, .int .i64 c] ++ l) ++ ([Value.int .i64 q, .int .i64 d] ++ r)).toArray := by
  obtain ⟨x0, x1, x2, x3, x4, x5, x6, x7, x8, x9, x10, x11, x12, x13, x14, x15, x16, x17, x18, x19, x20, x21, x22, x23, x24, x25, x26, x27, x28, x29, x30, x31, rfl⟩ := list32 hl
  obtain ⟨y0, y1, y2, y3, y4, y5, y6, y7, y8, y9, y10, y11, y12, y13, y14, y15, y16, y17, y18, y19, y20, y21, y22, y23, y24, y25, y26, y27, y28, y29, y30, y31, rfl⟩ := list32 hr
  kernel_rfl
theorem built_branch {n : Nd} (h : NdOk n) : Try.prog.built 62 [(0, .agg (chC n.l n.lc n.ls).toArray), (1, .agg (chC n.r n.rc n.rs).toArray)] = some (brC n).toArray := built_branch' n.l n.lc n.r n.rc _ _ (by rw [ints_len, h.ls]) (by rw [ints_len, h.rs])
theorem built_ndL' (l : List Value) (hl : l.length = 32) (sp : Option Addr) (n c : Nat) : Try.prog.built 32 [(0, .int .i64 1), (7, .agg l.toArray), (8, .slice sp n c)] = some ([Value.int .i64 1, .int .i64 0, .int .i64 0, .int .i64 0, .int .i64 0] ++ (ints .u8 zD ++ (ints .u8 zD ++ (l ++ [Value.slice sp n c])))).toArray := by
  obtain ⟨x0, x1, x2, x3, x4, x5, x6, x7, x8, x9, x10, x11, x12, x13, x14, x15, x16, x17, x18, x19, x20, x21, x22, x23, x24, x25, x26, x27, x28, x29, x30, x31, rfl⟩ := list32 hl
  kernel_rfl
theorem built_ndL (k : List Int) (h : k.length = 32) (vs : List Int) (sp : Option Addr) (n c : Nat) : Try.prog.built 32 [(0, .int .i64 1), (7, .agg (ints .u8 k).toArray), (8, .slice sp n c)] = some (ndC ⟨1, 0, 0, 0, 0, zD, zD, k, vs⟩ (.slice sp n c)).toArray := built_ndL' _ (by rw [ints_len, h]) sp n c
theorem built_ndB' (p q c d : Int) (l r : List Value) (hl : l.length = 32) (hr : r.length = 32) : Try.prog.built 32 [(0, .int .i64 2), (1, .int .i64 p), (2, .int .i64 q), (3, .int .i64 c), (4, .int .i64 d), (5, .agg l.toArray), (6, .agg r.toArray)] = some ([Value.int .i64 2, .int .i64 p, .int .i64 q, .int .i64 c, .int .i64 d] ++ (l ++ (r ++ (ints .u8 zD ++ [Value.slice none 0 0])))).toArray := by
  obtain ⟨x0, x1, x2, x3, x4, x5, x6, x7, x8, x9, x10, x11, x12, x13, x14, x15, x16, x17, x18, x19, x20, x21, x22, x23, x24, x25, x26, x27, x28, x29, x30, x31, rfl⟩ := list32 hl
  obtain ⟨y0, y1, y2, y3, y4, y5, y6, y7, y8, y9, y10, y11, y12, y13, y14, y15, y16, y17, y18, y19, y20, y21, y22, y23, y24, y25, y26, y27, y28, y29, y30, y31, rfl⟩ := list32 hr
  kernel_rfl
theorem built_ndB (l r lc rc : Int) (ls rs : List Int) (h1 : ls.length = 32) (h2 : rs.length = 32) : Try.prog.built 32 [(0, .int .i64 2), (1, .int .i64 l), (2, .int .i64 r), (3, .int .i64 lc), (4, .int .i64 rc), (5, .agg (ints .u8 ls).toArray), (6, .agg (ints .u8 rs).toArray)] = some (ndC ⟨2, l, r, lc, rc, ls, rs, zD, []⟩ (.slice none 0 0)).toArray := built_ndB' l r lc rc _ _ (by rw [ints_len, h1]) (by rw [ints_len, h2])
theorem built_nd0 : Try.prog.built 32 [] = some (ndC nd0 (.slice none 0 0)).toArray := by kernel_rfl
theorem built_ch0 : Try.prog.built 58 [] = some (chC 0 0 zD).toArray := by kernel_rfl
theorem built_D0 : Try.prog.built 24 [] = some (ints .u8 zD).toArray := by kernel_rfl
theorem built_K0 : Try.prog.built 29 [] = some (ints .u8 zD).toArray := by kernel_rfl
/-- A value built, guarded or not. -/
theorem wpList_built {P : Program} {ops : Array Oper} {rest : List Oper} {o : Oper} {a : Act} {w : World} {Q : Exit → Act → World → Prop} (hw : Region.wanted o (yielded ops a.tmps) = true) (t : TypeId) (parts : Array (Nat × Operand)) (ho : o.op = .build t parts) (ps : List (Nat × Value)) (hp : (parts.toList.map fun (i, x) => (i, a.eval x)) = ps) (cs : Array Value) (hb : P.built t ps = some cs)
    (h : wpList P ops Q rest (a.put o.dst (.agg cs)) w) : wpList P ops Q (o :: rest) a w := by
  have e : P.built t (parts.map fun (i, x) => (i, a.eval x)).toList = some cs := by rw [Array.toList_map, hp]; exact hb
  exact BigFrame.wpList_want hw fun _ hK => wp_build t parts ho (by rw [e]; rfl) (by rw [e]; exact hK _ _ h)
/-- A row of bytes compared, at any depth. -/
theorem eqIn_ints {P : Program} {t e : TypeId} {kd : IntKind} {n : Nat} (ht : P.underlying t = some (.array n e)) (hu : P.underlying e = some (.int kd)) (hs : (P.info? e).map (·.size) = some 1) (k : IntKind) (d : Nat) (ax bs : List Int) (ha : ax.length = n) (hb : bs.length = n) (w : World) :
    (Op.equalIn (d + 1 + 1) t (.agg (ax.map (Value.int k)).toArray) (.agg (bs.map (Value.int k)).toArray)).run P w = .ok (decide (ax = bs)) w := by
  obtain ⟨i, hi⟩ := info_of_underlying hu
  have hc : P.cellsOf e = 1 := by simp [Program.cellsOf, hi] at hs ⊢; exact hs
  rw [run_equalIn_array w (d + 1) _ _ ht hi, hc, eqItems_ints hu d k ax bs w _ (fun j hj => by simp at hj; omega), all_range_eq ax bs n ha hb]
theorem part_row {P : Program} {e t : TypeId} {n : Nat} (hu : P.underlying t = some (.array n e)) {m : Nat} (hs : (P.info? t).map (·.size) = some m) (xs : Array Value) (o : Nat) (w : World) : (part t xs o).run P w = .ok (.agg (xs.extract o (o + m))) w := by
  have hagg : (isAgg t).run P w = .ok true w := by
    unfold isAgg
    rw [Sem.run_bind, run_underlying hu w]
    rfl
  obtain ⟨i, hi, rfl⟩ := Option.map_eq_some_iff.1 hs
  simp [part, Sem.run_bind, hagg, sizeOf, typeInfo, hi]
theorem eqFields_cons {P : Program} {d : Nat} {xs ys : Array Value} {f : Field} {fs : List Field} {w : World} {a b : Value} {r : Bool} (hn : f.name ≠ "_") (ha : (part f.type xs f.offset).run P w = .ok a w) (hb : (part f.type ys f.offset).run P w = .ok b w) (hr : (Op.equalIn d f.type a b).run P w = .ok r w) :
    (Op.eqFields d xs ys (f :: fs)).run P w = if r = true then (Op.eqFields d xs ys fs).run P w else .ok false w := by
  simp only [Op.eqFields, ne_eq, hn, not_false_eq_true, if_true, Sem.run_bind, ha, hb, hr, Result.andThen_ok]
  cases r <;> simp
theorem Try.sizeD : (Try.prog.info? 24).map (·.size) = some 32 := by kernel_rfl
theorem Try.stoodCh : Try.prog.stoodInHeld 58 = false := by kernel_rfl
set_option maxRecDepth 100000 in
theorem Try.fieldsCh : ∃ a b c, (Try.prog.fieldsOf 58).toList = [a, b, c] ∧ a.name ≠ "_" ∧ b.name ≠ "_" ∧ c.name ≠ "_" ∧ a.type = 3 ∧ b.type = 3 ∧ c.type = 24 ∧ a.offset = 0 ∧ b.offset = 1 ∧ c.offset = 2 := by
  refine ⟨_, _, _, rfl, ?_, ?_, ?_, ?_, ?_, ?_, ?_, ?_, ?_⟩ <;> decide
theorem Try.undCh : Try.prog.underlying 58 = some (.struct (Try.prog.fieldsOf 58)) := by kernel_rfl
set_option maxRecDepth 100000 in
theorem eqC (p c p' c' : Int) (s s' : List Int) (h : s.length = 32) (h' : s'.length = 32) (w : World) :
    (Op.equalIn 10000 58 (.agg (chC p c s).toArray) (.agg (chC p' c' s').toArray)).run Try.prog w = .ok (decide (p = p' ∧ c = c' ∧ s = s')) w := by
  rw [run_equalIn_struct w 9999 _ _ _ Try.undCh Try.stoodCh]
  obtain ⟨a, b, d, hf, na, nb, nd, ta, tb, td, oa, ob, od⟩ := Try.fieldsCh
  rw [hf]
  have hu3 : Try.prog.underlying 3 = some (.int .i64) := by kernel_rfl
  have e1 : ∀ (x y : Int) (l : List Int), ((chC x y l).toArray)[0]? = some (.int .i64 x) := fun _ _ _ => rfl
  have e2 : ∀ (x y : Int) (l : List Int), ((chC x y l).toArray)[1]? = some (.int .i64 y) := fun _ _ _ => rfl
  have e3 : ∀ (x y : Int) (l : List Int), l.length = 32 → ((chC x y l).toArray).extract 2 (2 + 32) = (l.map (Value.int .u8)).toArray := fun x y l hl => by
    simp only [chC, ints, List.extract_toArray]
    congr 1
    simp only [List.extract_eq_take_drop, List.cons_append, List.nil_append, List.drop_succ_cons, List.drop_zero]
    rw [List.take_of_length_le (by simp [hl])]
  have hd := fun xs o => part_row Try.underlying24 Try.sizeD xs o w
  have hq := eqIn_ints Try.underlying24 Try.underlying5 Try.size5 .u8 9997 s s' h h' w
  rw [eqFields_cons na (by rw [ta, oa]; exact part_int hu3 _ _ _ (e1 p c s) w) (by rw [ta, oa]; exact part_int hu3 _ _ _ (e1 p' c' s') w) (by rw [ta]; exact run_equalIn_int w 9998 3 .i64 .i64 _ _ hu3),
    eqFields_cons nb (by rw [tb, ob]; exact part_int hu3 _ _ _ (e2 p c s) w) (by rw [tb, ob]; exact part_int hu3 _ _ _ (e2 p' c' s') w) (by rw [tb]; exact run_equalIn_int w 9998 3 .i64 .i64 _ _ hu3),
    eqFields_cons nd (by rw [td, od]; exact (hd _ 2).trans (by rw [e3 p c s h])) (by rw [td, od]; exact (hd _ 2).trans (by rw [e3 p' c' s' h'])) (by rw [td]; exact hq)]
  have hn : (Op.eqFields 9999 (chC p c s).toArray (chC p' c' s').toArray []).run Try.prog w = .ok true w := by simp [Op.eqFields]
  rw [hn]
  by_cases k1 : p = p'
  · by_cases k2 : c = c'
    · by_cases k3 : s = s' <;> simp [k1, k2, k3]
    · simp [k1, k2]
  · simp [k1]
end Go.Proofs.Ytfcogkjmjpgncaa
