import Derived.Test.YtbcadiecpcngdaaNj9
namespace Go.Proofs.Ytbcadiecpcngdaa
set_option linter.unusedVariables false
set_option linter.unusedSimpArgs false
open Go.RowKit
attribute [local go_sem ↓] Go.wp_at_zero Go.wp_at_succ

theorem results_c29 {P : Program} {fn : Func} {p q : Tmp} {ty : TypeId} (h : fn.results = #[.cell p ty, .tmp q]) (tmps : Array Value) (w : World) (g : Nat) (t : TypeId) (cs : Array Value) (fr : Nat × Nat) (d : TypeDesc)
    (hp : tmps.getD p undef = .pointer (some ⟨g, 0, none⟩)) (hg : w.heap[g]? = some (.cells cs t fr))
    (hu : P.underlying ty = some d) (hd : (match d with | .struct _ | .array _ _ => true | _ => false) = true) (hi : (P.info? ty).map (·.size) = some cs.size) :
    (results fn tmps).run P w = .ok (.tuple #[.agg cs, tmps.getD q undef]) w := by
  have hp' : tmps[p]?.getD undef = .pointer (some ⟨g, 0, none⟩) := by simpa using hp
  simp [results, h, hp', asAddr, run_loadVar_row w g t ty cs fr d hg hu hd hi]
/-- What Decode tells. -/
def DecP (w : World) (kd : Int) (t : List Int) (e : Ending) (w' : World) : Prop := ∃ s c, e = .returned (.tuple #[.agg (ndC (decV kd t) (.slice s (decV kd t).vs.length c)).toArray, .int .i64 (decE kd t)]) ∧ Own w' w.heap.size (.slice s (decV kd t).vs.length c) (decV kd t).vs ∧ Below w.heap.size w w'
set_option maxRecDepth 100000 in
set_option maxHeartbeats 2000000 in
theorem decode_leafN (w : World) (t : List Int) (hy : Bys t) (hl : 32 ≤ t.length) (b o cap : Nat) (hS : Src w (some ⟨b, o, none⟩) cap t) (hq : ¬ cap = 32) (h5 : t.length ≤ 160) :
    Calls Try.prog 13 #[.int .i64 1, .slice (some ⟨b, o, none⟩) t.length cap] w (DecP w 1 t) := by
  have AN := hid allocNd
  have BZ := hid built_nd0
  have d0 := (BK.nil w).alloc (ndC nd0 (.slice none 0 0)) 39
  have L0 := hid (show (ndC nd0 (.slice none 0 0)).length = 102 from rfl)
  have O0 := hid (ndC_one nd0 (.slice none 0 0) rfl)
  have hk : (t.take 32).length = 32 := by simp; omega
  have KF := hid (fun w1 (hb : Below w.heap.size w w1) => readForm_leafN w1 t hl b o cap (hS.below hb (Nat.le_refl _)) hq)
  have KS := hid (fun w1 => leafStands_any w1 (t.take 32) hk (some ⟨b, o + 32, none⟩) (t.length - 32) (cap - 32) (by have := hS.1; have h2 := hS.2.1; unfold maxLen at h2; omega))
  have mS := mStL (leafC (t.take 32) (.slice (some ⟨b, o + 32, none⟩) (t.length - 32) (cap - 32))).toArray
  have hd : (t.drop 32).length = t.length - 32 := by simp; try omega
  have KN := hid (fun w1 (h : Src w1 (some ⟨b, o + 32, none⟩) (cap - 32) (t.drop 32)) => nodeOf_leaf w1 (t.take 32) (t.drop 32) hk (some ⟨b, o + 32, none⟩) (cap - 32) h (fun h => by cases h) (by omega))
  rw [hd] at KN
  have S32 := hid (show Src w (some ⟨b, o + 32, none⟩) (cap - 32) (t.drop 32) from by
    by_cases h : 32 < t.length
    · exact hS.tail9 32 h
    · rw [List.drop_of_length_le (by omega)]; exact Src.empty _ _ _ (by have := hS.2.1; omega))
  have FG := hid (fun w' (hb : Below w.heap.size w w') s c (hO : Own w' w.heap.size (.slice s (t.length - 32) c) (t.drop 32)) => show DecP w 1 t (.returned (.tuple #[.agg (ndC ⟨1, 0, 0, 0, 0, zD, zD, t.take 32, t.drop 32⟩ (.slice s (t.length - 32) c)).toArray, .int .i64 0])) w' from
    have e1 : decN 1 t = some (readL t) := by unfold decN; rw [if_pos ⟨rfl, by omega, by omega⟩]
    have e2 : decV 1 t = ⟨1, 0, 0, 0, 0, zD, zD, t.take 32, t.drop 32⟩ := by unfold decV; rw [e1]; rfl
    have e3 : decE 1 t = 0 := by unfold decE; rw [e1]; rfl
    ⟨s, c, by rw [e2, e3]; simp only [hd], by rw [e2]; simp only [hd]; exact hO, hb⟩)
  have LN := hid (fun v => ndC_len (n := ⟨1, 0, 0, 0, 0, zD, zD, t.take 32, t.drop 32⟩) ⟨rfl, rfl, hk⟩ v)
  have ON := hid (fun s n c => ndC_one ⟨1, 0, 0, 0, 0, zD, zD, t.take 32, t.drop 32⟩ (.slice s n c) rfl)
  rw [decide_eq_true (show t.length - 32 ≤ 128 by omega)] at KS
  generalize leafC (t.take 32) (.slice (some ⟨b, o + 32, none⟩) (t.length - 32) (cap - 32)) = LC at *
  generalize ndC ⟨1, 0, 0, 0, 0, zD, zD, t.take 32, t.drop 32⟩ = NF at *
  generalize t.drop 32 = U at *
  clear hy hd
  generalize ndC nd0 (.slice none 0 0) = N0 at *
  go_enter Try.func13, Try.ntmps13
  go_wp2_with (first | refine wpList_allocV AN.out rfl rfl ?_)
  refine (KF.out _ (Below.alloc (Below.refl w.heap.size w) (Nat.le_refl _) (.cells N0.toArray 39))).mono ?_
  rintro e w1 ⟨rfl, hb1⟩
  have d1 := d0.call hb1
  go_wp2_with fail
  refine (KS.out _).mono ?_
  rintro e w2 ⟨rfl, hb2⟩
  have d2 := d1.call hb2
  go_wp2_with fail
  refine (KN.out _ (S32.out.below d2.1 (Nat.le_refl _))).mono ?_
  rintro e w3 ⟨s3, c3, rfl, hO3, hb3⟩
  have hl2 := d2.lt (.head _)
  have hlw := d2.1.size
  have d3 := d2.call hb3
  have g0 := d3.row (.head _)
  go_wp2_with (first
    | refine wpList_store_row rfl 39 _ _ rfl w.heap.size _ rfl rfl 39 _ g0 (by rw [Try.sizeNd, List.size_toArray, LN.out]) (by rw [List.size_toArray, List.size_toArray, L0.out, LN.out]) (all_oneCell_toArray (ON.out _ _ _)) ?_)
  have d9 := d3.set (Nat.le_refl _) (by intro x hx; cases hx) (NF (.slice s3 (t.length - 32) c3))
  have hO9 := own_lower (hO3.of_heap (fun k hk => setRow_other _ w.heap.size k (NF (.slice s3 (t.length - 32) c3)).toArray (by have h1 := (hO3.block k hk).1; omega))) hlw
  exact bodyPost_ret (v := .tuple #[.agg (NF (.slice s3 (t.length - 32) c3)).toArray, .int .i64 0]) (results_c29 Try.results13 _ _ w.heap.size 39 _ _ _ rfl (d9.row (.head _)) Try.underlying39 rfl (by rw [Try.sizeNd, List.size_toArray, LN.out])) rfl (FG.out _ d9.1 _ _ hO9)
set_option maxRecDepth 100000 in
set_option maxHeartbeats 2000000 in
theorem decode_longN (w : World) (t : List Int) (hy : Bys t) (hl : 32 ≤ t.length) (b o cap : Nat) (hS : Src w (some ⟨b, o, none⟩) cap t) (hq : ¬ cap = 32) (h5 : ¬ t.length ≤ 160) :
    Calls Try.prog 13 #[.int .i64 1, .slice (some ⟨b, o, none⟩) t.length cap] w (DecP w 1 t) := by
  have AN := hid allocNd
  have BZ := hid built_nd0
  have d0 := (BK.nil w).alloc (ndC nd0 (.slice none 0 0)) 39
  have L0 := hid (show (ndC nd0 (.slice none 0 0)).length = 102 from rfl)
  have O0 := hid (ndC_one nd0 (.slice none 0 0) rfl)
  have hk : (t.take 32).length = 32 := by simp; omega
  have KF := hid (fun w1 (hb : Below w.heap.size w w1) => readForm_leafN w1 t hl b o cap (hS.below hb (Nat.le_refl _)) hq)
  have KS := hid (fun w1 => leafStands_any w1 (t.take 32) hk (some ⟨b, o + 32, none⟩) (t.length - 32) (cap - 32) (by have := hS.1; have h2 := hS.2.1; unfold maxLen at h2; omega))
  have mS := mStL (leafC (t.take 32) (.slice (some ⟨b, o + 32, none⟩) (t.length - 32) (cap - 32))).toArray
  have FB := hid (fun w' (hb : Below w.heap.size w w') => show DecP w 1 t (.returned (.tuple #[.agg (ndC nd0 (.slice none 0 0)).toArray, .int .i64 90])) w' from
    have e1 : decN 1 t = none := by unfold decN; rw [if_neg (by rintro ⟨_, _, h⟩; omega), if_neg (by rintro ⟨h, _⟩; omega)]
    have e2 : decV 1 t = nd0 := by unfold decV; rw [e1]; rfl
    have e3 : decE 1 t = 90 := by unfold decE; rw [e1]; rfl
    ⟨none, 0, by rw [e2, e3]; rfl, by rw [e2]; exact Own.nil _ _, hb⟩)
  rw [decide_eq_false (show ¬ t.length - 32 ≤ 128 by omega)] at KS
  generalize leafC (t.take 32) (.slice (some ⟨b, o + 32, none⟩) (t.length - 32) (cap - 32)) = LC at *
  clear hy
  generalize ndC nd0 (.slice none 0 0) = N0 at *
  go_enter Try.func13, Try.ntmps13
  go_wp2_with (first | refine wpList_allocV AN.out rfl rfl ?_)
  refine (KF.out _ (Below.alloc (Below.refl w.heap.size w) (Nat.le_refl _) (.cells N0.toArray 39))).mono ?_
  rintro e w1 ⟨rfl, hb1⟩
  have d1 := d0.call hb1
  go_wp2_with fail
  refine (KS.out _).mono ?_
  rintro e w2 ⟨rfl, hb2⟩
  have d2 := d1.call hb2
  have g0 := d2.row (.head _)
  go_wp2_with (first
    | refine wpList_built (by rfl) 39 _ rfl _ rfl _ BZ.out ?_
    | refine wpList_store_row rfl 39 _ _ rfl w.heap.size N0.toArray rfl rfl 39 _ g0 (by rw [Try.sizeNd, List.size_toArray, L0.out]) rfl (all_oneCell_toArray O0.out) ?_)
  have d9 := d2.set (Nat.le_refl _) (by intro x hx; cases hx) N0
  exact bodyPost_ret (v := .tuple #[.agg N0.toArray, .int .i64 90]) (results_c29 Try.results13 _ _ w.heap.size 39 _ _ _ rfl (d9.row (.head _)) Try.underlying39 rfl (by rw [Try.sizeNd, List.size_toArray, L0.out])) rfl (FB.out _ d9.1)
set_option maxRecDepth 100000 in
set_option maxHeartbeats 2000000 in
theorem decode_leafE (w : World) (t : List Int) (hy : Bys t) (b o : Nat) (hS : Src w (some ⟨b, o, none⟩) 32 t) (hm32 : t.length = 32) :
    Calls Try.prog 13 #[.int .i64 1, .slice (some ⟨b, o, none⟩) 32 32] w (DecP w 1 t) := by
  have AN := hid allocNd
  have BZ := hid built_nd0
  have d0 := (BK.nil w).alloc (ndC nd0 (.slice none 0 0)) 39
  have L0 := hid (show (ndC nd0 (.slice none 0 0)).length = 102 from rfl)
  have O0 := hid (ndC_one nd0 (.slice none 0 0) rfl)
  have hk : (t.take 32).length = 32 := by simp; omega
  have KF := hid (fun w1 (hb : Below w.heap.size w w1) => readForm_leafE w1 t b o (hS.below hb (Nat.le_refl _)) hm32)
  have KS := hid (fun w1 => leafStands_any w1 (t.take 32) hk (some ⟨b, o, none⟩) (0) (0) (by have := hS.1; have h2 := hS.2.1; unfold maxLen at h2; omega))
  have mS := mStL (leafC (t.take 32) (.slice (some ⟨b, o, none⟩) (0) (0))).toArray
  have hd : (t.drop 32).length = 0 := by simp; try omega
  have KN := hid (fun w1 (h : Src w1 (some ⟨b, o, none⟩) (0) (t.drop 32)) => nodeOf_leaf w1 (t.take 32) (t.drop 32) hk (some ⟨b, o, none⟩) (0) h (fun h => by cases h) (by omega))
  rw [hd] at KN
  have S32 := hid (show Src w (some ⟨b, o, none⟩) 0 (t.drop 32) from by rw [List.drop_of_length_le (by omega)]; exact Src.empty _ _ _ (by simp [maxLen]))
  have FG := hid (fun w' (hb : Below w.heap.size w w') s c (hO : Own w' w.heap.size (.slice s (0) c) (t.drop 32)) => show DecP w 1 t (.returned (.tuple #[.agg (ndC ⟨1, 0, 0, 0, 0, zD, zD, t.take 32, t.drop 32⟩ (.slice s (0) c)).toArray, .int .i64 0])) w' from
    have e1 : decN 1 t = some (readL t) := by unfold decN; rw [if_pos ⟨rfl, by omega, by omega⟩]
    have e2 : decV 1 t = ⟨1, 0, 0, 0, 0, zD, zD, t.take 32, t.drop 32⟩ := by unfold decV; rw [e1]; rfl
    have e3 : decE 1 t = 0 := by unfold decE; rw [e1]; rfl
    ⟨s, c, by rw [e2, e3]; simp only [hd], by rw [e2]; simp only [hd]; exact hO, hb⟩)
  have LN := hid (fun v => ndC_len (n := ⟨1, 0, 0, 0, 0, zD, zD, t.take 32, t.drop 32⟩) ⟨rfl, rfl, hk⟩ v)
  have ON := hid (fun s n c => ndC_one ⟨1, 0, 0, 0, 0, zD, zD, t.take 32, t.drop 32⟩ (.slice s n c) rfl)
  rw [decide_eq_true (show 0 ≤ 128 by omega)] at KS
  generalize leafC (t.take 32) (.slice (some ⟨b, o, none⟩) (0) (0)) = LC at *
  generalize ndC ⟨1, 0, 0, 0, 0, zD, zD, t.take 32, t.drop 32⟩ = NF at *
  generalize t.drop 32 = U at *
  clear hy hd
  generalize ndC nd0 (.slice none 0 0) = N0 at *
  go_enter Try.func13, Try.ntmps13
  go_wp2_with (first | refine wpList_allocV AN.out rfl rfl ?_)
  refine (KF.out _ (Below.alloc (Below.refl w.heap.size w) (Nat.le_refl _) (.cells N0.toArray 39))).mono ?_
  rintro e w1 ⟨rfl, hb1⟩
  have d1 := d0.call hb1
  go_wp2_with fail
  refine (KS.out _).mono ?_
  rintro e w2 ⟨rfl, hb2⟩
  have d2 := d1.call hb2
  go_wp2_with fail
  refine (KN.out _ (S32.out.below d2.1 (Nat.le_refl _))).mono ?_
  rintro e w3 ⟨s3, c3, rfl, hO3, hb3⟩
  have hl2 := d2.lt (.head _)
  have hlw := d2.1.size
  have d3 := d2.call hb3
  have g0 := d3.row (.head _)
  go_wp2_with (first
    | refine wpList_store_row rfl 39 _ _ rfl w.heap.size _ rfl rfl 39 _ g0 (by rw [Try.sizeNd, List.size_toArray, LN.out]) (by rw [List.size_toArray, List.size_toArray, L0.out, LN.out]) (all_oneCell_toArray (ON.out _ _ _)) ?_)
  have d9 := d3.set (Nat.le_refl _) (by intro x hx; cases hx) (NF (.slice s3 (0) c3))
  have hO9 := own_lower (hO3.of_heap (fun k hk => setRow_other _ w.heap.size k (NF (.slice s3 (0) c3)).toArray (by have h1 := (hO3.block k hk).1; omega))) hlw
  exact bodyPost_ret (v := .tuple #[.agg (NF (.slice s3 (0) c3)).toArray, .int .i64 0]) (results_c29 Try.results13 _ _ w.heap.size 39 _ _ _ rfl (d9.row (.head _)) Try.underlying39 rfl (by rw [Try.sizeNd, List.size_toArray, LN.out])) rfl (FG.out _ d9.1 _ _ hO9)
set_option maxRecDepth 100000 in
set_option maxHeartbeats 2000000 in
theorem decode_bad (w : World) (t : List Int) (hy : Bys t) (hl : t.length = 80) (sp : Option Addr) (cap : Nat) (hS : Src w sp cap t) (h4 : ¬ BrS (readB t)) :
    Calls Try.prog 13 #[.int .i64 2, .slice sp 80 cap] w (DecP w 2 t) := by
  have AN := hid allocNd
  have BZ := hid built_nd0
  have d0 := (BK.nil w).alloc (ndC nd0 (.slice none 0 0)) 39
  have L0 := hid (show (ndC nd0 (.slice none 0 0)).length = 102 from rfl)
  have O0 := hid (ndC_one nd0 (.slice none 0 0) rfl)
  have KF := hid (fun w1 (hb : Below w.heap.size w w1) => readForm_branch w1 t hy hl sp cap (hS.below hb (Nat.le_refl _)))
  have ok := readB_ok hl
  have KS := hid (fun w1 => branchStands_any w1 (readB t) ok)
  have mS := mStB (brC (readB t)).toArray
  have FB := hid (fun w' (hb : Below w.heap.size w w') => show DecP w 2 t (.returned (.tuple #[.agg (ndC nd0 (.slice none 0 0)).toArray, .int .i64 90])) w' from
    have e1 : decN 2 t = none := by unfold decN; rw [if_neg (by rintro ⟨h, _⟩; omega), if_neg (by rintro ⟨_, _, h⟩; exact h4 ⟨h.2.2.2.1, h.2.2.2.2.1, h.2.2.2.2.2.1, h.2.2.2.2.2.2.1, h.2.2.2.2.2.2.2⟩)]
    have e2 : decV 2 t = nd0 := by unfold decV; rw [e1]; rfl
    have e3 : decE 2 t = 90 := by unfold decE; rw [e1]; rfl
    ⟨none, 0, by rw [e2, e3]; rfl, by rw [e2]; exact Own.nil _ _, hb⟩)
  rw [decide_eq_false h4] at KS
  generalize brC (readB t) = BC at *
  clear h4
  generalize ndC nd0 (.slice none 0 0) = N0 at *
  go_enter Try.func13, Try.ntmps13
  go_wp2_with (first | refine wpList_allocV AN.out rfl rfl ?_)
  refine (KF.out _ (Below.alloc (Below.refl w.heap.size w) (Nat.le_refl _) (.cells N0.toArray 39))).mono ?_
  rintro e w1 ⟨rfl, hb1⟩
  have d1 := d0.call hb1
  go_wp2_with fail
  refine (KS.out _).mono ?_
  rintro e w2 ⟨rfl, hb2⟩
  have d2 := d1.call hb2
  have g0 := d2.row (.head _)
  go_wp2_with (first
    | refine wpList_built (by rfl) 39 _ rfl _ rfl _ BZ.out ?_
    | refine wpList_store_row rfl 39 _ _ rfl w.heap.size N0.toArray rfl rfl 39 _ g0 (by rw [Try.sizeNd, List.size_toArray, L0.out]) rfl (all_oneCell_toArray O0.out) ?_)
  have d9 := d2.set (Nat.le_refl _) (by intro x hx; cases hx) N0
  exact bodyPost_ret (v := .tuple #[.agg N0.toArray, .int .i64 90]) (results_c29 Try.results13 _ _ w.heap.size 39 _ _ _ rfl (d9.row (.head _)) Try.underlying39 rfl (by rw [Try.sizeNd, List.size_toArray, L0.out])) rfl (FB.out _ d9.1)
set_option maxRecDepth 100000 in
set_option maxHeartbeats 2000000 in
theorem decode_branch (w : World) (t : List Int) (hy : Bys t) (hl : t.length = 80) (sp : Option Addr) (cap : Nat) (hS : Src w sp cap t) (h4 : BrS (readB t)) :
    Calls Try.prog 13 #[.int .i64 2, .slice sp 80 cap] w (DecP w 2 t) := by
  have AN := hid allocNd
  have BZ := hid built_nd0
  have d0 := (BK.nil w).alloc (ndC nd0 (.slice none 0 0)) 39
  have L0 := hid (show (ndC nd0 (.slice none 0 0)).length = 102 from rfl)
  have O0 := hid (ndC_one nd0 (.slice none 0 0) rfl)
  have KF := hid (fun w1 (hb : Below w.heap.size w w1) => readForm_branch w1 t hy hl sp cap (hS.below hb (Nat.le_refl _)))
  have ok := readB_ok hl
  have KS := hid (fun w1 => branchStands_any w1 (readB t) ok)
  have mS := mStB (brC (readB t)).toArray
  have KN := hid (fun w1 => nodeOf_branch w1 (readB t) ok rfl)
  have FG := hid (fun w' (hb : Below w.heap.size w w') => show DecP w 2 t (.returned (.tuple #[.agg (ndC (readB t) (.slice none 0 0)).toArray, .int .i64 0])) w' from
    have e1 : decN 2 t = some (readB t) := by unfold decN; rw [if_neg (by rintro ⟨h, _⟩; omega), if_pos ⟨rfl, hl, ⟨rfl, rfl, rfl, h4.1, h4.2.1, h4.2.2.1, h4.2.2.2.1, h4.2.2.2.2⟩⟩]
    have e2 : decV 2 t = readB t := by unfold decV; rw [e1]; rfl
    have e3 : decE 2 t = 0 := by unfold decE; rw [e1]; rfl
    ⟨none, 0, by rw [e2, e3]; rfl, by rw [e2]; exact Own.nil _ _, hb⟩)
  have LN := hid (ndC_len ok (.slice none 0 0))
  have ON := hid (fun (_ _ _ : Unit) => ndC_one (readB t) (.slice none 0 0) rfl)
  rw [decide_eq_true h4] at KS
  generalize brC (readB t) = BC at *
  generalize ndC (readB t) (.slice none 0 0) = NF at *
  clear h4
  generalize ndC nd0 (.slice none 0 0) = N0 at *
  go_enter Try.func13, Try.ntmps13
  go_wp2_with (first | refine wpList_allocV AN.out rfl rfl ?_)
  refine (KF.out _ (Below.alloc (Below.refl w.heap.size w) (Nat.le_refl _) (.cells N0.toArray 39))).mono ?_
  rintro e w1 ⟨rfl, hb1⟩
  have d1 := d0.call hb1
  go_wp2_with fail
  refine (KS.out _).mono ?_
  rintro e w2 ⟨rfl, hb2⟩
  have d2 := d1.call hb2
  go_wp2_with fail
  refine (KN.out _).mono ?_
  rintro e w3 ⟨rfl, hb3⟩
  have d3 := d2.call hb3
  have g0 := d3.row (.head _)
  go_wp2_with (first
    | refine wpList_store_row rfl 39 _ _ rfl w.heap.size _ rfl rfl 39 _ g0 (by rw [Try.sizeNd, List.size_toArray, LN.out]) (by rw [List.size_toArray, List.size_toArray, L0.out, LN.out]) (all_oneCell_toArray (ON.out () () ())) ?_)
  have d9 := d3.set (Nat.le_refl _) (by intro x hx; cases hx) NF
  exact bodyPost_ret (v := .tuple #[.agg NF.toArray, .int .i64 0]) (results_c29 Try.results13 _ _ w.heap.size 39 _ _ _ rfl (d9.row (.head _)) Try.underlying39 rfl (by rw [Try.sizeNd, List.size_toArray, LN.out])) rfl (FG.out _ d9.1)
set_option maxRecDepth 100000 in
set_option maxHeartbeats 2000000 in
theorem decode_nil1 (w : World) (t : List Int) (sp : Option Addr) (cap : Nat) (hm : t.length ≤ 9223372036854775807) (h : ¬ 32 ≤ t.length) :
    Calls Try.prog 13 #[.int .i64 1, .slice sp t.length cap] w (DecP w 1 t) := by
  have AN := hid allocNd
  have BZ := hid built_nd0
  have d0 := (BK.nil w).alloc (ndC nd0 (.slice none 0 0)) 39
  have L0 := hid (show (ndC nd0 (.slice none 0 0)).length = 102 from rfl)
  have O0 := hid (ndC_one nd0 (.slice none 0 0) rfl)
  have KF := hid (fun w1 (hb : Below w.heap.size w w1) => readForm_nil1 w1 sp t.length cap (by omega) h)
  have FB := hid (fun w' (hb : Below w.heap.size w w') => show DecP w 1 t (.returned (.tuple #[.agg (ndC nd0 (.slice none 0 0)).toArray, .int .i64 90])) w' from
    have e1 : decN 1 t = none := by unfold decN; rw [if_neg (by rintro ⟨_, q, _⟩; omega), if_neg (by rintro ⟨q, _⟩; omega)]
    have e2 : decV 1 t = nd0 := by unfold decV; rw [e1]; rfl
    have e3 : decE 1 t = 90 := by unfold decE; rw [e1]; rfl
    ⟨none, 0, by rw [e2, e3]; rfl, by rw [e2]; exact Own.nil _ _, hb⟩)
  generalize ndC nd0 (.slice none 0 0) = N0 at *
  go_enter Try.func13, Try.ntmps13
  go_wp2_with (first | refine wpList_allocV AN.out rfl rfl ?_)
  refine (KF.out _ (Below.alloc (Below.refl w.heap.size w) (Nat.le_refl _) (.cells N0.toArray 39))).mono ?_
  rintro e w1 ⟨rfl, hb1⟩
  have d1 := d0.call hb1
  have g0 := d1.row (.head _)
  go_wp2_with (first
    | refine wpList_built (by rfl) 39 _ rfl _ rfl _ BZ.out ?_
    | refine wpList_store_row rfl 39 _ _ rfl w.heap.size N0.toArray rfl rfl 39 _ g0 (by rw [Try.sizeNd, List.size_toArray, L0.out]) rfl (all_oneCell_toArray O0.out) ?_)
  have d9 := d1.set (Nat.le_refl _) (by intro x hx; cases hx) N0
  exact bodyPost_ret (v := .tuple #[.agg N0.toArray, .int .i64 90]) (results_c29 Try.results13 _ _ w.heap.size 39 _ _ _ rfl (d9.row (.head _)) Try.underlying39 rfl (by rw [Try.sizeNd, List.size_toArray, L0.out])) rfl (FB.out _ d9.1)
set_option maxRecDepth 100000 in
set_option maxHeartbeats 2000000 in
theorem decode_nil2 (w : World) (t : List Int) (sp : Option Addr) (cap : Nat) (hm : t.length ≤ 9223372036854775807) (h : ¬ t.length = 80) :
    Calls Try.prog 13 #[.int .i64 2, .slice sp t.length cap] w (DecP w 2 t) := by
  have AN := hid allocNd
  have BZ := hid built_nd0
  have d0 := (BK.nil w).alloc (ndC nd0 (.slice none 0 0)) 39
  have L0 := hid (show (ndC nd0 (.slice none 0 0)).length = 102 from rfl)
  have O0 := hid (ndC_one nd0 (.slice none 0 0) rfl)
  have KF := hid (fun w1 (hb : Below w.heap.size w w1) => readForm_nil2 w1 sp t.length cap (by omega) h)
  have FB := hid (fun w' (hb : Below w.heap.size w w') => show DecP w 2 t (.returned (.tuple #[.agg (ndC nd0 (.slice none 0 0)).toArray, .int .i64 90])) w' from
    have e1 : decN 2 t = none := by unfold decN; rw [if_neg (by rintro ⟨q, _⟩; omega), if_neg (by rintro ⟨_, q, _⟩; omega)]
    have e2 : decV 2 t = nd0 := by unfold decV; rw [e1]; rfl
    have e3 : decE 2 t = 90 := by unfold decE; rw [e1]; rfl
    ⟨none, 0, by rw [e2, e3]; rfl, by rw [e2]; exact Own.nil _ _, hb⟩)
  generalize ndC nd0 (.slice none 0 0) = N0 at *
  go_enter Try.func13, Try.ntmps13
  go_wp2_with (first | refine wpList_allocV AN.out rfl rfl ?_)
  refine (KF.out _ (Below.alloc (Below.refl w.heap.size w) (Nat.le_refl _) (.cells N0.toArray 39))).mono ?_
  rintro e w1 ⟨rfl, hb1⟩
  have d1 := d0.call hb1
  have g0 := d1.row (.head _)
  go_wp2_with (first
    | refine wpList_built (by rfl) 39 _ rfl _ rfl _ BZ.out ?_
    | refine wpList_store_row rfl 39 _ _ rfl w.heap.size N0.toArray rfl rfl 39 _ g0 (by rw [Try.sizeNd, List.size_toArray, L0.out]) rfl (all_oneCell_toArray O0.out) ?_)
  have d9 := d1.set (Nat.le_refl _) (by intro x hx; cases hx) N0
  exact bodyPost_ret (v := .tuple #[.agg N0.toArray, .int .i64 90]) (results_c29 Try.results13 _ _ w.heap.size 39 _ _ _ rfl (d9.row (.head _)) Try.underlying39 rfl (by rw [Try.sizeNd, List.size_toArray, L0.out])) rfl (FB.out _ d9.1)
set_option maxRecDepth 100000 in
set_option maxHeartbeats 2000000 in
theorem decode_nil3 (w : World) (k : Int) (t : List Int) (sp : Option Addr) (cap : Nat) (hm : t.length ≤ 9223372036854775807) (h1 : ¬ k = 1) (h2 : ¬ k = 2) :
    Calls Try.prog 13 #[.int .i64 k, .slice sp t.length cap] w (DecP w k t) := by
  have AN := hid allocNd
  have BZ := hid built_nd0
  have d0 := (BK.nil w).alloc (ndC nd0 (.slice none 0 0)) 39
  have L0 := hid (show (ndC nd0 (.slice none 0 0)).length = 102 from rfl)
  have O0 := hid (ndC_one nd0 (.slice none 0 0) rfl)
  have KF := hid (fun w1 (hb : Below w.heap.size w w1) => readForm_nil3 w1 k sp t.length cap (by omega) h1 h2)
  have FB := hid (fun w' (hb : Below w.heap.size w w') => show DecP w k t (.returned (.tuple #[.agg (ndC nd0 (.slice none 0 0)).toArray, .int .i64 90])) w' from
    have e1 : decN k t = none := by unfold decN; rw [if_neg (by rintro ⟨q, _⟩; omega), if_neg (by rintro ⟨q, _⟩; omega)]
    have e2 : decV k t = nd0 := by unfold decV; rw [e1]; rfl
    have e3 : decE k t = 90 := by unfold decE; rw [e1]; rfl
    ⟨none, 0, by rw [e2, e3]; rfl, by rw [e2]; exact Own.nil _ _, hb⟩)
  generalize ndC nd0 (.slice none 0 0) = N0 at *
  go_enter Try.func13, Try.ntmps13
  go_wp2_with (first | refine wpList_allocV AN.out rfl rfl ?_)
  refine (KF.out _ (Below.alloc (Below.refl w.heap.size w) (Nat.le_refl _) (.cells N0.toArray 39))).mono ?_
  rintro e w1 ⟨rfl, hb1⟩
  have d1 := d0.call hb1
  have g0 := d1.row (.head _)
  go_wp2_with (first
    | refine wpList_built (by rfl) 39 _ rfl _ rfl _ BZ.out ?_
    | refine wpList_store_row rfl 39 _ _ rfl w.heap.size N0.toArray rfl rfl 39 _ g0 (by rw [Try.sizeNd, List.size_toArray, L0.out]) rfl (all_oneCell_toArray O0.out) ?_)
  have d9 := d1.set (Nat.le_refl _) (by intro x hx; cases hx) N0
  exact bodyPost_ret (v := .tuple #[.agg N0.toArray, .int .i64 90]) (results_c29 Try.results13 _ _ w.heap.size 39 _ _ _ rfl (d9.row (.head _)) Try.underlying39 rfl (by rw [Try.sizeNd, List.size_toArray, L0.out])) rfl (FB.out _ d9.1)
theorem decode_any (w : World) (kd : Int) (t : List Int) (hy : Bys t) (sp : Option Addr) (cap : Nat) (hS : Src w sp cap t) :
    Calls Try.prog 13 #[.int .i64 kd, .slice sp t.length cap] w (DecP w kd t) := by
  have hm : t.length ≤ 9223372036854775807 := by have h1 := hS.1; have h2 := hS.2.1; unfold maxLen at h2; omega
  by_cases h1 : kd = 1
  · subst h1
    by_cases h2 : 32 ≤ t.length
    · obtain ⟨b, o, rfl⟩ : ∃ b o, sp = some ⟨b, o, none⟩ := by obtain ⟨_, _, b, o, h3, h4, _⟩ := hS; exact ⟨b, o, h4 (by omega)⟩
      by_cases h3 : cap = 32
      · subst h3
        have h4 : t.length = 32 := by have := hS.1; omega
        rw [h4]; exact decode_leafE w t hy b o hS h4
      · by_cases h4 : t.length ≤ 160
        · exact decode_leafN w t hy h2 b o cap hS h3 h4
        · exact decode_longN w t hy h2 b o cap hS h3 h4
    · exact decode_nil1 w t sp cap hm h2
  · by_cases h2 : kd = 2
    · subst h2
      by_cases h3 : t.length = 80
      · rw [h3]
        by_cases h4 : BrS (readB t)
        · exact decode_branch w t hy h3 sp cap hS h4
        · exact decode_bad w t hy h3 sp cap hS h4
      · exact decode_nil2 w t sp cap hm h3
    · exact decode_nil3 w kd t sp cap hm h1 h2
end Go.Proofs.Ytbcadiecpcngdaa
