import Derived.Test.YtfogohpmphgkkaaDoorLg7
import Derived.Test.YtfogohpmphgkkaaDoorLg9
namespace Go.Proofs.YtfogohpmphgkkaaDoor
set_option linter.unusedVariables false
set_option linter.unusedSimpArgs false
open Go.RowKit Go.Extern.Stop Go.Stop Go.Extern
attribute [local go_sem ↓] Go.wp_at_zero Go.wp_at_succ

theorem TabP.later {w w' : World} (h : TabP w) (hb : Below w.heap.size w w') : TabP w' := ((Lib.tabBelow_of_tabIs h).on hb).here
def at4 : ByteArray := ⟨#[32, 97, 116, 32]⟩
def colon : ByteArray := ⟨#[58, 32]⟩
/-- What Where tells. -/
def whereB (c : ByteArray) (n : Int) : ByteArray := if n = -1 then c else (c ++ at4) ++ ⟨(Lib.itoa n).toArray⟩
theorem itoa_size (n : Int) (h0 : -9223372036854775808 ≤ n) (h1 : n ≤ 9223372036854775807) : (⟨(Lib.itoa n).toArray⟩ : ByteArray).size ≤ 21 := by
  have := Lib.itoa_length_le n h0 h1
  simpa [ByteArray.size] using this
theorem whereB_size (c : ByteArray) (n : Int) (h0 : -9223372036854775808 ≤ n) (h1 : n ≤ 9223372036854775807) : (whereB c n).size ≤ c.size + 25 := by
  unfold whereB
  split
  · omega
  · have := itoa_size n h0 h1
    rw [ByteArray.size_append, ByteArray.size_append, show at4.size = 4 from rfl]; omega
theorem strAdd (a b : ByteArray) (h : a.size + b.size ≤ 9223372036854775807) (w : World) : (Op.stringOp .add a b).run Tryd.prog w = .ok (.string (a ++ b)) w := run_string_add_sum w a b h
set_option maxRecDepth 100000 in
set_option maxHeartbeats 4000000 in
theorem dec_zero (w : World) : Calls Tryd.prog 22 #[.int .i64 0] w fun e w' => e = .returned (.string ⟨(Lib.itoa 0).toArray⟩) ∧ Below w.heap.size w w' := by
  have e : (⟨(Lib.itoa 0).toArray⟩ : ByteArray) = ⟨#[48]⟩ := by
    unfold Lib.itoa; rw [if_neg (by decide)]; rw [Lib.decDigits.eq_1, dif_pos (by decide)]; rfl
  rw [e]
  go_enter Tryd.func22, Tryd.ntmps22
  go_wp2
  go_ret
  exact ⟨rfl, Below.refl _ _⟩
theorem decimal_all (w : World) (n : Int) (h0 : -9223372036854775808 ≤ n) (h1 : n ≤ 9223372036854775807) :
    Calls Tryd.prog 22 #[.int .i64 n] w fun e w' => e = .returned (.string ⟨(Lib.itoa n).toArray⟩) ∧ Below w.heap.size w w' := by
  by_cases h : n = 0
  · subst h; exact dec_zero w
  · exact decimal_any w n h0 h1 h
set_option maxRecDepth 100000 in
set_option maxHeartbeats 4000000 in
theorem rwhere_any (w : World) (c : ByteArray) (n : Int) (h0 : -9223372036854775808 ≤ n) (h1 : n ≤ 9223372036854775807) (hc : c.size ≤ 140737488351232) :
    Calls Tryd.prog 13 #[.string c, .int .i64 n] w fun e w' => e = .returned (.string (whereB c n)) ∧ Below w.heap.size w w' := by
  by_cases h : n = -1
  · subst h
    rw [show whereB c (-1) = c from if_pos rfl]
    go_enter Tryd.func13, Tryd.ntmps13
    go_wp2
    go_ret
    exact ⟨rfl, Below.refl _ _⟩
  · rw [show whereB c n = (c ++ at4) ++ ⟨(Lib.itoa n).toArray⟩ from if_neg h]
    have hn : (n == -1) = false := by simpa using h
    have D := hid (decimal_all w n h0 h1)
    have hi := itoa_size n h0 h1
    have a1 := strAdd c at4 (by rw [show at4.size = 4 from rfl]; omega)
    have a2 := strAdd (c ++ at4) ⟨(Lib.itoa n).toArray⟩ (by rw [ByteArray.size_append, show at4.size = 4 from rfl]; omega)
    unfold at4 at *
    generalize c ++ (⟨#[32, 97, 116, 32]⟩ : ByteArray) = c2 at *
    generalize (⟨(Lib.itoa n).toArray⟩ : ByteArray) = d at *
    generalize c2 ++ d = c3 at *
    clear hi h
    go_enter Tryd.func13, Tryd.ntmps13
    go_wp2_with fail
    refine D.out.mono ?_
    rintro _ w1 ⟨rfl, hb⟩
    go_wp2
    go_ret
    exact ⟨rfl, hb⟩
set_option maxRecDepth 100000 in
set_option maxHeartbeats 4000000 in
theorem pwhere_any (w : World) (hT : TabP w) (c : ByteArray) (n : Int) (h0 : -9223372036854775808 ≤ n) (h1 : n ≤ 9223372036854775807) (hc : c.size ≤ 140737488351232) :
    Calls Tryd.prog 12 #[.agg #[.string c, .int .i64 n]] w fun e w' => e = .returned (.string (whereB c n)) ∧ Below w.heap.size w w' := by
  by_cases h : n = -1
  · subst h
    rw [show whereB c (-1) = c from if_pos rfl]
    go_enter Tryd.func12, Tryd.ntmps12
    go_wp2
    go_ret
    exact ⟨rfl, bel1 _ _⟩
  · rw [show whereB c n = (c ++ at4) ++ ⟨(Lib.itoa n).toArray⟩ from if_neg h]
    have hn : (n == -1) = false := by simpa using h
    have hi := itoa_size n h0 h1
    have a1 := strAdd c at4 (by rw [show at4.size = 4 from rfl]; omega)
    have a2 := strAdd (c ++ at4) ⟨(Lib.itoa n).toArray⟩ (by rw [ByteArray.size_append, show at4.size = 4 from rfl]; omega)
    have I := hid (fun (w' : World) (hb : Below (w.alloc (.cells #[.string c, .int .i64 n] 37)).heap.size (w.alloc (.cells #[.string c, .int .i64 n] 37)) w') => itoa_any w' (hT.later (bel3 (bel1 w _) hb)) n h0 h1)
    have k0 : (w.alloc (.cells #[.string c, .int .i64 n] 37)).cell? ⟨w.heap.size, 0, none⟩ = some (.string c) := World.cell?_alloc_at (w := w) _ 37 w.heap.size 0 rfl
    have k1 : (w.alloc (.cells #[.string c, .int .i64 n] 37)).cell? ⟨w.heap.size, 1, none⟩ = some (.int .i64 n) := World.cell?_alloc_at (w := w) _ 37 w.heap.size 1 rfl
    unfold at4 at *
    generalize c ++ (⟨#[32, 97, 116, 32]⟩ : ByteArray) = c2 at *
    generalize (⟨(Lib.itoa n).toArray⟩ : ByteArray) = d at *
    generalize c2 ++ d = c3 at *
    clear hi h
    go_enter Tryd.func12, Tryd.ntmps12
    go_wp2
    refine wp_region_noPanic ?_
    refine wp_region_held_drew (S := fun w' => Below (w.alloc (.cells #[.string c, .int .i64 n] 37)).heap.size (w.alloc (.cells #[.string c, .int .i64 n] 37)) w') (by kernel_rfl) (Below.refl _ _).drew (fun hHeld => ?_)
    refine wpAnyH_take (i := 0) (oi := { dst := some 8, op := Op.fieldAddr 37 (Operand.tmp 1) 0, type := 0, pos := "fault.go:97", after := #[], guard := none }) (v := .pointer (some ⟨w.heap.size, 0, none⟩)) rfl (by kernel_rfl) (by kernel_rfl) (by kernel_rfl) (fun _ _ _ h => h) (Or.inl ⟨by rfl, by intro w hS; go_simp⟩) hHeld ?_
    try simp only [Act.put, List.setIfInBounds_toArray, List.set_cons_zero, List.set_cons_succ]
    refine wpAnyH_take (i := 3) (oi := { dst := some 11, op := Op.fieldAddr 37 (Operand.tmp 1) 1, type := 0, pos := "fault.go:97", after := #[], guard := none }) (v := .pointer (some ⟨w.heap.size, 1, none⟩)) rfl (by kernel_rfl) (by kernel_rfl) (by kernel_rfl) (fun _ _ _ h => h) (Or.inl ⟨by rfl, by intro w hS; go_simp⟩) hHeld ?_
    try simp only [Act.put, List.setIfInBounds_toArray, List.set_cons_zero, List.set_cons_succ]
    refine wpAnyH_take (i := 1) (oi := { dst := some 9, op := Op.load 9 (Operand.tmp 8), type := 9, pos := "fault.go:97", after := #[{ on := 0, ground := Ground.data }], guard := none }) (v := .string c) rfl (by kernel_rfl) (by kernel_rfl) (by kernel_rfl) (fun _ _ _ h => h) (Or.inl ⟨by rfl, by intro w hS; have hc := ((hS.cell (block_lt_of_cell k0)).trans k0); go_simp⟩) hHeld ?_
    try simp only [Act.put, List.setIfInBounds_toArray, List.set_cons_zero, List.set_cons_succ]
    refine wpAnyH_take (i := 4) (oi := { dst := some 12, op := Op.load 3 (Operand.tmp 11), type := 3, pos := "fault.go:97", after := #[{ on := 3, ground := Ground.data }], guard := none }) (v := .int .i64 n) rfl (by kernel_rfl) (by kernel_rfl) (by kernel_rfl) (fun _ _ _ h => h) (Or.inl ⟨by rfl, by intro w hS; have hc := ((hS.cell (block_lt_of_cell k1)).trans k1); go_simp⟩) hHeld ?_
    try simp only [Act.put, List.setIfInBounds_toArray, List.set_cons_zero, List.set_cons_succ]
    refine wpAnyH_take (i := 2) (oi := { dst := some 10, op := Op.binOp BinOp.add 9 (Operand.tmp 9) (Operand.const (Value.string { data := #[32, 97, 116, 32] })) 9, type := 9, pos := "fault.go:97", after := #[{ on := 1, ground := Ground.data }], guard := none }) (v := .string c2) rfl (by kernel_rfl) (by kernel_rfl) (by kernel_rfl) (fun _ _ _ h => h) (Or.inl ⟨by rfl, by intro w hS; go_simp⟩) hHeld ?_
    try simp only [Act.put, List.setIfInBounds_toArray, List.set_cons_zero, List.set_cons_succ]
    refine wpAnyH_ready (rs := [5]) (by kernel_rfl) (by simp) ?_
    refine (AllReadyH.cons (o := { dst := some 13, op := Op.call { callee := Callee.value (Operand.func 21), args := #[Operand.tmp 12], argTypes := #[3] }, type := 9, pos := "fault.go:97", after := #[{ on := 4, ground := Ground.data }], guard := none }) rfl (fun K hK => ?_) AllReadyH.nil)
    go_simp
    go_at_call 21
    refine (I.out _ hHeld).mono ?_
    rintro e w4 ⟨rfl, hb4⟩
    go_wp2_with fail
    refine hK.out _ _ (hHeld.trans (hb4.mono hHeld.size)) (fun hHeld2 => ?_)
    clear hK K hHeld
    have hHeld := hHeld2
    clear hHeld2
    try simp only [Act.put, List.setIfInBounds_toArray, List.set_cons_zero, List.set_cons_succ]
    refine wpAnyH_take (i := 6) (oi := { dst := some 14, op := Op.binOp BinOp.add 9 (Operand.tmp 10) (Operand.tmp 13) 9, type := 9, pos := "fault.go:97", after := #[{ on := 2, ground := Ground.data }, { on := 5, ground := Ground.data }], guard := none }) (v := .string c3) rfl (by kernel_rfl) (by kernel_rfl) (by kernel_rfl) (fun _ _ _ h => h) (Or.inl ⟨by rfl, by intro w hS; go_simp⟩) hHeld ?_
    try simp only [Act.put, List.setIfInBounds_toArray, List.set_cons_zero, List.set_cons_succ]
    refine wpAnyH_take (i := 7) (oi := { dst := some 2, op := Op.assign (Operand.tmp 14), type := 9, pos := "fault.go:97", after := #[{ on := 6, ground := Ground.data }, { on := 5, ground := Ground.chain }, { on := 0, ground := Ground.phase }, { on := 1, ground := Ground.phase }, { on := 2, ground := Ground.phase }, { on := 3, ground := Ground.phase }, { on := 4, ground := Ground.phase }, { on := 5, ground := Ground.phase }, { on := 6, ground := Ground.phase }], guard := none }) (v := .string c3) rfl (by kernel_rfl) (by kernel_rfl) (by kernel_rfl) (fun _ _ _ h => h) (Or.inl ⟨by rfl, by intro w hS; go_simp⟩) hHeld ?_
    try simp only [Act.put, List.setIfInBounds_toArray, List.set_cons_zero, List.set_cons_succ]
    refine wpAnyH_done (by kernel_rfl) ?_ _
    refine NoPanic.normal ?_
    have HB := hid hHeld
    clear hHeld
    go_wp2
    go_ret
    exact ⟨rfl, bel3 (bel1 w _) HB.out⟩
end Go.Proofs.YtfogohpmphgkkaaDoor
