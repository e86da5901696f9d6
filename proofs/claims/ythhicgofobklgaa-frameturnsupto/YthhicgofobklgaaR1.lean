import Derived.Test.YthhicgofobklgaaN5
namespace Go.Proofs.Ythhicgofobklgaa
set_option linter.unusedVariables false
set_option linter.unusedSimpArgs false
open Go.RowKit
attribute [local go_sem ↓] Go.wp_at_zero Go.wp_at_succ

/-- A list cut or filled up with zeros. -/
def tlF (l : List Int) (n : Nat) : List Int := l.take n ++ List.replicate (n - l.length) 0
theorem tlF_len (l : List Int) (n : Nat) : (tlF l n).length = n := by simp [tlF]; omega
theorem tlF_byts {l : List Int} (h : Byts l) (n : Nat) : Byts (tlF l n) := byts_app (h.take n) (rep_byts _)
set_option maxRecDepth 100000 in
set_option maxHeartbeats 400000 in
theorem slot_any (w : World) (X Y ts : List Int) (hX : X.length = 64) (hY : Y.length = 192) (sp : Option Addr) (cap : Nat) (hS : Src w sp cap (X ++ Y)) (tp : Option Addr) (tc : Nat) (hT : Src w tp tc ts) :
    Calls Try.prog 7 #[.slice sp 256 cap, .slice tp ts.length tc] w fun e w' => ∃ v, e = .returned v ∧ Own w' w.heap.size v (X ++ tlF ts 192) ∧ Below w.heap.size w w' := by
  have hl : (X ++ Y).length = 256 := by rw [List.length_append, hX, hY]
  have hS' := hS
  obtain ⟨hc, hm, b, o, hb, hsp, hsrc⟩ := hS
  obtain rfl := hsp (by omega)
  have hM := hS'.mid 0 64 (by omega) (hb (by omega)) cap (by omega) hm
  rw [List.drop_zero, Nat.add_zero, List.take_left' hX] at hM
  have hcp := copied_any w X _ _ hM (by omega)
  rw [hX] at hcp
  have i1 : 64 ≤ cap := by omega
  have i2 : (64 : Int) ≤ (cap : Int) := by omega
  obtain ⟨tc1, tm, tb, tO, htb, htp, htc⟩ := hT
  have i3 : (ts.length : Int) ≤ 9223372036854775807 := by unfold maxLen at tm; omega
  clear hM hS' hsrc hl
  go_enter Try.func7, Try.ntmps7
  go_wp2_with fail
  refine hcp.mono ?_
  rintro e w1 ⟨v1, rfl, hO1, b1⟩
  go_wp2
  go_loopw [5, 6] (fun u iv wr => ∃ k : Nat, k ≤ 192 ∧ iv = .int .i64 k ∧ Own wr w.heap.size u (X ++ tlF ts k) ∧ Below w.heap.size w wr) (fun _ iv _ => 192 - (intOf iv).toNat)
  case atStart => exact ⟨0, by omega, rfl, by simpa [tlF] using hO1, b1⟩
  case round =>
    clear hO1 b1
    obtain ⟨k, hk, rfl, hO, hB⟩ := hrel
    by_cases hlt : k < 192
    · have i4 : (k : Int) < 192 := by omega
      have KL := hid (show (X ++ tlF ts k).length + 1 ≤ 140737488355328 by rw [List.length_append, tlF_len, hX]; omega)
      by_cases hz : k < ts.length
      · have i5 : (k : Int) < (ts.length : Int) := by omega
        obtain rfl := htp (by omega)
        have c0 := (hB.cell (p := ⟨tb, tO + k, none⟩) (htb (by omega))).trans (htc k hz)
        have HS := hid (show X ++ tlF ts (k + 1) = (X ++ tlF ts k) ++ [ts.getD k 0] by
          unfold tlF
          rw [show k + 1 - ts.length = 0 by omega, show k - ts.length = 0 by omega, List.replicate_zero, List.append_nil, List.append_nil, List.take_succ_eq_append_getElem hz, List.getD_eq_getElem?_getD, List.getElem?_eq_getElem hz, List.append_assoc]; rfl)
        generalize ts.getD k 0 = x at *
        generalize X ++ tlF ts k = zk at *
        go_wp2_with (first | (at_builtin; refine wpList_push_any rfl (.tmp 18) (.tmp 23) rfl w.heap.size _ _ x rfl hO rfl KL.out hB.size _ _ ?_; intro v2 w2 hO2 hB2))
        go_roundw
        case rel => exact ⟨k + 1, by omega, by go_num, (by rw [HS.out]; exact hO2), hB.trans hB2⟩
        case measure => simp [intOf]; omega
      · have i5 : ¬ ((k : Int) < (ts.length : Int)) := by omega
        have HS := hid (show X ++ tlF ts (k + 1) = (X ++ tlF ts k) ++ [0] by
          unfold tlF
          rw [List.take_of_length_le (by omega), List.take_of_length_le (by omega), show k + 1 - ts.length = (k - ts.length) + 1 by omega, List.replicate_succ', List.append_assoc, List.append_assoc])
        generalize X ++ tlF ts k = zk at *
        go_wp2_with (first | (at_builtin; refine wpList_push_any rfl (.tmp 25) (.tmp 26) rfl w.heap.size _ _ 0 rfl hO rfl KL.out hB.size _ _ ?_; intro v2 w2 hO2 hB2))
        go_roundw
        case rel => exact ⟨k + 1, by omega, by go_num, (by rw [HS.out]; exact hO2), hB.trans hB2⟩
        case measure => simp [intOf]; omega
    · obtain rfl : k = 192 := by omega
      clear hlt
      go_wp2
      go_ret
      exact ⟨_, rfl, hO, hB⟩
theorem run_make256 (a : Act) (o : Oper) (ho : o.op = .makeSlice 24 (.const (.int .i64 256)) (.const (.int .i64 256))) (w : World) : (execOp a.eval o).run Try.prog w = .ok (.value (.slice (some ⟨w.heap.size, 0, none⟩) 256 256)) (w.alloc (.cells (ints .u8 (zz 256)).toArray 5)) := by
  unfold execOp
  rw [ho]
  kernel_rfl
theorem step_make256 {ops : Array Oper} {o : Oper} {a : Act} {w : World} {K : Act → World → Prop} {Q : Exit → Act → World → Prop} {E : Prop} (hw : Region.wanted o (yielded ops a.tmps) = true) (ho : o.op = .makeSlice 24 (.const (.int .i64 256)) (.const (.int .i64 256)))
    (h : ∀ G w', w'.heap[G]? = some (.cells (ints .u8 (zz 256)).toArray 5 (0, 0)) → Below w.heap.size w w' → w.heap.size ≤ G → K (a.put o.dst (.slice (some ⟨G, 0, none⟩) 256 256)) w') :
    if Region.wanted o (yielded ops a.tmps) = true then Oper.wp Try.prog o a w K Q else E := by
  rw [if_pos hw]
  unfold Oper.wp
  rw [run_make256 a o ho w]
  exact h _ _ (hnew w _) (below_new w _) (Nat.le_refl _)
theorem run_allocSl (a : Act) (o : Oper) (ho : o.op = .alloc 25) (w : World) : (execOp a.eval o).run Try.prog w = .ok (.value (.pointer (some ⟨w.heap.size, 0, none⟩))) (w.alloc (.cells #[.slice none 0 0, .slice none 0 0] 25)) := by
  unfold execOp
  rw [ho]
  kernel_rfl
theorem step_allocSl {ops : Array Oper} {o : Oper} {a : Act} {w : World} {K : Act → World → Prop} {Q : Exit → Act → World → Prop} {E : Prop} (hw : Region.wanted o (yielded ops a.tmps) = true) (ho : o.op = .alloc 25)
    (h : ∀ G w', w'.heap[G]? = some (.cells #[.slice none 0 0, .slice none 0 0] 25 (0, 0)) → Below w.heap.size w w' → w.heap.size ≤ G → K (a.put o.dst (.pointer (some ⟨G, 0, none⟩))) w') :
    if Region.wanted o (yielded ops a.tmps) = true then Oper.wp Try.prog o a w K Q else E := by
  rw [if_pos hw]
  unfold Oper.wp
  rw [run_allocSl a o ho w]
  exact h _ _ (hnew w _) (below_new w _) (Nat.le_refl _)
set_option maxRecDepth 100000 in
set_option maxHeartbeats 2000000 in
theorem region3 (w : World) (a0 a1 W P : Int) (tp : Option Addr) (tn tc : Nat) (Q : Exit → Act → World → Prop)
    (hQ : ∀ gA gB GS w', w'.heap[gA]? = some (.cells (ints .u8 (zz 256)).toArray 5 (0, 0)) → w'.heap[gB]? = some (.cells (ints .u8 (zz 256)).toArray 5 (0, 0)) → w'.heap[GS]? = some (.cells #[.slice (some ⟨gA, 0, none⟩) 256 256, .slice (some ⟨gB, 0, none⟩) 256 256] 25 (0, 0)) → gA ≠ GS → gB ≠ GS → gA ≠ gB → w.heap.size ≤ GS → Below w.heap.size w w' →
      Q .normal { tmps := (.int .i64 a0 :: .int .i64 a1 :: .slice tp tn tc :: undef :: undef :: undef :: .bool false :: .int .i64 W :: .int .i64 P :: .pointer (some ⟨GS, 0, none⟩) :: undef :: undef :: undef :: undef :: undef :: undef :: undef :: undef :: undef :: .int .i64 a0 :: .int .i64 W :: .int .i64 a1 :: .int .i64 P :: .slice (some ⟨gA, 0, none⟩) 256 256 :: .slice (some ⟨gB, 0, none⟩) 256 256 :: .agg #[.slice (some ⟨gA, 0, none⟩) 256 256, .slice (some ⟨gB, 0, none⟩) 256 256] :: undef :: undef :: undef :: undef :: undef :: undef :: undef :: undef :: undef :: undef :: undef :: undef :: undef :: undef :: undef :: undef :: undef :: undef :: undef :: undef :: undef :: undef :: undef :: undef :: undef :: undef :: undef :: undef :: undef :: undef :: undef :: undef :: undef :: undef :: undef :: undef :: undef :: undef :: undef :: undef :: undef :: undef :: undef :: undef :: undef :: undef :: undef :: undef :: undef :: undef :: undef :: undef :: undef :: undef :: undef :: undef :: undef :: undef :: undef :: undef :: undef :: undef :: undef :: undef :: undef :: undef :: undef :: undef :: undef :: undef :: undef :: undef :: undef :: undef :: undef :: undef :: undef :: undef :: undef :: undef :: undef :: undef :: undef :: undef :: undef :: undef :: undef :: undef :: undef :: undef :: undef :: undef :: undef :: undef :: undef :: undef :: undef :: undef :: undef :: undef :: undef :: undef :: undef :: undef :: undef :: undef :: undef :: undef :: undef :: undef :: undef :: undef :: undef :: undef :: undef :: undef :: undef :: undef :: undef :: undef :: undef :: undef :: undef :: undef :: undef :: undef :: undef :: undef :: undef :: undef :: undef :: undef :: undef :: undef :: undef :: undef :: undef :: undef :: undef :: undef :: undef :: undef :: undef :: undef :: undef :: undef :: undef :: undef :: undef :: undef :: undef :: undef :: undef :: undef :: undef :: undef :: undef :: undef :: undef :: undef :: undef :: undef :: undef :: undef :: undef :: undef :: undef :: undef :: ([] : List Value)).toArray, defers := [] } w') :
    Code.wp Try.prog (Code.region 3 #[{ dst := some 23, op := Op.makeSlice 24 (Operand.const (Value.int IntKind.i64 256)) (Operand.const (Value.int IntKind.i64 256)), type := 24, pos := "law.go:396", after := #[], guard := none }, { dst := some 24, op := Op.makeSlice 24 (Operand.const (Value.int IntKind.i64 256)) (Operand.const (Value.int IntKind.i64 256)), type := 24, pos := "law.go:396", after := #[], guard := none }, { dst := some 25, op := Op.build 25 #[(0, Operand.tmp 23), (1, Operand.tmp 24)], type := 25, pos := "law.go:396", after := #[{ on := 0, ground := Ground.data }, { on := 1, ground := Ground.data }], guard := none }, { dst := some 9, op := Op.alloc 25, type := 0, pos := "law.go:396", after := #[], guard := none }, { dst := none, op := Op.store 25 (Operand.tmp 9) (Operand.tmp 25), type := 0, pos := "law.go:396", after := #[{ on := 3, ground := Ground.data }, { on := 2, ground := Ground.data }, { on := 0, ground := Ground.phase }, { on := 1, ground := Ground.phase }, { on := 2, ground := Ground.phase }, { on := 3, ground := Ground.phase }], guard := none }] true) Q { tmps := (.int .i64 a0 :: .int .i64 a1 :: .slice tp tn tc :: undef :: undef :: undef :: .bool false :: .int .i64 W :: .int .i64 P :: undef :: undef :: undef :: undef :: undef :: undef :: undef :: undef :: undef :: undef :: .int .i64 a0 :: .int .i64 W :: .int .i64 a1 :: .int .i64 P :: undef :: undef :: undef :: undef :: undef :: undef :: undef :: undef :: undef :: undef :: undef :: undef :: undef :: undef :: undef :: undef :: undef :: undef :: undef :: undef :: undef :: undef :: undef :: undef :: undef :: undef :: undef :: undef :: undef :: undef :: undef :: undef :: undef :: undef :: undef :: undef :: undef :: undef :: undef :: undef :: undef :: undef :: undef :: undef :: undef :: undef :: undef :: undef :: undef :: undef :: undef :: undef :: undef :: undef :: undef :: undef :: undef :: undef :: undef :: undef :: undef :: undef :: undef :: undef :: undef :: undef :: undef :: undef :: undef :: undef :: undef :: undef :: undef :: undef :: undef :: undef :: undef :: undef :: undef :: undef :: undef :: undef :: undef :: undef :: undef :: undef :: undef :: undef :: undef :: undef :: undef :: undef :: undef :: undef :: undef :: undef :: undef :: undef :: undef :: undef :: undef :: undef :: undef :: undef :: undef :: undef :: undef :: undef :: undef :: undef :: undef :: undef :: undef :: undef :: undef :: undef :: undef :: undef :: undef :: undef :: undef :: undef :: undef :: undef :: undef :: undef :: undef :: undef :: undef :: undef :: undef :: undef :: undef :: undef :: undef :: undef :: undef :: undef :: undef :: undef :: undef :: undef :: undef :: undef :: undef :: undef :: undef :: undef :: undef :: undef :: undef :: undef :: undef :: undef :: undef :: undef :: undef :: undef :: undef :: undef :: undef :: undef :: undef :: undef :: undef :: undef :: undef :: undef :: undef :: undef :: undef :: ([] : List Value)).toArray, defers := [] } w := by
  refine wp_region_noPanic ?_
  refine wp_region_held_drew (S := fun w' => Below w.heap.size w w') (by kernel_rfl) ((Below.refl _ _).drew) (fun hHeld => ?_)
  refine wpAnyH_ready (rs := [0, 1, 3]) (by kernel_rfl) (by simp) ?_
  refine (AllReadyH.cons (o := { dst := some 23, op := Op.makeSlice 24 (Operand.const (Value.int IntKind.i64 256)) (Operand.const (Value.int IntKind.i64 256)), type := 24, pos := "law.go:396", after := #[], guard := none }) rfl (fun K hK => ?_) (AllReadyH.cons (o := { dst := some 24, op := Op.makeSlice 24 (Operand.const (Value.int IntKind.i64 256)) (Operand.const (Value.int IntKind.i64 256)), type := 24, pos := "law.go:396", after := #[], guard := none }) rfl (fun K hK => ?_) (AllReadyH.cons (o := { dst := some 9, op := Op.alloc 25, type := 0, pos := "law.go:396", after := #[], guard := none }) rfl (fun K hK => ?_) AllReadyH.nil)))
  · skip
    refine step_make256 (by rfl) (by rfl) ?_
    intro gA wA rA bA loA
    have hiA := hlt rA
    try replace rB := hbel bA rB (hlt rB)
    try replace rS := hbel bA rS (hlt rS)
    have hH2 := hHeld.trans (bA.mono hHeld.size)
    clear bA
    refine hK.out _ _ (hH2) (fun hHeld2 => ?_)
    clear hK K hHeld
    have hHeld := hHeld2
    clear hHeld2
    try simp only [Act.put, List.setIfInBounds_toArray, List.set_cons_zero, List.set_cons_succ]
    refine wpAnyH_ready (rs := [1, 3]) (by kernel_rfl) (by simp) ?_
    refine (AllReadyH.cons (o := { dst := some 24, op := Op.makeSlice 24 (Operand.const (Value.int IntKind.i64 256)) (Operand.const (Value.int IntKind.i64 256)), type := 24, pos := "law.go:396", after := #[], guard := none }) rfl (fun K hK => ?_) (AllReadyH.cons (o := { dst := some 9, op := Op.alloc 25, type := 0, pos := "law.go:396", after := #[], guard := none }) rfl (fun K hK => ?_) AllReadyH.nil))
    · skip
      refine step_make256 (by rfl) (by rfl) ?_
      intro gB wB rB bB loB
      have hiB := hlt rB
      try replace rA := hbel bB rA (hlt rA)
      try replace rS := hbel bB rS (hlt rS)
      have hH2 := hHeld.trans (bB.mono hHeld.size)
      clear bB
      refine hK.out _ _ (hH2) (fun hHeld2 => ?_)
      clear hK K hHeld
      have hHeld := hHeld2
      clear hHeld2
      try simp only [Act.put, List.setIfInBounds_toArray, List.set_cons_zero, List.set_cons_succ]
      refine wpAnyH_take (i := 2) (oi := { dst := some 25, op := Op.build 25 #[(0, Operand.tmp 23), (1, Operand.tmp 24)], type := 25, pos := "law.go:396", after := #[{ on := 0, ground := Ground.data }, { on := 1, ground := Ground.data }], guard := none }) (v := .agg #[.slice (some ⟨gA, 0, none⟩) 256 256, .slice (some ⟨gB, 0, none⟩) 256 256]) rfl (by kernel_rfl) (by kernel_rfl) (by kernel_rfl) (fun _ _ _ h => h) (Or.inl ⟨by rfl, by intro w hS; go_simp⟩) hHeld ?_
      try simp only [Act.put, List.setIfInBounds_toArray, List.set_cons_zero, List.set_cons_succ]
      refine wpAnyH_ready (rs := [3]) (by kernel_rfl) (by simp) ?_
      refine (AllReadyH.cons (o := { dst := some 9, op := Op.alloc 25, type := 0, pos := "law.go:396", after := #[], guard := none }) rfl (fun K hK => ?_) AllReadyH.nil)
      refine step_allocSl (by rfl) (by rfl) ?_
      intro GS wS rS bS loS
      have hiS := hlt rS
      try replace rA := hbel bS rA (hlt rA)
      try replace rB := hbel bS rB (hlt rB)
      have hH2 := hHeld.trans (bS.mono hHeld.size)
      clear bS
      refine hK.out _ _ (hH2) (fun hHeld2 => ?_)
      clear hK K hHeld
      have hHeld := hHeld2
      clear hHeld2
      try simp only [Act.put, List.setIfInBounds_toArray, List.set_cons_zero, List.set_cons_succ]
      refine wpAnyH_ready (rs := [4]) (by kernel_rfl) (by simp) ?_
      refine (AllReadyH.cons (o := { dst := none, op := Op.store 25 (Operand.tmp 9) (Operand.tmp 25), type := 0, pos := "law.go:396", after := #[{ on := 3, ground := Ground.data }, { on := 2, ground := Ground.data }, { on := 0, ground := Ground.phase }, { on := 1, ground := Ground.phase }, { on := 2, ground := Ground.phase }, { on := 3, ground := Ground.phase }], guard := none }) rfl (fun K hK => ?_) AllReadyH.nil)
      have nA : gA ≠ GS := by omega
      have nB : gB ≠ GS := by omega
      have nAB : gA ≠ gB := by omega
      have lS : w.heap.size ≤ GS := by have := hHeld.size; first | omega | (simp only [World.drew] at *; omega)
      refine step_store (by rfl) 25 (.tmp 9) (.tmp 25) (by rfl) GS #[.slice (some ⟨gA, 0, none⟩) 256 256, .slice (some ⟨gB, 0, none⟩) 256 256] (by rfl) (by rfl) 25 #[.slice none 0 0, .slice none 0 0] rS (by kernel_rfl) rfl (by simp [Value.oneCell']) ?_
      have hH2 := below_setRow hHeld lS #[.slice (some ⟨gA, 0, none⟩) 256 256, .slice (some ⟨gB, 0, none⟩) 256 256]
      replace rS := setRow_heap _ _ _ #[.slice (some ⟨gA, 0, none⟩) 256 256, .slice (some ⟨gB, 0, none⟩) 256 256] _ _ rS
      replace rA := (setRow_other _ GS gA #[.slice (some ⟨gA, 0, none⟩) 256 256, .slice (some ⟨gB, 0, none⟩) 256 256] nA).trans rA
      replace rB := (setRow_other _ GS gB #[.slice (some ⟨gA, 0, none⟩) 256 256, .slice (some ⟨gB, 0, none⟩) 256 256] nB).trans rB
      refine hK.out _ _ (hH2) (fun hHeld2 => ?_)
      clear hK K hHeld
      have hHeld := hHeld2
      clear hHeld2
      try simp only [Act.put, List.setIfInBounds_toArray, List.set_cons_zero, List.set_cons_succ]
      refine wpAnyH_done (by kernel_rfl) ?_ _
      refine NoPanic.normal ?_
      have BF := hHeld
      clear hHeld
      exact hQ gA gB GS _ rA rB rS nA nB nAB lS BF
    · skip
      refine step_allocSl (by rfl) (by rfl) ?_
      intro GS wS rS bS loS
      have hiS := hlt rS
      try replace rA := hbel bS rA (hlt rA)
      try replace rB := hbel bS rB (hlt rB)
      have hH2 := hHeld.trans (bS.mono hHeld.size)
      clear bS
      refine hK.out _ _ (hH2) (fun hHeld2 => ?_)
      clear hK K hHeld
      have hHeld := hHeld2
      clear hHeld2
      try simp only [Act.put, List.setIfInBounds_toArray, List.set_cons_zero, List.set_cons_succ]
      refine wpAnyH_ready (rs := [1]) (by kernel_rfl) (by simp) ?_
      refine (AllReadyH.cons (o := { dst := some 24, op := Op.makeSlice 24 (Operand.const (Value.int IntKind.i64 256)) (Operand.const (Value.int IntKind.i64 256)), type := 24, pos := "law.go:396", after := #[], guard := none }) rfl (fun K hK => ?_) AllReadyH.nil)
      refine step_make256 (by rfl) (by rfl) ?_
      intro gB wB rB bB loB
      have hiB := hlt rB
      try replace rA := hbel bB rA (hlt rA)
      try replace rS := hbel bB rS (hlt rS)
      have hH2 := hHeld.trans (bB.mono hHeld.size)
      clear bB
      refine hK.out _ _ (hH2) (fun hHeld2 => ?_)
      clear hK K hHeld
      have hHeld := hHeld2
      clear hHeld2
      try simp only [Act.put, List.setIfInBounds_toArray, List.set_cons_zero, List.set_cons_succ]
      refine wpAnyH_take (i := 2) (oi := { dst := some 25, op := Op.build 25 #[(0, Operand.tmp 23), (1, Operand.tmp 24)], type := 25, pos := "law.go:396", after := #[{ on := 0, ground := Ground.data }, { on := 1, ground := Ground.data }], guard := none }) (v := .agg #[.slice (some ⟨gA, 0, none⟩) 256 256, .slice (some ⟨gB, 0, none⟩) 256 256]) rfl (by kernel_rfl) (by kernel_rfl) (by kernel_rfl) (fun _ _ _ h => h) (Or.inl ⟨by rfl, by intro w hS; go_simp⟩) hHeld ?_
      try simp only [Act.put, List.setIfInBounds_toArray, List.set_cons_zero, List.set_cons_succ]
      refine wpAnyH_ready (rs := [4]) (by kernel_rfl) (by simp) ?_
      refine (AllReadyH.cons (o := { dst := none, op := Op.store 25 (Operand.tmp 9) (Operand.tmp 25), type := 0, pos := "law.go:396", after := #[{ on := 3, ground := Ground.data }, { on := 2, ground := Ground.data }, { on := 0, ground := Ground.phase }, { on := 1, ground := Ground.phase }, { on := 2, ground := Ground.phase }, { on := 3, ground := Ground.phase }], guard := none }) rfl (fun K hK => ?_) AllReadyH.nil)
      have nA : gA ≠ GS := by omega
      have nB : gB ≠ GS := by omega
      have nAB : gA ≠ gB := by omega
      have lS : w.heap.size ≤ GS := by have := hHeld.size; first | omega | (simp only [World.drew] at *; omega)
      refine step_store (by rfl) 25 (.tmp 9) (.tmp 25) (by rfl) GS #[.slice (some ⟨gA, 0, none⟩) 256 256, .slice (some ⟨gB, 0, none⟩) 256 256] (by rfl) (by rfl) 25 #[.slice none 0 0, .slice none 0 0] rS (by kernel_rfl) rfl (by simp [Value.oneCell']) ?_
      have hH2 := below_setRow hHeld lS #[.slice (some ⟨gA, 0, none⟩) 256 256, .slice (some ⟨gB, 0, none⟩) 256 256]
      replace rS := setRow_heap _ _ _ #[.slice (some ⟨gA, 0, none⟩) 256 256, .slice (some ⟨gB, 0, none⟩) 256 256] _ _ rS
      replace rA := (setRow_other _ GS gA #[.slice (some ⟨gA, 0, none⟩) 256 256, .slice (some ⟨gB, 0, none⟩) 256 256] nA).trans rA
      replace rB := (setRow_other _ GS gB #[.slice (some ⟨gA, 0, none⟩) 256 256, .slice (some ⟨gB, 0, none⟩) 256 256] nB).trans rB
      refine hK.out _ _ (hH2) (fun hHeld2 => ?_)
      clear hK K hHeld
      have hHeld := hHeld2
      clear hHeld2
      try simp only [Act.put, List.setIfInBounds_toArray, List.set_cons_zero, List.set_cons_succ]
      refine wpAnyH_done (by kernel_rfl) ?_ _
      refine NoPanic.normal ?_
      have BF := hHeld
      clear hHeld
      exact hQ gA gB GS _ rA rB rS nA nB nAB lS BF
  · skip
    refine step_make256 (by rfl) (by rfl) ?_
    intro gB wB rB bB loB
    have hiB := hlt rB
    try replace rA := hbel bB rA (hlt rA)
    try replace rS := hbel bB rS (hlt rS)
    have hH2 := hHeld.trans (bB.mono hHeld.size)
    clear bB
    refine hK.out _ _ (hH2) (fun hHeld2 => ?_)
    clear hK K hHeld
    have hHeld := hHeld2
    clear hHeld2
    try simp only [Act.put, List.setIfInBounds_toArray, List.set_cons_zero, List.set_cons_succ]
    refine wpAnyH_ready (rs := [0, 3]) (by kernel_rfl) (by simp) ?_
    refine (AllReadyH.cons (o := { dst := some 23, op := Op.makeSlice 24 (Operand.const (Value.int IntKind.i64 256)) (Operand.const (Value.int IntKind.i64 256)), type := 24, pos := "law.go:396", after := #[], guard := none }) rfl (fun K hK => ?_) (AllReadyH.cons (o := { dst := some 9, op := Op.alloc 25, type := 0, pos := "law.go:396", after := #[], guard := none }) rfl (fun K hK => ?_) AllReadyH.nil))
    · skip
      refine step_make256 (by rfl) (by rfl) ?_
      intro gA wA rA bA loA
      have hiA := hlt rA
      try replace rB := hbel bA rB (hlt rB)
      try replace rS := hbel bA rS (hlt rS)
      have hH2 := hHeld.trans (bA.mono hHeld.size)
      clear bA
      refine hK.out _ _ (hH2) (fun hHeld2 => ?_)
      clear hK K hHeld
      have hHeld := hHeld2
      clear hHeld2
      try simp only [Act.put, List.setIfInBounds_toArray, List.set_cons_zero, List.set_cons_succ]
      refine wpAnyH_take (i := 2) (oi := { dst := some 25, op := Op.build 25 #[(0, Operand.tmp 23), (1, Operand.tmp 24)], type := 25, pos := "law.go:396", after := #[{ on := 0, ground := Ground.data }, { on := 1, ground := Ground.data }], guard := none }) (v := .agg #[.slice (some ⟨gA, 0, none⟩) 256 256, .slice (some ⟨gB, 0, none⟩) 256 256]) rfl (by kernel_rfl) (by kernel_rfl) (by kernel_rfl) (fun _ _ _ h => h) (Or.inl ⟨by rfl, by intro w hS; go_simp⟩) hHeld ?_
      try simp only [Act.put, List.setIfInBounds_toArray, List.set_cons_zero, List.set_cons_succ]
      refine wpAnyH_ready (rs := [3]) (by kernel_rfl) (by simp) ?_
      refine (AllReadyH.cons (o := { dst := some 9, op := Op.alloc 25, type := 0, pos := "law.go:396", after := #[], guard := none }) rfl (fun K hK => ?_) AllReadyH.nil)
      refine step_allocSl (by rfl) (by rfl) ?_
      intro GS wS rS bS loS
      have hiS := hlt rS
      try replace rA := hbel bS rA (hlt rA)
      try replace rB := hbel bS rB (hlt rB)
      have hH2 := hHeld.trans (bS.mono hHeld.size)
      clear bS
      refine hK.out _ _ (hH2) (fun hHeld2 => ?_)
      clear hK K hHeld
      have hHeld := hHeld2
      clear hHeld2
      try simp only [Act.put, List.setIfInBounds_toArray, List.set_cons_zero, List.set_cons_succ]
      refine wpAnyH_ready (rs := [4]) (by kernel_rfl) (by simp) ?_
      refine (AllReadyH.cons (o := { dst := none, op := Op.store 25 (Operand.tmp 9) (Operand.tmp 25), type := 0, pos := "law.go:396", after := #[{ on := 3, ground := Ground.data }, { on := 2, ground := Ground.data }, { on := 0, ground := Ground.phase }, { on := 1, ground := Ground.phase }, { on := 2, ground := Ground.phase }, { on := 3, ground := Ground.phase }], guard := none }) rfl (fun K hK => ?_) AllReadyH.nil)
      have nA : gA ≠ GS := by omega
      have nB : gB ≠ GS := by omega
      have nAB : gA ≠ gB := by omega
      have lS : w.heap.size ≤ GS := by have := hHeld.size; first | omega | (simp only [World.drew] at *; omega)
      refine step_store (by rfl) 25 (.tmp 9) (.tmp 25) (by rfl) GS #[.slice (some ⟨gA, 0, none⟩) 256 256, .slice (some ⟨gB, 0, none⟩) 256 256] (by rfl) (by rfl) 25 #[.slice none 0 0, .slice none 0 0] rS (by kernel_rfl) rfl (by simp [Value.oneCell']) ?_
      have hH2 := below_setRow hHeld lS #[.slice (some ⟨gA, 0, none⟩) 256 256, .slice (some ⟨gB, 0, none⟩) 256 256]
      replace rS := setRow_heap _ _ _ #[.slice (some ⟨gA, 0, none⟩) 256 256, .slice (some ⟨gB, 0, none⟩) 256 256] _ _ rS
      replace rA := (setRow_other _ GS gA #[.slice (some ⟨gA, 0, none⟩) 256 256, .slice (some ⟨gB, 0, none⟩) 256 256] nA).trans rA
      replace rB := (setRow_other _ GS gB #[.slice (some ⟨gA, 0, none⟩) 256 256, .slice (some ⟨gB, 0, none⟩) 256 256] nB).trans rB
      refine hK.out _ _ (hH2) (fun hHeld2 => ?_)
      clear hK K hHeld
      have hHeld := hHeld2
      clear hHeld2
      try simp only [Act.put, List.setIfInBounds_toArray, List.set_cons_zero, List.set_cons_succ]
      refine wpAnyH_done (by kernel_rfl) ?_ _
      refine NoPanic.normal ?_
      have BF := hHeld
      clear hHeld
      exact hQ gA gB GS _ rA rB rS nA nB nAB lS BF
    · skip
      refine step_allocSl (by rfl) (by rfl) ?_
      intro GS wS rS bS loS
      have hiS := hlt rS
      try replace rA := hbel bS rA (hlt rA)
      try replace rB := hbel bS rB (hlt rB)
      have hH2 := hHeld.trans (bS.mono hHeld.size)
      clear bS
      refine hK.out _ _ (hH2) (fun hHeld2 => ?_)
      clear hK K hHeld
      have hHeld := hHeld2
      clear hHeld2
      try simp only [Act.put, List.setIfInBounds_toArray, List.set_cons_zero, List.set_cons_succ]
      refine wpAnyH_ready (rs := [0]) (by kernel_rfl) (by simp) ?_
      refine (AllReadyH.cons (o := { dst := some 23, op := Op.makeSlice 24 (Operand.const (Value.int IntKind.i64 256)) (Operand.const (Value.int IntKind.i64 256)), type := 24, pos := "law.go:396", after := #[], guard := none }) rfl (fun K hK => ?_) AllReadyH.nil)
      refine step_make256 (by rfl) (by rfl) ?_
      intro gA wA rA bA loA
      have hiA := hlt rA
      try replace rB := hbel bA rB (hlt rB)
      try replace rS := hbel bA rS (hlt rS)
      have hH2 := hHeld.trans (bA.mono hHeld.size)
      clear bA
      refine hK.out _ _ (hH2) (fun hHeld2 => ?_)
      clear hK K hHeld
      have hHeld := hHeld2
      clear hHeld2
      try simp only [Act.put, List.setIfInBounds_toArray, List.set_cons_zero, List.set_cons_succ]
      refine wpAnyH_take (i := 2) (oi := { dst := some 25, op := Op.build 25 #[(0, Operand.tmp 23), (1, Operand.tmp 24)], type := 25, pos := "law.go:396", after := #[{ on := 0, ground := Ground.data }, { on := 1, ground := Ground.data }], guard := none }) (v := .agg #[.slice (some ⟨gA, 0, none⟩) 256 256, .slice (some ⟨gB, 0, none⟩) 256 256]) rfl (by kernel_rfl) (by kernel_rfl) (by kernel_rfl) (fun _ _ _ h => h) (Or.inl ⟨by rfl, by intro w hS; go_simp⟩) hHeld ?_
      try simp only [Act.put, List.setIfInBounds_toArray, List.set_cons_zero, List.set_cons_succ]
      refine wpAnyH_ready (rs := [4]) (by kernel_rfl) (by simp) ?_
      refine (AllReadyH.cons (o := { dst := none, op := Op.store 25 (Operand.tmp 9) (Operand.tmp 25), type := 0, pos := "law.go:396", after := #[{ on := 3, ground := Ground.data }, { on := 2, ground := Ground.data }, { on := 0, ground := Ground.phase }, { on := 1, ground := Ground.phase }, { on := 2, ground := Ground.phase }, { on := 3, ground := Ground.phase }], guard := none }) rfl (fun K hK => ?_) AllReadyH.nil)
      have nA : gA ≠ GS := by omega
      have nB : gB ≠ GS := by omega
      have nAB : gA ≠ gB := by omega
      have lS : w.heap.size ≤ GS := by have := hHeld.size; first | omega | (simp only [World.drew] at *; omega)
      refine step_store (by rfl) 25 (.tmp 9) (.tmp 25) (by rfl) GS #[.slice (some ⟨gA, 0, none⟩) 256 256, .slice (some ⟨gB, 0, none⟩) 256 256] (by rfl) (by rfl) 25 #[.slice none 0 0, .slice none 0 0] rS (by kernel_rfl) rfl (by simp [Value.oneCell']) ?_
      have hH2 := below_setRow hHeld lS #[.slice (some ⟨gA, 0, none⟩) 256 256, .slice (some ⟨gB, 0, none⟩) 256 256]
      replace rS := setRow_heap _ _ _ #[.slice (some ⟨gA, 0, none⟩) 256 256, .slice (some ⟨gB, 0, none⟩) 256 256] _ _ rS
      replace rA := (setRow_other _ GS gA #[.slice (some ⟨gA, 0, none⟩) 256 256, .slice (some ⟨gB, 0, none⟩) 256 256] nA).trans rA
      replace rB := (setRow_other _ GS gB #[.slice (some ⟨gA, 0, none⟩) 256 256, .slice (some ⟨gB, 0, none⟩) 256 256] nB).trans rB
      refine hK.out _ _ (hH2) (fun hHeld2 => ?_)
      clear hK K hHeld
      have hHeld := hHeld2
      clear hHeld2
      try simp only [Act.put, List.setIfInBounds_toArray, List.set_cons_zero, List.set_cons_succ]
      refine wpAnyH_done (by kernel_rfl) ?_ _
      refine NoPanic.normal ?_
      have BF := hHeld
      clear hHeld
      exact hQ gA gB GS _ rA rB rS nA nB nAB lS BF
  · skip
    refine step_allocSl (by rfl) (by rfl) ?_
    intro GS wS rS bS loS
    have hiS := hlt rS
    try replace rA := hbel bS rA (hlt rA)
    try replace rB := hbel bS rB (hlt rB)
    have hH2 := hHeld.trans (bS.mono hHeld.size)
    clear bS
    refine hK.out _ _ (hH2) (fun hHeld2 => ?_)
    clear hK K hHeld
    have hHeld := hHeld2
    clear hHeld2
    try simp only [Act.put, List.setIfInBounds_toArray, List.set_cons_zero, List.set_cons_succ]
    refine wpAnyH_ready (rs := [0, 1]) (by kernel_rfl) (by simp) ?_
    refine (AllReadyH.cons (o := { dst := some 23, op := Op.makeSlice 24 (Operand.const (Value.int IntKind.i64 256)) (Operand.const (Value.int IntKind.i64 256)), type := 24, pos := "law.go:396", after := #[], guard := none }) rfl (fun K hK => ?_) (AllReadyH.cons (o := { dst := some 24, op := Op.makeSlice 24 (Operand.const (Value.int IntKind.i64 256)) (Operand.const (Value.int IntKind.i64 256)), type := 24, pos := "law.go:396", after := #[], guard := none }) rfl (fun K hK => ?_) AllReadyH.nil))
    · skip
      refine step_make256 (by rfl) (by rfl) ?_
      intro gA wA rA bA loA
      have hiA := hlt rA
      try replace rB := hbel bA rB (hlt rB)
      try replace rS := hbel bA rS (hlt rS)
      have hH2 := hHeld.trans (bA.mono hHeld.size)
      clear bA
      refine hK.out _ _ (hH2) (fun hHeld2 => ?_)
      clear hK K hHeld
      have hHeld := hHeld2
      clear hHeld2
      try simp only [Act.put, List.setIfInBounds_toArray, List.set_cons_zero, List.set_cons_succ]
      refine wpAnyH_ready (rs := [1]) (by kernel_rfl) (by simp) ?_
      refine (AllReadyH.cons (o := { dst := some 24, op := Op.makeSlice 24 (Operand.const (Value.int IntKind.i64 256)) (Operand.const (Value.int IntKind.i64 256)), type := 24, pos := "law.go:396", after := #[], guard := none }) rfl (fun K hK => ?_) AllReadyH.nil)
      refine step_make256 (by rfl) (by rfl) ?_
      intro gB wB rB bB loB
      have hiB := hlt rB
      try replace rA := hbel bB rA (hlt rA)
      try replace rS := hbel bB rS (hlt rS)
      have hH2 := hHeld.trans (bB.mono hHeld.size)
      clear bB
      refine hK.out _ _ (hH2) (fun hHeld2 => ?_)
      clear hK K hHeld
      have hHeld := hHeld2
      clear hHeld2
      try simp only [Act.put, List.setIfInBounds_toArray, List.set_cons_zero, List.set_cons_succ]
      refine wpAnyH_take (i := 2) (oi := { dst := some 25, op := Op.build 25 #[(0, Operand.tmp 23), (1, Operand.tmp 24)], type := 25, pos := "law.go:396", after := #[{ on := 0, ground := Ground.data }, { on := 1, ground := Ground.data }], guard := none }) (v := .agg #[.slice (some ⟨gA, 0, none⟩) 256 256, .slice (some ⟨gB, 0, none⟩) 256 256]) rfl (by kernel_rfl) (by kernel_rfl) (by kernel_rfl) (fun _ _ _ h => h) (Or.inl ⟨by rfl, by intro w hS; go_simp⟩) hHeld ?_
      try simp only [Act.put, List.setIfInBounds_toArray, List.set_cons_zero, List.set_cons_succ]
      refine wpAnyH_ready (rs := [4]) (by kernel_rfl) (by simp) ?_
      refine (AllReadyH.cons (o := { dst := none, op := Op.store 25 (Operand.tmp 9) (Operand.tmp 25), type := 0, pos := "law.go:396", after := #[{ on := 3, ground := Ground.data }, { on := 2, ground := Ground.data }, { on := 0, ground := Ground.phase }, { on := 1, ground := Ground.phase }, { on := 2, ground := Ground.phase }, { on := 3, ground := Ground.phase }], guard := none }) rfl (fun K hK => ?_) AllReadyH.nil)
      have nA : gA ≠ GS := by omega
      have nB : gB ≠ GS := by omega
      have nAB : gA ≠ gB := by omega
      have lS : w.heap.size ≤ GS := by have := hHeld.size; first | omega | (simp only [World.drew] at *; omega)
      refine step_store (by rfl) 25 (.tmp 9) (.tmp 25) (by rfl) GS #[.slice (some ⟨gA, 0, none⟩) 256 256, .slice (some ⟨gB, 0, none⟩) 256 256] (by rfl) (by rfl) 25 #[.slice none 0 0, .slice none 0 0] rS (by kernel_rfl) rfl (by simp [Value.oneCell']) ?_
      have hH2 := below_setRow hHeld lS #[.slice (some ⟨gA, 0, none⟩) 256 256, .slice (some ⟨gB, 0, none⟩) 256 256]
      replace rS := setRow_heap _ _ _ #[.slice (some ⟨gA, 0, none⟩) 256 256, .slice (some ⟨gB, 0, none⟩) 256 256] _ _ rS
      replace rA := (setRow_other _ GS gA #[.slice (some ⟨gA, 0, none⟩) 256 256, .slice (some ⟨gB, 0, none⟩) 256 256] nA).trans rA
      replace rB := (setRow_other _ GS gB #[.slice (some ⟨gA, 0, none⟩) 256 256, .slice (some ⟨gB, 0, none⟩) 256 256] nB).trans rB
      refine hK.out _ _ (hH2) (fun hHeld2 => ?_)
      clear hK K hHeld
      have hHeld := hHeld2
      clear hHeld2
      try simp only [Act.put, List.setIfInBounds_toArray, List.set_cons_zero, List.set_cons_succ]
      refine wpAnyH_done (by kernel_rfl) ?_ _
      refine NoPanic.normal ?_
      have BF := hHeld
      clear hHeld
      exact hQ gA gB GS _ rA rB rS nA nB nAB lS BF
    · skip
      refine step_make256 (by rfl) (by rfl) ?_
      intro gB wB rB bB loB
      have hiB := hlt rB
      try replace rA := hbel bB rA (hlt rA)
      try replace rS := hbel bB rS (hlt rS)
      have hH2 := hHeld.trans (bB.mono hHeld.size)
      clear bB
      refine hK.out _ _ (hH2) (fun hHeld2 => ?_)
      clear hK K hHeld
      have hHeld := hHeld2
      clear hHeld2
      try simp only [Act.put, List.setIfInBounds_toArray, List.set_cons_zero, List.set_cons_succ]
      refine wpAnyH_ready (rs := [0]) (by kernel_rfl) (by simp) ?_
      refine (AllReadyH.cons (o := { dst := some 23, op := Op.makeSlice 24 (Operand.const (Value.int IntKind.i64 256)) (Operand.const (Value.int IntKind.i64 256)), type := 24, pos := "law.go:396", after := #[], guard := none }) rfl (fun K hK => ?_) AllReadyH.nil)
      refine step_make256 (by rfl) (by rfl) ?_
      intro gA wA rA bA loA
      have hiA := hlt rA
      try replace rB := hbel bA rB (hlt rB)
      try replace rS := hbel bA rS (hlt rS)
      have hH2 := hHeld.trans (bA.mono hHeld.size)
      clear bA
      refine hK.out _ _ (hH2) (fun hHeld2 => ?_)
      clear hK K hHeld
      have hHeld := hHeld2
      clear hHeld2
      try simp only [Act.put, List.setIfInBounds_toArray, List.set_cons_zero, List.set_cons_succ]
      refine wpAnyH_take (i := 2) (oi := { dst := some 25, op := Op.build 25 #[(0, Operand.tmp 23), (1, Operand.tmp 24)], type := 25, pos := "law.go:396", after := #[{ on := 0, ground := Ground.data }, { on := 1, ground := Ground.data }], guard := none }) (v := .agg #[.slice (some ⟨gA, 0, none⟩) 256 256, .slice (some ⟨gB, 0, none⟩) 256 256]) rfl (by kernel_rfl) (by kernel_rfl) (by kernel_rfl) (fun _ _ _ h => h) (Or.inl ⟨by rfl, by intro w hS; go_simp⟩) hHeld ?_
      try simp only [Act.put, List.setIfInBounds_toArray, List.set_cons_zero, List.set_cons_succ]
      refine wpAnyH_ready (rs := [4]) (by kernel_rfl) (by simp) ?_
      refine (AllReadyH.cons (o := { dst := none, op := Op.store 25 (Operand.tmp 9) (Operand.tmp 25), type := 0, pos := "law.go:396", after := #[{ on := 3, ground := Ground.data }, { on := 2, ground := Ground.data }, { on := 0, ground := Ground.phase }, { on := 1, ground := Ground.phase }, { on := 2, ground := Ground.phase }, { on := 3, ground := Ground.phase }], guard := none }) rfl (fun K hK => ?_) AllReadyH.nil)
      have nA : gA ≠ GS := by omega
      have nB : gB ≠ GS := by omega
      have nAB : gA ≠ gB := by omega
      have lS : w.heap.size ≤ GS := by have := hHeld.size; first | omega | (simp only [World.drew] at *; omega)
      refine step_store (by rfl) 25 (.tmp 9) (.tmp 25) (by rfl) GS #[.slice (some ⟨gA, 0, none⟩) 256 256, .slice (some ⟨gB, 0, none⟩) 256 256] (by rfl) (by rfl) 25 #[.slice none 0 0, .slice none 0 0] rS (by kernel_rfl) rfl (by simp [Value.oneCell']) ?_
      have hH2 := below_setRow hHeld lS #[.slice (some ⟨gA, 0, none⟩) 256 256, .slice (some ⟨gB, 0, none⟩) 256 256]
      replace rS := setRow_heap _ _ _ #[.slice (some ⟨gA, 0, none⟩) 256 256, .slice (some ⟨gB, 0, none⟩) 256 256] _ _ rS
      replace rA := (setRow_other _ GS gA #[.slice (some ⟨gA, 0, none⟩) 256 256, .slice (some ⟨gB, 0, none⟩) 256 256] nA).trans rA
      replace rB := (setRow_other _ GS gB #[.slice (some ⟨gA, 0, none⟩) 256 256, .slice (some ⟨gB, 0, none⟩) 256 256] nB).trans rB
      refine hK.out _ _ (hH2) (fun hHeld2 => ?_)
      clear hK K hHeld
      have hHeld := hHeld2
      clear hHeld2
      try simp only [Act.put, List.setIfInBounds_toArray, List.set_cons_zero, List.set_cons_succ]
      refine wpAnyH_done (by kernel_rfl) ?_ _
      refine NoPanic.normal ?_
      have BF := hHeld
      clear hHeld
      exact hQ gA gB GS _ rA rB rS nA nB nAB lS BF
end Go.Proofs.Ythhicgofobklgaa
