import Derived.Test.YtihkjfbhmlfonaaG6
namespace Go.Proofs.Ytihkjfbhmlfonaa
set_option linter.unusedVariables false
set_option linter.unusedSimpArgs false
open Go.RowKit
attribute [local go_sem ↓] Go.wp_at_zero Go.wp_at_succ

/-! A file in memory. -/
def fcells (p : Nat) (s : Sup) (nx ep : Int) : Array Value := #[.pointer (some ⟨p, 0, none⟩), .int .i64 s.wd, .int .i64 s.ge, .int .i64 s.ma, .int .i64 s.hd, .int .i64 s.pg, .int .i64 nx, .int .i64 ep]
def FK (w : World) (g p : Nat) (s : Sup) (nx ep : Int) : Prop := w.heap[g]? = some (.cells (fcells p s nx ep) 97 (0, 0))
theorem FK.below {w w1 : World} {g p : Nat} {s : Sup} {nx ep : Int} (h : FK w g p s nx ep) (hb : Below w.heap.size w w1) : FK w1 g p s nx ep := (hb.block g (hlt_ h)).trans h
theorem FK.not {w : World} {g p : Nat} {s : Sup} {nx ep : Int} (h : FK w g p s nx ep) {base : Nat} {F : List Nat} {q : Nat} {D : DS} (hd : DA w base F q D) : g ∉ F := hd.not_in h (by decide) (by decide) (by decide)
theorem FK.other {w w1 : World} {g p : Nat} {s : Sup} {nx ep : Int} (h : FK w g p s nx ep) {base : Nat} {F : List Nat} {q : Nat} {D : DS} (hd : DA w base F q D) (hf : Fr F w w1) : FK w1 g p s nx ep := hf.keep h (h.not hd)
theorem FK.cell {w : World} {g p : Nat} {s : Sup} {nx ep : Int} (h : FK w g p s nx ep) (j : Nat) : w.cell? ⟨g, j, none⟩ = (fcells p s nx ep)[j]? := cell_of_row _ _ _ _ _ _ h
theorem cell_sup4 {w : World} {b : Nat} {s : Sup} {t : TypeId} (h : w.heap[b]? = some (.cells (supC s) t (0, 0))) : w.cell? ⟨b, 4, none⟩ = some (.int .i64 s.pg) := by simp [World.cell?, h, supC]
theorem cell_sup2 {w : World} {b : Nat} {s : Sup} {t : TypeId} (h : w.heap[b]? = some (.cells (supC s) t (0, 0))) : w.cell? ⟨b, 2, none⟩ = some (.int .i64 s.ma) := by simp [World.cell?, h, supC]
theorem DA.drew {w : World} {base : Nat} {F : List Nat} {p : Nat} {D : DS} (h : DA w base F p D) : DA w.drew base F p D := h.of_heap fun _ _ => rfl
theorem Claim_same (w : World) (base : Nat) (F : List Nat) (p : Nat) (D : DS) (h : DA w base F p D) (hep : D.epoch < 4000000000000000000) :
    Calls Try.prog 39 #[.pointer (some ⟨p, 0, none⟩)] w fun e w' => e = .returned (.int .i64 (D.epoch + 1)) ∧ DA w' base F p { D with epoch := D.epoch + 1 } ∧ Fr F w w' := by
  obtain ⟨P, rfl, rfl, hk, hok⟩ := h
  refine (Claim_in w base P D hk ⟨hok.epoch.1, hep⟩).mono ?_
  rintro e w' ⟨rfl, h1, h2⟩
  exact ⟨rfl, ⟨P, rfl, rfl, h1, ⟨hok.n, hok.bts, hok.ops, hok.reads, hok.writes, hok.syncs, by show 0 ≤ D.epoch + 1 ∧ D.epoch + 1 ≤ _; have := hok.epoch; omega, hok.armed⟩⟩, h2⟩
theorem build_file (p : Nat) (s : Sup) (nx ep : Int) (w : World) :
    (Instr.build 97 #[(0, .pointer (some ⟨p, 0, none⟩)), (1, .agg (supC s)), (2, .int .i64 nx), (3, .int .i64 ep)]).run Try.prog w = .ok (.agg (fcells p s nx ep)) w := by
  kernel_rfl
theorem yields_build_file {ops : Array Oper} {S : World → Prop} {o : Oper} {a : Act} (hw : Region.wanted o (yielded ops a.tmps) = true) (x y z u : Operand) (ho : o.op = .build 97 #[(0, x), (1, y), (2, z), (3, u)])
    (p : Nat) (s : Sup) (nx ep : Int) (hx : a.eval x = .pointer (some ⟨p, 0, none⟩)) (hy : a.eval y = .agg (supC s)) (hz : a.eval z = .int .i64 nx) (hu : a.eval u = .int .i64 ep) :
    YieldsIf Try.prog ops S o (.agg (fcells p s nx ep)) a :=
  .inl ⟨hw, fun w _ => by
    unfold execOp
    simp only [ho, List.map_toArray, List.map_cons, List.map_nil, hx, hy, hz, hu, Sem.run_bind, build_file, Result.andThen_ok, Sem.run_pure]⟩
theorem box_file (p : Nat) (s : Sup) (nx ep : Int) (w : World) :
    (Instr.box 97 (.agg (fcells p s nx ep))).run Try.prog w = .ok (.pointer (some ⟨w.heap.size, 0, none⟩)) (w.alloc (.cells (fcells p s nx ep) 97)) := by
  kernel_rfl
theorem step_box_file {w : World} {ops : Array Oper} {o : Oper} {a : Act} {K : Act → World → Prop} {Q : Exit → Act → World → Prop} {E : Prop} (hw : Region.wanted o (yielded ops a.tmps) = true) (x : Operand) (ho : o.op = .box 97 x)
    (p : Nat) (s : Sup) (nx ep : Int) (hx : a.eval x = .agg (fcells p s nx ep)) (h : K (a.put o.dst (.pointer (some ⟨w.heap.size, 0, none⟩))) (w.alloc (.cells (fcells p s nx ep) 97))) :
    if Region.wanted o (yielded ops a.tmps) = true then Oper.wp Try.prog o a w K Q else E := by
  rw [if_pos hw]
  unfold Oper.wp execOp
  simp only [ho, hx, Sem.run_bind, box_file, Result.andThen_ok, Sem.run_pure]
  exact h
/-- What Live answers. -/
def liveF (D : DS) (ep : Int) : Int := if D.epoch ≠ ep then 3 else if D.power = true then 0 else 2
set_option maxHeartbeats 400000 in
theorem Live_any (w : World) (base : Nat) (F : List Nat) (p : Nat) (D : DS) (h : DA w base F p D) (g : Nat) (s : Sup) (nx ep : Int) (hf : FK w g p s nx ep) :
    Calls Try.prog 40 #[.pointer (some ⟨g, 0, none⟩)] w fun e w' => e = .returned (.int .i64 (liveF D ep)) ∧ Below w.heap.size w w' := by
  have HD := hid h
  have hgl : g < w.heap.size := hlt_ hf
  have c0 := hid (show w.cell? ⟨g, 0, none⟩ = some (.pointer (some ⟨p, 0, none⟩)) from hf.cell 0)
  have c7 := hid (show w.cell? ⟨g, 7, none⟩ = some (.int .i64 ep) from hf.cell 7)
  have HPW := hid (fun (w1 : World) (hb : Below w.heap.size w w1) => Power_any w1 base F p D (h.below hb))
  have HC0 := hid (fun (w1 : World) (hb : Below w.heap.size w w1) => (hb.cell (p := ⟨g, 0, none⟩) hgl).trans c0.out)
  clear h hf
  by_cases he : D.epoch = ep
  · have HL := hid (show liveF D ep = if D.power = true then 0 else 2 by unfold liveF; rw [if_neg (fun q => q he)])
    have he : (D.epoch != ep) = false := by simpa using he
    go_enter Try.func40, Try.ntmps40
    go_wp2
    refine wp_region_noPanic ?_
    refine wp_region_held_drew (S := fun w' => Below w.heap.size w w') (by kernel_rfl) (Below.refl _ _).drew (fun hHeld => ?_)
    refine wpAnyH_take (i := 0) (oi := { dst := some 3, op := Op.move (Operand.tmp 0), type := 66, pos := "file.go:51", after := #[], guard := none }) (v := .pointer (some ⟨g, 0, none⟩)) rfl (by kernel_rfl) (by kernel_rfl) (by kernel_rfl) (fun _ _ _ h => h) (Or.inl ⟨by rfl, by intro w hS; go_simp⟩) hHeld ?_
    try simp only [Act.put, List.setIfInBounds_toArray, List.set_cons_zero, List.set_cons_succ]
    refine wpAnyH_take (i := 5) (oi := { dst := some 8, op := Op.move (Operand.tmp 0), type := 66, pos := "file.go:51", after := #[], guard := none }) (v := .pointer (some ⟨g, 0, none⟩)) rfl (by kernel_rfl) (by kernel_rfl) (by kernel_rfl) (fun _ _ _ h => h) (Or.inl ⟨by rfl, by intro w hS; go_simp⟩) hHeld ?_
    try simp only [Act.put, List.setIfInBounds_toArray, List.set_cons_zero, List.set_cons_succ]
    refine wpAnyH_take (i := 1) (oi := { dst := some 4, op := Op.nilCheck (Operand.tmp 3), type := 0, pos := "file.go:51", after := #[{ on := 0, ground := Ground.data }], guard := none }) (v := .pointer (some ⟨g, 0, none⟩)) rfl (by kernel_rfl) (by kernel_rfl) (by kernel_rfl) (fun _ _ _ h => h) (Or.inl ⟨by rfl, by intro w hS; go_simp⟩) hHeld ?_
    try simp only [Act.put, List.setIfInBounds_toArray, List.set_cons_zero, List.set_cons_succ]
    refine wpAnyH_take (i := 6) (oi := { dst := some 9, op := Op.nilCheck (Operand.tmp 8), type := 0, pos := "file.go:51", after := #[{ on := 5, ground := Ground.data }], guard := none }) (v := .pointer (some ⟨g, 0, none⟩)) rfl (by kernel_rfl) (by kernel_rfl) (by kernel_rfl) (fun _ _ _ h => h) (Or.inl ⟨by rfl, by intro w hS; go_simp⟩) hHeld ?_
    try simp only [Act.put, List.setIfInBounds_toArray, List.set_cons_zero, List.set_cons_succ]
    refine wpAnyH_take (i := 2) (oi := { dst := some 5, op := Op.fieldAddr 97 (Operand.tmp 4) 0, type := 0, pos := "file.go:51", after := #[{ on := 1, ground := Ground.data }], guard := none }) (v := .pointer (some ⟨g, 0, none⟩)) rfl (by kernel_rfl) (by kernel_rfl) (by kernel_rfl) (fun _ _ _ h => h) (Or.inl ⟨by rfl, by intro w hS; go_simp⟩) hHeld ?_
    try simp only [Act.put, List.setIfInBounds_toArray, List.set_cons_zero, List.set_cons_succ]
    refine wpAnyH_take (i := 7) (oi := { dst := some 10, op := Op.fieldAddr 97 (Operand.tmp 9) 3, type := 0, pos := "file.go:51", after := #[{ on := 6, ground := Ground.data }], guard := none }) (v := .pointer (some ⟨g, 7, none⟩)) rfl (by kernel_rfl) (by kernel_rfl) (by kernel_rfl) (fun _ _ _ h => h) (Or.inl ⟨by rfl, by intro w hS; go_simp⟩) hHeld ?_
    try simp only [Act.put, List.setIfInBounds_toArray, List.set_cons_zero, List.set_cons_succ]
    refine wpAnyH_take (i := 3) (oi := { dst := some 6, op := Op.load 23 (Operand.tmp 5), type := 23, pos := "file.go:51", after := #[{ on := 2, ground := Ground.data }], guard := none }) (v := .pointer (some ⟨p, 0, none⟩)) rfl (by kernel_rfl) (by kernel_rfl) (by kernel_rfl) (fun _ _ _ h => h) (Or.inl ⟨by rfl, by intro w hS; have hc := (hS.cell (p := ⟨g, 0, none⟩) hgl).trans c0.out; go_simp⟩) hHeld ?_
    try simp only [Act.put, List.setIfInBounds_toArray, List.set_cons_zero, List.set_cons_succ]
    refine wpAnyH_take (i := 8) (oi := { dst := some 11, op := Op.load 3 (Operand.tmp 10), type := 3, pos := "file.go:51", after := #[{ on := 7, ground := Ground.data }], guard := none }) (v := .int .i64 ep) rfl (by kernel_rfl) (by kernel_rfl) (by kernel_rfl) (fun _ _ _ h => h) (Or.inl ⟨by rfl, by intro w hS; have hc := (hS.cell (p := ⟨g, 7, none⟩) hgl).trans c7.out; go_simp⟩) hHeld ?_
    try simp only [Act.put, List.setIfInBounds_toArray, List.set_cons_zero, List.set_cons_succ]
    refine wpAnyH_ready (rs := [4]) (by kernel_rfl) (by simp) ?_
    refine (AllReadyH.cons (o := { dst := some 7, op := Op.call { callee := Callee.value (Operand.func 62), args := #[Operand.tmp 6], argTypes := #[23] }, type := 3, pos := "file.go:51", after := #[{ on := 3, ground := Ground.data }], guard := none }) rfl (fun K hK => ?_) AllReadyH.nil)
    go_simp
    go_at_call 62
    refine (Epoch_any _ base F p D (HD.out.below hHeld)).mono ?_
    rintro e w4 ⟨rfl, rfl⟩
    go_wp2_with fail
    refine hK.out _ _ (hHeld) (fun hHeld2 => ?_)
    clear hK K hHeld
    have hHeld := hHeld2
    clear hHeld2
    try simp only [Act.put, List.setIfInBounds_toArray, List.set_cons_zero, List.set_cons_succ]
    refine wpAnyH_take (i := 9) (oi := { dst := some 12, op := Op.binOp BinOp.neq 3 (Operand.tmp 7) (Operand.tmp 11) 3, type := 4, pos := "file.go:51", after := #[{ on := 4, ground := Ground.data }, { on := 8, ground := Ground.data }], guard := none }) (v := .bool false) rfl (by kernel_rfl) (by kernel_rfl) (by kernel_rfl) (fun _ _ _ h => h) (Or.inl ⟨by rfl, by intro w hS; (have he2 := he; go_simp)⟩) hHeld ?_
    try simp only [Act.put, List.setIfInBounds_toArray, List.set_cons_zero, List.set_cons_succ]
    refine wpAnyH_done (by kernel_rfl) ?_ _
    refine NoPanic.normal ?_
    have c02 := HC0.out _ hHeld
    go_wp2_with fail
    refine (HPW.out _ hHeld).mono ?_
    rintro e w5 ⟨rfl, rfl⟩
    cases hp : D.power
    · rw [hp] at HL
      go_wp2
      go_ret
      exact ⟨by rw [HL.out]; rfl, hHeld⟩
    · rw [hp] at HL
      go_wp2
      go_ret
      exact ⟨by rw [HL.out]; rfl, hHeld⟩

  · have HL := hid (show liveF D ep = 3 by unfold liveF; rw [if_pos he])
    have he : (D.epoch != ep) = true := by simpa using he
    go_enter Try.func40, Try.ntmps40
    go_wp2
    refine wp_region_noPanic ?_
    refine wp_region_held_drew (S := fun w' => Below w.heap.size w w') (by kernel_rfl) (Below.refl _ _).drew (fun hHeld => ?_)
    refine wpAnyH_take (i := 0) (oi := { dst := some 3, op := Op.move (Operand.tmp 0), type := 66, pos := "file.go:51", after := #[], guard := none }) (v := .pointer (some ⟨g, 0, none⟩)) rfl (by kernel_rfl) (by kernel_rfl) (by kernel_rfl) (fun _ _ _ h => h) (Or.inl ⟨by rfl, by intro w hS; go_simp⟩) hHeld ?_
    try simp only [Act.put, List.setIfInBounds_toArray, List.set_cons_zero, List.set_cons_succ]
    refine wpAnyH_take (i := 5) (oi := { dst := some 8, op := Op.move (Operand.tmp 0), type := 66, pos := "file.go:51", after := #[], guard := none }) (v := .pointer (some ⟨g, 0, none⟩)) rfl (by kernel_rfl) (by kernel_rfl) (by kernel_rfl) (fun _ _ _ h => h) (Or.inl ⟨by rfl, by intro w hS; go_simp⟩) hHeld ?_
    try simp only [Act.put, List.setIfInBounds_toArray, List.set_cons_zero, List.set_cons_succ]
    refine wpAnyH_take (i := 1) (oi := { dst := some 4, op := Op.nilCheck (Operand.tmp 3), type := 0, pos := "file.go:51", after := #[{ on := 0, ground := Ground.data }], guard := none }) (v := .pointer (some ⟨g, 0, none⟩)) rfl (by kernel_rfl) (by kernel_rfl) (by kernel_rfl) (fun _ _ _ h => h) (Or.inl ⟨by rfl, by intro w hS; go_simp⟩) hHeld ?_
    try simp only [Act.put, List.setIfInBounds_toArray, List.set_cons_zero, List.set_cons_succ]
    refine wpAnyH_take (i := 6) (oi := { dst := some 9, op := Op.nilCheck (Operand.tmp 8), type := 0, pos := "file.go:51", after := #[{ on := 5, ground := Ground.data }], guard := none }) (v := .pointer (some ⟨g, 0, none⟩)) rfl (by kernel_rfl) (by kernel_rfl) (by kernel_rfl) (fun _ _ _ h => h) (Or.inl ⟨by rfl, by intro w hS; go_simp⟩) hHeld ?_
    try simp only [Act.put, List.setIfInBounds_toArray, List.set_cons_zero, List.set_cons_succ]
    refine wpAnyH_take (i := 2) (oi := { dst := some 5, op := Op.fieldAddr 97 (Operand.tmp 4) 0, type := 0, pos := "file.go:51", after := #[{ on := 1, ground := Ground.data }], guard := none }) (v := .pointer (some ⟨g, 0, none⟩)) rfl (by kernel_rfl) (by kernel_rfl) (by kernel_rfl) (fun _ _ _ h => h) (Or.inl ⟨by rfl, by intro w hS; go_simp⟩) hHeld ?_
    try simp only [Act.put, List.setIfInBounds_toArray, List.set_cons_zero, List.set_cons_succ]
    refine wpAnyH_take (i := 7) (oi := { dst := some 10, op := Op.fieldAddr 97 (Operand.tmp 9) 3, type := 0, pos := "file.go:51", after := #[{ on := 6, ground := Ground.data }], guard := none }) (v := .pointer (some ⟨g, 7, none⟩)) rfl (by kernel_rfl) (by kernel_rfl) (by kernel_rfl) (fun _ _ _ h => h) (Or.inl ⟨by rfl, by intro w hS; go_simp⟩) hHeld ?_
    try simp only [Act.put, List.setIfInBounds_toArray, List.set_cons_zero, List.set_cons_succ]
    refine wpAnyH_take (i := 3) (oi := { dst := some 6, op := Op.load 23 (Operand.tmp 5), type := 23, pos := "file.go:51", after := #[{ on := 2, ground := Ground.data }], guard := none }) (v := .pointer (some ⟨p, 0, none⟩)) rfl (by kernel_rfl) (by kernel_rfl) (by kernel_rfl) (fun _ _ _ h => h) (Or.inl ⟨by rfl, by intro w hS; have hc := (hS.cell (p := ⟨g, 0, none⟩) hgl).trans c0.out; go_simp⟩) hHeld ?_
    try simp only [Act.put, List.setIfInBounds_toArray, List.set_cons_zero, List.set_cons_succ]
    refine wpAnyH_take (i := 8) (oi := { dst := some 11, op := Op.load 3 (Operand.tmp 10), type := 3, pos := "file.go:51", after := #[{ on := 7, ground := Ground.data }], guard := none }) (v := .int .i64 ep) rfl (by kernel_rfl) (by kernel_rfl) (by kernel_rfl) (fun _ _ _ h => h) (Or.inl ⟨by rfl, by intro w hS; have hc := (hS.cell (p := ⟨g, 7, none⟩) hgl).trans c7.out; go_simp⟩) hHeld ?_
    try simp only [Act.put, List.setIfInBounds_toArray, List.set_cons_zero, List.set_cons_succ]
    refine wpAnyH_ready (rs := [4]) (by kernel_rfl) (by simp) ?_
    refine (AllReadyH.cons (o := { dst := some 7, op := Op.call { callee := Callee.value (Operand.func 62), args := #[Operand.tmp 6], argTypes := #[23] }, type := 3, pos := "file.go:51", after := #[{ on := 3, ground := Ground.data }], guard := none }) rfl (fun K hK => ?_) AllReadyH.nil)
    go_simp
    go_at_call 62
    refine (Epoch_any _ base F p D (HD.out.below hHeld)).mono ?_
    rintro e w4 ⟨rfl, rfl⟩
    go_wp2_with fail
    refine hK.out _ _ (hHeld) (fun hHeld2 => ?_)
    clear hK K hHeld
    have hHeld := hHeld2
    clear hHeld2
    try simp only [Act.put, List.setIfInBounds_toArray, List.set_cons_zero, List.set_cons_succ]
    refine wpAnyH_take (i := 9) (oi := { dst := some 12, op := Op.binOp BinOp.neq 3 (Operand.tmp 7) (Operand.tmp 11) 3, type := 4, pos := "file.go:51", after := #[{ on := 4, ground := Ground.data }, { on := 8, ground := Ground.data }], guard := none }) (v := .bool true) rfl (by kernel_rfl) (by kernel_rfl) (by kernel_rfl) (fun _ _ _ h => h) (Or.inl ⟨by rfl, by intro w hS; (have he2 := he; go_simp)⟩) hHeld ?_
    try simp only [Act.put, List.setIfInBounds_toArray, List.set_cons_zero, List.set_cons_succ]
    refine wpAnyH_done (by kernel_rfl) ?_ _
    refine NoPanic.normal ?_
    go_wp2
    go_ret
    exact ⟨by rw [HL.out]; rfl, hHeld⟩

set_option maxHeartbeats 400000 in
theorem FSuper_any (w : World) (g p : Nat) (s : Sup) (nx ep : Int) (hf : FK w g p s nx ep) :
    Calls Try.prog 30 #[.pointer (some ⟨g, 0, none⟩)] w fun e w' => e = .returned (.agg (supC s)) ∧ Below w.heap.size w w' := by
  have hgl : g < w.heap.size := hlt_ hf
  have r0 := hnew w (.cells (supC sup0) 56)
  have b0 := below_new w (.cells (supC sup0) 56)
  have HR : Hid ((w.alloc (.cells (supC sup0) 56)).rangeAt g 1 (supL s)) := hid (fun j v hv => by
    rw [show (w.alloc (.cells (supC sup0) 56)).cell? ⟨g, 1 + j, none⟩ = w.cell? ⟨g, 1 + j, none⟩ from b0.cell (p := ⟨g, 1 + j, none⟩) hgl, hf.cell]
    rcases j with _ | _ | _ | _ | _ | j <;> first | exact hv | (simp [supL] at hv))
  go_enter Try.func30, Try.ntmps30
  go_wp2_with (first
    | (refine wpList_load_mid_w (by rfl) 56 (.tmp 5) (by rfl) g 1 (by rfl) (supL s) _ (by exact HR.out) Try.underlying56 rfl (by rw [size_super]; rfl) ?_)
    | (refine wpList_store_row (by rfl) 56 (.tmp 2) (.tmp 6) (by rfl) w.heap.size (supC s) (by rfl) (by rfl) 56 (supC sup0) (by exact r0) (supN _) (supS _ _) (supO _) ?_))
  exact bodyPost_ret (v := .agg (supC s)) (results_cell_row Try.results30 _ _ w.heap.size 56 _ _ _ rfl (setRow_heap _ _ _ _ _ _ r0) Try.underlying56 rfl (by rw [size_super]; rfl)) rfl ⟨rfl, below_setRow b0 (Nat.le_refl _) _⟩
set_option maxHeartbeats 400000 in
theorem Format_taken (w : World) (base : Nat) (F : List Nat) (p : Nat) (D : DS) (h : DA w base F p D) (hpw : D.power = true) (hr : D.reads < 3999999999999999999) (wd : Int) (hwd : 1 ≤ wd ∧ wd ≤ 32) (hch : (chooseF (D.readOf 0) (D.readOf 1)).2 ≠ 55) :
    Calls Try.prog 15 #[.pointer (some ⟨p, 0, none⟩), .int .i64 wd] w fun e w' => e = .returned (.int .i64 60) ∧ DA w' base F p { D with reads := D.reads + 2 } ∧ Fr F w w' := by
  have hpx := Power_any w base F p D h
  rw [hpw] at hpx
  have HPW := hid hpx
  have HCH := hid (fchoose_any w base F p D h hpw hr)
  obtain ⟨i1, i2⟩ := hwd
  have hz : ((chooseF (D.readOf 0) (D.readOf 1)).2 != 55) = true := by simpa using hch
  clear hpx h hpw hr hch
  go_enter Try.func15, Try.ntmps15
  go_wp2_with (first | (go_at_call 33; refine HPW.out.mono ?_; rintro e w0 ⟨rfl, rfl⟩))
  refine HCH.out.mono ?_
  rintro e w1 ⟨rfl, hD1, hF1⟩
  generalize (chooseF (D.readOf 0) (D.readOf 1)).1 = S at *
  generalize (chooseF (D.readOf 0) (D.readOf 1)).2 = E at *
  have HD1 := hid hD1
  have HF1 := hid hF1
  clear hD1 hF1 HCH HPW
  go_wp2_with (first
    | (refine wpList_store_row (by rfl) 56 (.tmp 5) (.tmp 23) (by rfl) w1.heap.size (supC S) (by rfl) (by rfl) 56 _ (by exact hnew _ _) (supN S) (supZ S) (supO S) ?_; rw [setRow_alloc]))
  go_ret
  exact ⟨rfl, HD1.out.below (below_new _ _), HF1.out.tail (F' := F) (below_new _ _)⟩
set_option maxHeartbeats 400000 in
theorem Open_bad (w : World) (base : Nat) (F : List Nat) (p : Nat) (D : DS) (h : DA w base F p D) (hpw : D.power = true) (hr : D.reads < 3999999999999999999) (x : Int) (hx : (chooseF (D.readOf 0) (D.readOf 1)).2 = x) (hx0 : x ≠ 0) :
    Calls Try.prog 16 #[.pointer (some ⟨p, 0, none⟩)] w fun e w' => e = .returned (.tuple #[.pointer none, .int .i64 x]) ∧ DA w' base F p { D with reads := D.reads + 2 } ∧ Fr F w w' := by
  have HCH := hid (fchoose_any w base F p D h hpw hr)
  have hz : (x != 0) = true := by simpa using hx0
  have HX := hid hx
  clear h hpw hr hx hx0
  go_enter Try.func16, Try.ntmps16
  go_wp2_with fail
  refine HCH.out.mono ?_
  rintro e w1 ⟨rfl, hD1, hF1⟩
  rw [HX.out]
  generalize (chooseF (D.readOf 0) (D.readOf 1)).1 = S at *
  have HD1 := hid hD1
  have HF1 := hid hF1
  clear hD1 hF1 HCH HX
  go_wp2_with (first
    | (refine wpList_store_row (by rfl) 56 (.tmp 4) (.tmp 11) (by rfl) w1.heap.size (supC S) (by rfl) (by rfl) 56 _ (by exact hnew _ _) (supN S) (supZ S) (supO S) ?_; rw [setRow_alloc]))
  go_ret2
  exact ⟨rfl, HD1.out.below (below_new _ _), HF1.out.tail (F' := F) (below_new _ _)⟩
set_option maxRecDepth 100000 in
set_option maxHeartbeats 1000000 in
theorem Open_ok (w : World) (base : Nat) (F : List Nat) (p : Nat) (D : DS) (h : DA w base F p D) (hpw : D.power = true) (hr : D.reads < 3999999999999999999) (hep : D.epoch < 4000000000000000000) (s : Sup) (hs : chooseF (D.readOf 0) (D.readOf 1) = (s, 0)) (hpg : s.pg = (D.np : Int)) :
    Calls Try.prog 16 #[.pointer (some ⟨p, 0, none⟩)] w fun e w' => ∃ g, e = .returned (.tuple #[.pointer (some ⟨g, 0, none⟩), .int .i64 0]) ∧ w.heap.size ≤ g ∧ FK w' g p s s.ma (D.epoch + 1) ∧ DA w' base F p { D with reads := D.reads + 2, epoch := D.epoch + 1 } ∧ Fr F w w' := by
  have HCH := hid (fchoose_any w base F p D h hpw hr)
  have HX := hid hs
  have hpq : Hid ((s.pg != ((({ D with reads := D.reads + 2 } : DS).np : Nat) : Int)) = false) := hid (by rw [show ({ D with reads := D.reads + 2 } : DS).np = D.np from rfl, hpg]; simp)
  clear h hpw hr hs hpg
  go_enter Try.func16, Try.ntmps16
  go_wp2_with fail
  refine HCH.out.mono ?_
  rintro e w1 ⟨rfl, hD1, hF1⟩
  rw [HX.out]
  have HD1 := hid hD1
  have HF1 := hid hF1
  clear hD1 hF1 HCH HX
  go_wp2_with (first
    | (refine wpList_store_row (by rfl) 56 (.tmp 4) (.tmp 11) (by rfl) w1.heap.size (supC s) (by rfl) (by rfl) 56 _ (by exact hnew _ _) (supN s) (supZ s) (supO s) ?_; rw [setRow_alloc]; have R4 := hid (hnew w1 (.cells (supC s) 56)); have HD2 := hid (HD1.out.below (below_new w1 (.cells (supC s) 56))); have HF2 := hid (HF1.out.tail (F' := F) (below_new w1 (.cells (supC s) 56))); generalize hw2 : w1.alloc (.cells (supC s) 56) = w2 at *; generalize w1.heap.size = G4 at *))
  refine wp_region_noPanic ?_
  refine wp_region_held_drew (S := fun w' => w'.heap[G4]? = some (.cells (supC s) 56 (0, 0))) (by kernel_rfl) R4.out (fun hHeld => ?_)
  refine wpAnyH_take (i := 0) (oi := { dst := some 16, op := Op.fieldAddr 56 (Operand.tmp 4) 4, type := 0, pos := "file.go:30", after := #[], guard := none }) (v := .pointer (some ⟨G4, 4, none⟩)) rfl (by kernel_rfl) (by kernel_rfl) (by kernel_rfl) (fun _ _ _ h => h) (Or.inl ⟨by rfl, by intro w hS; go_simp⟩) hHeld ?_
  try simp only [Act.put, List.setIfInBounds_toArray, List.set_cons_zero, List.set_cons_succ]
  refine wpAnyH_take (i := 2) (oi := { dst := some 18, op := Op.move (Operand.tmp 0), type := 23, pos := "file.go:30", after := #[], guard := none }) (v := .pointer (some ⟨p, 0, none⟩)) rfl (by kernel_rfl) (by kernel_rfl) (by kernel_rfl) (fun _ _ _ h => h) (Or.inl ⟨by rfl, by intro w hS; go_simp⟩) hHeld ?_
  try simp only [Act.put, List.setIfInBounds_toArray, List.set_cons_zero, List.set_cons_succ]
  refine wpAnyH_take (i := 1) (oi := { dst := some 17, op := Op.load 3 (Operand.tmp 16), type := 3, pos := "file.go:30", after := #[{ on := 0, ground := Ground.data }], guard := none }) (v := .int .i64 s.pg) rfl (by kernel_rfl) (by kernel_rfl) (by kernel_rfl) (fun _ _ _ h => h) (Or.inl ⟨by rfl, by intro w hS; have hc := cell_sup4 hS; go_simp⟩) hHeld ?_
  try simp only [Act.put, List.setIfInBounds_toArray, List.set_cons_zero, List.set_cons_succ]
  refine wpAnyH_ready (rs := [3]) (by kernel_rfl) (by simp) ?_
  refine (AllReadyH.cons (o := { dst := some 19, op := Op.call { callee := Callee.value (Operand.func 35), args := #[Operand.tmp 18], argTypes := #[23] }, type := 3, pos := "file.go:30", after := #[{ on := 2, ground := Ground.data }], guard := none }) rfl (fun K hK => ?_) AllReadyH.nil)
  go_simp
  go_at_call 35
  refine (Pages_any _ base F p _ (HD2.out.drew)).mono ?_
  rintro e w4 ⟨rfl, rfl⟩
  go_wp2_with fail
  refine hK.out _ _ (hHeld) (fun hHeld2 => ?_)
  clear hK K hHeld
  have hHeld := hHeld2
  clear hHeld2
  try simp only [Act.put, List.setIfInBounds_toArray, List.set_cons_zero, List.set_cons_succ]
  refine wpAnyH_take (i := 4) (oi := { dst := some 20, op := Op.binOp BinOp.neq 3 (Operand.tmp 17) (Operand.tmp 19) 3, type := 4, pos := "file.go:30", after := #[{ on := 1, ground := Ground.data }, { on := 3, ground := Ground.data }], guard := none }) (v := .bool false) rfl (by kernel_rfl) (by kernel_rfl) (by kernel_rfl) (fun _ _ _ h => h) (Or.inl ⟨by rfl, by intro w hS; (have he2 := hpq.out; go_simp)⟩) hHeld ?_
  try simp only [Act.put, List.setIfInBounds_toArray, List.set_cons_zero, List.set_cons_succ]
  refine wpAnyH_done (by kernel_rfl) ?_ _
  refine NoPanic.normal ?_
  go_wp2
  have R4 := hid hHeld
  have HD3 := hid HD2.out.drew
  have HF3 := hid HF2.out.drew
  have hn4 : G4 ∉ F := HD3.out.not_in R4.out (by decide) (by decide) (by decide)
  clear HD2 HF2 hHeld

  refine wp_region_noPanic ?_
  refine wp_region_held_drew (S := fun w' => w'.heap[G4]? = some (.cells (supC s) 56 (0, 0))) (by kernel_rfl) R4.out (fun hHeld => ?_)
  refine wpAnyH_take (i := 0) (oi := { dst := some 21, op := Op.move (Operand.tmp 0), type := 23, pos := "file.go:33", after := #[], guard := none }) (v := .pointer (some ⟨p, 0, none⟩)) rfl (by kernel_rfl) (by kernel_rfl) (by kernel_rfl) (fun _ _ _ h => h) (Or.inl ⟨by rfl, by intro w hS; go_simp⟩) hHeld ?_
  try simp only [Act.put, List.setIfInBounds_toArray, List.set_cons_zero, List.set_cons_succ]
  refine wpAnyH_take (i := 1) (oi := { dst := some 22, op := Op.load 56 (Operand.tmp 4), type := 56, pos := "file.go:33", after := #[], guard := none }) (v := .agg (supC s)) rfl (by kernel_rfl) (by kernel_rfl) (by kernel_rfl) (fun _ _ _ h => h) (yieldsIf_load_sup (by rfl) (.tmp 4) rfl G4 rfl s (fun w1 hS => hS)) hHeld ?_
  try simp only [Act.put, List.setIfInBounds_toArray, List.set_cons_zero, List.set_cons_succ]
  refine wpAnyH_take (i := 2) (oi := { dst := some 23, op := Op.fieldAddr 56 (Operand.tmp 4) 2, type := 0, pos := "file.go:33", after := #[], guard := none }) (v := .pointer (some ⟨G4, 2, none⟩)) rfl (by kernel_rfl) (by kernel_rfl) (by kernel_rfl) (fun _ _ _ h => h) (Or.inl ⟨by rfl, by intro w hS; go_simp⟩) hHeld ?_
  try simp only [Act.put, List.setIfInBounds_toArray, List.set_cons_zero, List.set_cons_succ]
  refine wpAnyH_take (i := 4) (oi := { dst := some 25, op := Op.move (Operand.tmp 0), type := 23, pos := "file.go:33", after := #[], guard := none }) (v := .pointer (some ⟨p, 0, none⟩)) rfl (by kernel_rfl) (by kernel_rfl) (by kernel_rfl) (fun _ _ _ h => h) (Or.inl ⟨by rfl, by intro w hS; go_simp⟩) hHeld ?_
  try simp only [Act.put, List.setIfInBounds_toArray, List.set_cons_zero, List.set_cons_succ]
  refine wpAnyH_take (i := 3) (oi := { dst := some 24, op := Op.load 3 (Operand.tmp 23), type := 3, pos := "file.go:33", after := #[{ on := 2, ground := Ground.data }], guard := none }) (v := .int .i64 s.ma) rfl (by kernel_rfl) (by kernel_rfl) (by kernel_rfl) (fun _ _ _ h => h) (Or.inl ⟨by rfl, by intro w hS; have hc := cell_sup2 hS; go_simp⟩) hHeld ?_
  try simp only [Act.put, List.setIfInBounds_toArray, List.set_cons_zero, List.set_cons_succ]
  refine wpAnyH_ready (rs := [5]) (by kernel_rfl) (by simp) ?_
  refine (AllReadyH.cons (o := { dst := some 26, op := Op.call { callee := Callee.value (Operand.func 39), args := #[Operand.tmp 25], argTypes := #[23] }, type := 3, pos := "file.go:33", after := #[{ on := 4, ground := Ground.data }], guard := none }) rfl (fun K hK => ?_) AllReadyH.nil)
  go_simp
  go_at_call 39
  refine (Claim_same _ base F p _ (HD3.out.drew) hep).mono ?_
  rintro e w4 ⟨rfl, hD4, hF4⟩
  go_wp2_with fail
  refine hK.out _ _ (hF4.keep hHeld hn4) (fun hHeld2 => ?_)
  clear hK K hHeld
  have hHeld := hHeld2
  clear hHeld2
  try simp only [Act.put, List.setIfInBounds_toArray, List.set_cons_zero, List.set_cons_succ]
  refine wpAnyH_take (i := 6) (oi := { dst := some 27, op := Op.build 97 #[(0, Operand.tmp 21), (1, Operand.tmp 22), (2, Operand.tmp 24), (3, Operand.tmp 26)], type := 97, pos := "file.go:33", after := #[{ on := 0, ground := Ground.data }, { on := 1, ground := Ground.data }, { on := 3, ground := Ground.data }, { on := 5, ground := Ground.data }], guard := none }) (v := .agg (fcells p s s.ma (D.epoch + 1))) rfl (by kernel_rfl) (by kernel_rfl) (by kernel_rfl) (fun _ _ _ h => h) (yields_build_file (by rfl) (.tmp 21) (.tmp 22) (.tmp 24) (.tmp 26) rfl p s s.ma (D.epoch + 1) rfl rfl rfl rfl) hHeld ?_
  try simp only [Act.put, List.setIfInBounds_toArray, List.set_cons_zero, List.set_cons_succ]
  refine wpAnyH_ready (rs := [7]) (by kernel_rfl) (by simp) ?_
  refine (AllReadyH.cons (o := { dst := some 28, op := Op.box 97 (Operand.tmp 27), type := 66, pos := "file.go:33", after := #[{ on := 6, ground := Ground.data }], guard := none }) rfl (fun K hK => ?_) AllReadyH.nil)
  refine step_box_file (by rfl) (.tmp 27) rfl p s s.ma (D.epoch + 1) rfl ?_
  refine hK.out _ _ (hold hHeld) (fun hHeld2 => ?_)
  clear hK K hHeld
  have hHeld := hHeld2
  clear hHeld2
  try simp only [Act.put, List.setIfInBounds_toArray, List.set_cons_zero, List.set_cons_succ]
  refine wpAnyH_take (i := 8) (oi := { dst := some 2, op := Op.assign (Operand.tmp 28), type := 66, pos := "file.go:33", after := #[{ on := 7, ground := Ground.data }, { on := 5, ground := Ground.chain }, { on := 0, ground := Ground.phase }, { on := 1, ground := Ground.phase }, { on := 2, ground := Ground.phase }, { on := 3, ground := Ground.phase }, { on := 4, ground := Ground.phase }, { on := 5, ground := Ground.phase }, { on := 6, ground := Ground.phase }, { on := 7, ground := Ground.phase }], guard := none }) (v := .pointer (some ⟨w4.heap.size, 0, none⟩)) rfl (by kernel_rfl) (by kernel_rfl) (by kernel_rfl) (fun _ _ _ h => h) (Or.inl ⟨by rfl, by intro w hS; go_simp⟩) hHeld ?_
  try simp only [Act.put, List.setIfInBounds_toArray, List.set_cons_zero, List.set_cons_succ]
  refine wpAnyH_take (i := 9) (oi := { dst := some 3, op := Op.assign (Operand.const (Value.int IntKind.i64 0)), type := 62, pos := "file.go:33", after := #[{ on := 8, ground := Ground.chain }, { on := 0, ground := Ground.phase }, { on := 1, ground := Ground.phase }, { on := 2, ground := Ground.phase }, { on := 3, ground := Ground.phase }, { on := 4, ground := Ground.phase }, { on := 5, ground := Ground.phase }, { on := 6, ground := Ground.phase }, { on := 7, ground := Ground.phase }, { on := 8, ground := Ground.phase }], guard := none }) (v := .int IntKind.i64 0) rfl (by kernel_rfl) (by kernel_rfl) (by kernel_rfl) (fun _ _ _ h => h) (Or.inl ⟨by rfl, by intro w hS; go_simp⟩) hHeld ?_
  try simp only [Act.put, List.setIfInBounds_toArray, List.set_cons_zero, List.set_cons_succ]
  refine wpAnyH_done (by kernel_rfl) ?_ _
  refine NoPanic.normal ?_
  go_wp2
  go_ret2
  exact ⟨w4.heap.size, rfl, Nat.le_trans HF3.out.size hF4.size, hnew _ _, hD4.below (below_new _ _), (HF3.out.drew.trans hF4 (Gr.refl _ _)).tail (F' := F) (below_new _ _)⟩

end Go.Proofs.Ytihkjfbhmlfonaa
