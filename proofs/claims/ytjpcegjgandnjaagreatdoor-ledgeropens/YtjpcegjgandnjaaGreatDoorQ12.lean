import Derived.Test.YtjpcegjgandnjaaGreatDoorQ11
namespace Go.Proofs.YtjpcegjgandnjaaGreatDoor
set_option linter.unusedVariables false
set_option linter.unusedSimpArgs false
open Go.RowKit
attribute [local go_sem ↓] Go.wp_at_zero Go.wp_at_succ

/-! A file in memory. -/
def fcells (p : Nat) (s : Sup) (nx ep : Int) : Array Value := #[.pointer (some ⟨p, 0, none⟩), .int .i64 s.wd, .int .i64 s.ge, .int .i64 s.ma, .int .i64 s.hd, .int .i64 s.pg, .int .i64 nx, .int .i64 ep]
def FK (w : World) (g p : Nat) (s : Sup) (nx ep : Int) : Prop := w.heap[g]? = some (.cells (fcells p s nx ep) 133 (0, 0))
theorem FK.below {w w1 : World} {g p : Nat} {s : Sup} {nx ep : Int} (h : FK w g p s nx ep) (hb : Below w.heap.size w w1) : FK w1 g p s nx ep := (hb.block g (hlt_ h)).trans h
theorem FK.not {w : World} {g p : Nat} {s : Sup} {nx ep : Int} (h : FK w g p s nx ep) {base : Nat} {F : List Nat} {q : Nat} {D : DS} (hd : DA w base F q D) : g ∉ F := hd.not_in h (by decide) (by decide) (by decide)
theorem FK.other {w w1 : World} {g p : Nat} {s : Sup} {nx ep : Int} (h : FK w g p s nx ep) {base : Nat} {F : List Nat} {q : Nat} {D : DS} (hd : DA w base F q D) (hf : Fr F w w1) : FK w1 g p s nx ep := hf.keep h (h.not hd)
theorem FK.cell {w : World} {g p : Nat} {s : Sup} {nx ep : Int} (h : FK w g p s nx ep) (j : Nat) : w.cell? ⟨g, j, none⟩ = (fcells p s nx ep)[j]? := cell_of_row _ _ _ _ _ _ h
theorem cell_sup4 {w : World} {b : Nat} {s : Sup} {t : TypeId} (h : w.heap[b]? = some (.cells (supC s) t (0, 0))) : w.cell? ⟨b, 4, none⟩ = some (.int .i64 s.pg) := by simp [World.cell?, h, supC]
theorem cell_sup2 {w : World} {b : Nat} {s : Sup} {t : TypeId} (h : w.heap[b]? = some (.cells (supC s) t (0, 0))) : w.cell? ⟨b, 2, none⟩ = some (.int .i64 s.ma) := by simp [World.cell?, h, supC]
theorem DA.drew {w : World} {base : Nat} {F : List Nat} {p : Nat} {D : DS} (h : DA w base F p D) : DA w.drew base F p D := h.of_heap fun _ _ => rfl
theorem Claim_same (w : World) (base : Nat) (F : List Nat) (p : Nat) (D : DS) (h : DA w base F p D) (hep : D.epoch < 4000000000000000000) :
    Calls Tryz.prog 71 #[.pointer (some ⟨p, 0, none⟩)] w fun e w' => e = .returned (.int .i64 (D.epoch + 1)) ∧ DA w' base F p { D with epoch := D.epoch + 1 } ∧ Fr F w w' := by
  obtain ⟨P, rfl, rfl, hk, hok⟩ := h
  refine (Claim_in w base P D hk ⟨hok.epoch.1, hep⟩).mono ?_
  rintro e w' ⟨rfl, h1, h2⟩
  exact ⟨rfl, ⟨P, rfl, rfl, h1, ⟨hok.n, hok.bts, hok.ops, hok.reads, hok.writes, hok.syncs, by show 0 ≤ D.epoch + 1 ∧ D.epoch + 1 ≤ _; have := hok.epoch; omega, hok.armed⟩⟩, h2⟩
theorem build_file (p : Nat) (s : Sup) (nx ep : Int) (w : World) :
    (Instr.build 133 #[(0, .pointer (some ⟨p, 0, none⟩)), (1, .agg (supC s)), (2, .int .i64 nx), (3, .int .i64 ep)]).run Tryz.prog w = .ok (.agg (fcells p s nx ep)) w := by
  kernel_rfl
theorem yields_build_file {ops : Array Oper} {S : World → Prop} {o : Oper} {a : Act} (hw : Region.wanted o (yielded ops a.tmps) = true) (x y z u : Operand) (ho : o.op = .build 133 #[(0, x), (1, y), (2, z), (3, u)])
    (p : Nat) (s : Sup) (nx ep : Int) (hx : a.eval x = .pointer (some ⟨p, 0, none⟩)) (hy : a.eval y = .agg (supC s)) (hz : a.eval z = .int .i64 nx) (hu : a.eval u = .int .i64 ep) :
    YieldsIf Tryz.prog ops S o (.agg (fcells p s nx ep)) a :=
  .inl ⟨hw, fun w _ => by
    unfold execOp
    simp only [ho, List.map_toArray, List.map_cons, List.map_nil, hx, hy, hz, hu, Sem.run_bind, build_file, Result.andThen_ok, Sem.run_pure]⟩
theorem box_file (p : Nat) (s : Sup) (nx ep : Int) (w : World) :
    (Instr.box 133 (.agg (fcells p s nx ep))).run Tryz.prog w = .ok (.pointer (some ⟨w.heap.size, 0, none⟩)) (w.alloc (.cells (fcells p s nx ep) 133)) := by
  kernel_rfl
theorem step_box_file {w : World} {ops : Array Oper} {o : Oper} {a : Act} {K : Act → World → Prop} {Q : Exit → Act → World → Prop} {E : Prop} (hw : Region.wanted o (yielded ops a.tmps) = true) (x : Operand) (ho : o.op = .box 133 x)
    (p : Nat) (s : Sup) (nx ep : Int) (hx : a.eval x = .agg (fcells p s nx ep)) (h : K (a.put o.dst (.pointer (some ⟨w.heap.size, 0, none⟩))) (w.alloc (.cells (fcells p s nx ep) 133))) :
    if Region.wanted o (yielded ops a.tmps) = true then Oper.wp Tryz.prog o a w K Q else E := by
  rw [if_pos hw]
  unfold Oper.wp execOp
  simp only [ho, hx, Sem.run_bind, box_file, Result.andThen_ok, Sem.run_pure]
  exact h
/-- What Live answers. -/
def liveF (D : DS) (ep : Int) : Int := if D.epoch ≠ ep then 3 else if D.power = true then 0 else 2
set_option maxHeartbeats 400000 in
theorem Live_any (w : World) (base : Nat) (F : List Nat) (p : Nat) (D : DS) (h : DA w base F p D) (g : Nat) (s : Sup) (nx ep : Int) (hf : FK w g p s nx ep) :
    Calls Tryz.prog 51 #[.pointer (some ⟨g, 0, none⟩)] w fun e w' => e = .returned (.int .i64 (liveF D ep)) ∧ Below w.heap.size w w' := by
  have HD := hid h
  have hgl : g < w.heap.size := hlt_ hf
  have c0 := hid (show w.cell? ⟨g, 0, none⟩ = some (.pointer (some ⟨p, 0, none⟩)) from hf.cell 0)
  have c7 := hid (show w.cell? ⟨g, 7, none⟩ = some (.int .i64 ep) from hf.cell 7)
  have HPW := hid (fun (w1 : World) (hb : Below w.heap.size w w1) => Power_any w1 base F p D (h.below hb))
  have HC0 := hid (fun (w1 : World) (hb : Below w.heap.size w w1) => (hb.cell (p := ⟨g, 0, none⟩) hgl).trans c0.out)
  clear h hf
  by_cases he : D.epoch = ep
  · have HL := hid (show liveF D ep = if D.power = true then 0 else 2 by unfold liveF; rw [if_neg (fun q => q he)])
    have he : (D.epoch != ep) = false := by simpa using he
    go_enter Tryz.func51, Tryz.ntmps51
    go_wp2
    refine wp_region_noPanic ?_
    refine wp_region_held_drew (S := fun w' => Below w.heap.size w w') (by kernel_rfl) (Below.refl _ _).drew (fun hHeld => ?_)
    refine wpAnyH_take (i := 0) (oi := { dst := some 3, op := Op.move (Operand.tmp 0), type := 120, pos := "file.go:51", after := #[], guard := none }) (v := .pointer (some ⟨g, 0, none⟩)) rfl (by kernel_rfl) (by kernel_rfl) (by kernel_rfl) (fun _ _ _ h => h) (Or.inl ⟨by rfl, by intro w hS; go_simp⟩) hHeld ?_
    try simp only [Act.put, List.setIfInBounds_toArray, List.set_cons_zero, List.set_cons_succ]
    refine wpAnyH_take (i := 5) (oi := { dst := some 8, op := Op.move (Operand.tmp 0), type := 120, pos := "file.go:51", after := #[], guard := none }) (v := .pointer (some ⟨g, 0, none⟩)) rfl (by kernel_rfl) (by kernel_rfl) (by kernel_rfl) (fun _ _ _ h => h) (Or.inl ⟨by rfl, by intro w hS; go_simp⟩) hHeld ?_
    try simp only [Act.put, List.setIfInBounds_toArray, List.set_cons_zero, List.set_cons_succ]
    refine wpAnyH_take (i := 1) (oi := { dst := some 4, op := Op.nilCheck (Operand.tmp 3), type := 0, pos := "file.go:51", after := #[{ on := 0, ground := Ground.data }], guard := none }) (v := .pointer (some ⟨g, 0, none⟩)) rfl (by kernel_rfl) (by kernel_rfl) (by kernel_rfl) (fun _ _ _ h => h) (Or.inl ⟨by rfl, by intro w hS; go_simp⟩) hHeld ?_
    try simp only [Act.put, List.setIfInBounds_toArray, List.set_cons_zero, List.set_cons_succ]
    refine wpAnyH_take (i := 6) (oi := { dst := some 9, op := Op.nilCheck (Operand.tmp 8), type := 0, pos := "file.go:51", after := #[{ on := 5, ground := Ground.data }], guard := none }) (v := .pointer (some ⟨g, 0, none⟩)) rfl (by kernel_rfl) (by kernel_rfl) (by kernel_rfl) (fun _ _ _ h => h) (Or.inl ⟨by rfl, by intro w hS; go_simp⟩) hHeld ?_
    try simp only [Act.put, List.setIfInBounds_toArray, List.set_cons_zero, List.set_cons_succ]
    refine wpAnyH_take (i := 2) (oi := { dst := some 5, op := Op.fieldAddr 133 (Operand.tmp 4) 0, type := 0, pos := "file.go:51", after := #[{ on := 1, ground := Ground.data }], guard := none }) (v := .pointer (some ⟨g, 0, none⟩)) rfl (by kernel_rfl) (by kernel_rfl) (by kernel_rfl) (fun _ _ _ h => h) (Or.inl ⟨by rfl, by intro w hS; go_simp⟩) hHeld ?_
    try simp only [Act.put, List.setIfInBounds_toArray, List.set_cons_zero, List.set_cons_succ]
    refine wpAnyH_take (i := 7) (oi := { dst := some 10, op := Op.fieldAddr 133 (Operand.tmp 9) 3, type := 0, pos := "file.go:51", after := #[{ on := 6, ground := Ground.data }], guard := none }) (v := .pointer (some ⟨g, 7, none⟩)) rfl (by kernel_rfl) (by kernel_rfl) (by kernel_rfl) (fun _ _ _ h => h) (Or.inl ⟨by rfl, by intro w hS; go_simp⟩) hHeld ?_
    try simp only [Act.put, List.setIfInBounds_toArray, List.set_cons_zero, List.set_cons_succ]
    refine wpAnyH_take (i := 3) (oi := { dst := some 6, op := Op.load 29 (Operand.tmp 5), type := 29, pos := "file.go:51", after := #[{ on := 2, ground := Ground.data }], guard := none }) (v := .pointer (some ⟨p, 0, none⟩)) rfl (by kernel_rfl) (by kernel_rfl) (by kernel_rfl) (fun _ _ _ h => h) (Or.inl ⟨by rfl, by intro w hS; have hc := (hS.cell (p := ⟨g, 0, none⟩) hgl).trans c0.out; go_simp⟩) hHeld ?_
    try simp only [Act.put, List.setIfInBounds_toArray, List.set_cons_zero, List.set_cons_succ]
    refine wpAnyH_take (i := 8) (oi := { dst := some 11, op := Op.load 3 (Operand.tmp 10), type := 3, pos := "file.go:51", after := #[{ on := 7, ground := Ground.data }], guard := none }) (v := .int .i64 ep) rfl (by kernel_rfl) (by kernel_rfl) (by kernel_rfl) (fun _ _ _ h => h) (Or.inl ⟨by rfl, by intro w hS; have hc := (hS.cell (p := ⟨g, 7, none⟩) hgl).trans c7.out; go_simp⟩) hHeld ?_
    try simp only [Act.put, List.setIfInBounds_toArray, List.set_cons_zero, List.set_cons_succ]
    refine wpAnyH_ready (rs := [4]) (by kernel_rfl) (by simp) ?_
    refine (AllReadyH.cons (o := { dst := some 7, op := Op.call { callee := Callee.value (Operand.func 84), args := #[Operand.tmp 6], argTypes := #[29] }, type := 3, pos := "file.go:51", after := #[{ on := 3, ground := Ground.data }], guard := none }) rfl (fun K hK => ?_) AllReadyH.nil)
    go_simp
    go_at_call 84
    refine (Epoch_any _ base F p D (HD.out.below hHeld)).mono ?_
    rintro e w4 ⟨rfl, rfl⟩
    go_wp2_with fail
    refine hK.out _ _ (hHeld) (fun hHeld2 => ?_)
    clear hK K hHeld
    have hHeld := hHeld2
    clear hHeld2
    try simp only [Act.put, List.setIfInBounds_toArray, List.set_cons_zero, List.set_cons_succ]
    refine wpAnyH_take (i := 9) (oi := { dst := some 12, op := Op.binOp BinOp.neq 3 (Operand.tmp 7) (Operand.tmp 11) 3, type := 4, pos := "file.go:51", after := #[{ on := 4, ground := Ground.data }, { on := 8, ground := Ground.data }], guard := none }) (v := .bool false) rfl (by kernel_rfl) (by kernel_rfl) (by kernel_rfl) (fun _ _ _ h => h) (Or.inl ⟨by rfl, by intro w hS; (have he2 := he; go_simp)⟩) hHeld ?_
    try simp only [Act.put, List.setIfInBounds_toArray, List.set_cons_zero, List.set_cons_succ]
    refine wpAnyH_done (by kernel_rfl) ?_ _
    refine NoPanic.normal ?_
    have c02 := HC0.out _ hHeld
    go_wp2_with fail
    refine (HPW.out _ hHeld).mono ?_
    rintro e w5 ⟨rfl, rfl⟩
    cases hp : D.power
    · rw [hp] at HL
      go_wp2
      go_ret
      exact ⟨by rw [HL.out]; rfl, hHeld⟩
    · rw [hp] at HL
      go_wp2
      go_ret
      exact ⟨by rw [HL.out]; rfl, hHeld⟩

  · have HL := hid (show liveF D ep = 3 by unfold liveF; rw [if_pos he])
    have he : (D.epoch != ep) = true := by simpa using he
    go_enter Tryz.func51, Tryz.ntmps51
    go_wp2
    refine wp_region_noPanic ?_
    refine wp_region_held_drew (S := fun w' => Below w.heap.size w w') (by kernel_rfl) (Below.refl _ _).drew (fun hHeld => ?_)
    refine wpAnyH_take (i := 0) (oi := { dst := some 3, op := Op.move (Operand.tmp 0), type := 120, pos := "file.go:51", after := #[], guard := none }) (v := .pointer (some ⟨g, 0, none⟩)) rfl (by kernel_rfl) (by kernel_rfl) (by kernel_rfl) (fun _ _ _ h => h) (Or.inl ⟨by rfl, by intro w hS; go_simp⟩) hHeld ?_
    try simp only [Act.put, List.setIfInBounds_toArray, List.set_cons_zero, List.set_cons_succ]
    refine wpAnyH_take (i := 5) (oi := { dst := some 8, op := Op.move (Operand.tmp 0), type := 120, pos := "file.go:51", after := #[], guard := none }) (v := .pointer (some ⟨g, 0, none⟩)) rfl (by kernel_rfl) (by kernel_rfl) (by kernel_rfl) (fun _ _ _ h => h) (Or.inl ⟨by rfl, by intro w hS; go_simp⟩) hHeld ?_
    try simp only [Act.put, List.setIfInBounds_toArray, List.set_cons_zero, List.set_cons_succ]
    refine wpAnyH_take (i := 1) (oi := { dst := some 4, op := Op.nilCheck (Operand.tmp 3), type := 0, pos := "file.go:51", after := #[{ on := 0, ground := Ground.data }], guard := none }) (v := .pointer (some ⟨g, 0, none⟩)) rfl (by kernel_rfl) (by kernel_rfl) (by kernel_rfl) (fun _ _ _ h => h) (Or.inl ⟨by rfl, by intro w hS; go_simp⟩) hHeld ?_
    try simp only [Act.put, List.setIfInBounds_toArray, List.set_cons_zero, List.set_cons_succ]
    refine wpAnyH_take (i := 6) (oi := { dst := some 9, op := Op.nilCheck (Operand.tmp 8), type := 0, pos := "file.go:51", after := #[{ on := 5, ground := Ground.data }], guard := none }) (v := .pointer (some ⟨g, 0, none⟩)) rfl (by kernel_rfl) (by kernel_rfl) (by kernel_rfl) (fun _ _ _ h => h) (Or.inl ⟨by rfl, by intro w hS; go_simp⟩) hHeld ?_
    try simp only [Act.put, List.setIfInBounds_toArray, List.set_cons_zero, List.set_cons_succ]
    refine wpAnyH_take (i := 2) (oi := { dst := some 5, op := Op.fieldAddr 133 (Operand.tmp 4) 0, type := 0, pos := "file.go:51", after := #[{ on := 1, ground := Ground.data }], guard := none }) (v := .pointer (some ⟨g, 0, none⟩)) rfl (by kernel_rfl) (by kernel_rfl) (by kernel_rfl) (fun _ _ _ h => h) (Or.inl ⟨by rfl, by intro w hS; go_simp⟩) hHeld ?_
    try simp only [Act.put, List.setIfInBounds_toArray, List.set_cons_zero, List.set_cons_succ]
    refine wpAnyH_take (i := 7) (oi := { dst := some 10, op := Op.fieldAddr 133 (Operand.tmp 9) 3, type := 0, pos := "file.go:51", after := #[{ on := 6, ground := Ground.data }], guard := none }) (v := .pointer (some ⟨g, 7, none⟩)) rfl (by kernel_rfl) (by kernel_rfl) (by kernel_rfl) (fun _ _ _ h => h) (Or.inl ⟨by rfl, by intro w hS; go_simp⟩) hHeld ?_
    try simp only [Act.put, List.setIfInBounds_toArray, List.set_cons_zero, List.set_cons_succ]
    refine wpAnyH_take (i := 3) (oi := { dst := some 6, op := Op.load 29 (Operand.tmp 5), type := 29, pos := "file.go:51", after := #[{ on := 2, ground := Ground.data }], guard := none }) (v := .pointer (some ⟨p, 0, none⟩)) rfl (by kernel_rfl) (by kernel_rfl) (by kernel_rfl) (fun _ _ _ h => h) (Or.inl ⟨by rfl, by intro w hS; have hc := (hS.cell (p := ⟨g, 0, none⟩) hgl).trans c0.out; go_simp⟩) hHeld ?_
    try simp only [Act.put, List.setIfInBounds_toArray, List.set_cons_zero, List.set_cons_succ]
    refine wpAnyH_take (i := 8) (oi := { dst := some 11, op := Op.load 3 (Operand.tmp 10), type := 3, pos := "file.go:51", after := #[{ on := 7, ground := Ground.data }], guard := none }) (v := .int .i64 ep) rfl (by kernel_rfl) (by kernel_rfl) (by kernel_rfl) (fun _ _ _ h => h) (Or.inl ⟨by rfl, by intro w hS; have hc := (hS.cell (p := ⟨g, 7, none⟩) hgl).trans c7.out; go_simp⟩) hHeld ?_
    try simp only [Act.put, List.setIfInBounds_toArray, List.set_cons_zero, List.set_cons_succ]
    refine wpAnyH_ready (rs := [4]) (by kernel_rfl) (by simp) ?_
    refine (AllReadyH.cons (o := { dst := some 7, op := Op.call { callee := Callee.value (Operand.func 84), args := #[Operand.tmp 6], argTypes := #[29] }, type := 3, pos := "file.go:51", after := #[{ on := 3, ground := Ground.data }], guard := none }) rfl (fun K hK => ?_) AllReadyH.nil)
    go_simp
    go_at_call 84
    refine (Epoch_any _ base F p D (HD.out.below hHeld)).mono ?_
    rintro e w4 ⟨rfl, rfl⟩
    go_wp2_with fail
    refine hK.out _ _ (hHeld) (fun hHeld2 => ?_)
    clear hK K hHeld
    have hHeld := hHeld2
    clear hHeld2
    try simp only [Act.put, List.setIfInBounds_toArray, List.set_cons_zero, List.set_cons_succ]
    refine wpAnyH_take (i := 9) (oi := { dst := some 12, op := Op.binOp BinOp.neq 3 (Operand.tmp 7) (Operand.tmp 11) 3, type := 4, pos := "file.go:51", after := #[{ on := 4, ground := Ground.data }, { on := 8, ground := Ground.data }], guard := none }) (v := .bool true) rfl (by kernel_rfl) (by kernel_rfl) (by kernel_rfl) (fun _ _ _ h => h) (Or.inl ⟨by rfl, by intro w hS; (have he2 := he; go_simp)⟩) hHeld ?_
    try simp only [Act.put, List.setIfInBounds_toArray, List.set_cons_zero, List.set_cons_succ]
    refine wpAnyH_done (by kernel_rfl) ?_ _
    refine NoPanic.normal ?_
    go_wp2
    go_ret
    exact ⟨by rw [HL.out]; rfl, hHeld⟩

set_option maxHeartbeats 400000 in
theorem FSuper_any (w : World) (g p : Nat) (s : Sup) (nx ep : Int) (hf : FK w g p s nx ep) :
    Calls Tryz.prog 52 #[.pointer (some ⟨g, 0, none⟩)] w fun e w' => e = .returned (.agg (supC s)) ∧ Below w.heap.size w w' := by
  have hgl : g < w.heap.size := hlt_ hf
  have r0 := hnew w (.cells (supC sup0) 99)
  have b0 := below_new w (.cells (supC sup0) 99)
  have HR : Hid ((w.alloc (.cells (supC sup0) 99)).rangeAt g 1 (supL s)) := hid (fun j v hv => by
    rw [show (w.alloc (.cells (supC sup0) 99)).cell? ⟨g, 1 + j, none⟩ = w.cell? ⟨g, 1 + j, none⟩ from b0.cell (p := ⟨g, 1 + j, none⟩) hgl, hf.cell]
    rcases j with _ | _ | _ | _ | _ | j <;> first | exact hv | (simp [supL] at hv))
  go_enter Tryz.func52, Tryz.ntmps52
  go_wp2_with (first
    | (refine wpList_load_mid_w (by rfl) 99 (.tmp 5) (by rfl) g 1 (by rfl) (supL s) _ (by exact HR.out) Tryz.underlying99 rfl (by rw [size_super]; rfl) ?_)
    | (refine wpList_store_row (by rfl) 99 (.tmp 2) (.tmp 6) (by rfl) w.heap.size (supC s) (by rfl) (by rfl) 99 (supC sup0) (by exact r0) (supN _) (supS _ _) (supO _) ?_))
  exact bodyPost_ret (v := .agg (supC s)) (results_cell_row Tryz.results52 _ _ w.heap.size 99 _ _ _ rfl (setRow_heap _ _ _ _ _ _ r0) Tryz.underlying99 rfl (by rw [size_super]; rfl)) rfl ⟨rfl, below_setRow b0 (Nat.le_refl _) _⟩
set_option maxHeartbeats 400000 in
theorem Open_bad (w : World) (base : Nat) (F : List Nat) (p : Nat) (D : DS) (h : DA w base F p D) (hpw : D.power = true) (hr : D.reads < 3999999999999999999) (x : Int) (hx : (chooseF (D.readOf 0) (D.readOf 1)).2 = x) (hx0 : x ≠ 0) :
    Calls Tryz.prog 46 #[.pointer (some ⟨p, 0, none⟩)] w fun e w' => e = .returned (.tuple #[.pointer none, .int .i64 x]) ∧ DA w' base F p { D with reads := D.reads + 2 } ∧ Fr F w w' := by
  have HCH := hid (fchoose_any w base F p D h hpw hr)
  have hz : (x != 0) = true := by simpa using hx0
  have HX := hid hx
  clear h hpw hr hx hx0
  go_enter Tryz.func46, Tryz.ntmps46
  go_wp2_with fail
  refine HCH.out.mono ?_
  rintro e w1 ⟨rfl, hD1, hF1⟩
  rw [HX.out]
  generalize (chooseF (D.readOf 0) (D.readOf 1)).1 = S at *
  have HD1 := hid hD1
  have HF1 := hid hF1
  clear hD1 hF1 HCH HX
  go_wp2_with (first
    | (refine wpList_store_row (by rfl) 99 (.tmp 4) (.tmp 11) (by rfl) w1.heap.size (supC S) (by rfl) (by rfl) 99 _ (by exact hnew _ _) (supN S) (supZ S) (supO S) ?_; rw [setRow_alloc]))
  go_ret2
  exact ⟨rfl, HD1.out.below (below_new _ _), HF1.out.tail (F' := F) (below_new _ _)⟩
set_option maxRecDepth 100000 in
set_option maxHeartbeats 1000000 in
theorem Open_ok (w : World) (base : Nat) (F : List Nat) (p : Nat) (D : DS) (h : DA w base F p D) (hpw : D.power = true) (hr : D.reads < 3999999999999999999) (hep : D.epoch < 4000000000000000000) (s : Sup) (hs : chooseF (D.readOf 0) (D.readOf 1) = (s, 0)) (hpg : s.pg = (D.np : Int)) :
    Calls Tryz.prog 46 #[.pointer (some ⟨p, 0, none⟩)] w fun e w' => ∃ g, e = .returned (.tuple #[.pointer (some ⟨g, 0, none⟩), .int .i64 0]) ∧ w.heap.size ≤ g ∧ FK w' g p s s.ma (D.epoch + 1) ∧ DA w' base F p { D with reads := D.reads + 2, epoch := D.epoch + 1 } ∧ Fr F w w' := by
  have HCH := hid (fchoose_any w base F p D h hpw hr)
  have HX := hid hs
  have hpq : Hid ((s.pg != ((({ D with reads := D.reads + 2 } : DS).np : Nat) : Int)) = false) := hid (by rw [show ({ D with reads := D.reads + 2 } : DS).np = D.np from rfl, hpg]; simp)
  clear h hpw hr hs hpg
  go_enter Tryz.func46, Tryz.ntmps46
  go_wp2_with fail
  refine HCH.out.mono ?_
  rintro e w1 ⟨rfl, hD1, hF1⟩
  rw [HX.out]
  have HD1 := hid hD1
  have HF1 := hid hF1
  clear hD1 hF1 HCH HX
  go_wp2_with (first
    | (refine wpList_store_row (by rfl) 99 (.tmp 4) (.tmp 11) (by rfl) w1.heap.size (supC s) (by rfl) (by rfl) 99 _ (by exact hnew _ _) (supN s) (supZ s) (supO s) ?_; rw [setRow_alloc]; have R4 := hid (hnew w1 (.cells (supC s) 99)); have HD2 := hid (HD1.out.below (below_new w1 (.cells (supC s) 99))); have HF2 := hid (HF1.out.tail (F' := F) (below_new w1 (.cells (supC s) 99))); generalize hw2 : w1.alloc (.cells (supC s) 99) = w2 at *; generalize w1.heap.size = G4 at *))
  refine wp_region_noPanic ?_
  refine wp_region_held_drew (S := fun w' => w'.heap[G4]? = some (.cells (supC s) 99 (0, 0))) (by kernel_rfl) R4.out (fun hHeld => ?_)
  refine wpAnyH_take (i := 0) (oi := { dst := some 16, op := Op.fieldAddr 99 (Operand.tmp 4) 4, type := 0, pos := "file.go:30", after := #[], guard := none }) (v := .pointer (some ⟨G4, 4, none⟩)) rfl (by kernel_rfl) (by kernel_rfl) (by kernel_rfl) (fun _ _ _ h => h) (Or.inl ⟨by rfl, by intro w hS; go_simp⟩) hHeld ?_
  try simp only [Act.put, List.setIfInBounds_toArray, List.set_cons_zero, List.set_cons_succ]
  refine wpAnyH_take (i := 2) (oi := { dst := some 18, op := Op.move (Operand.tmp 0), type := 29, pos := "file.go:30", after := #[], guard := none }) (v := .pointer (some ⟨p, 0, none⟩)) rfl (by kernel_rfl) (by kernel_rfl) (by kernel_rfl) (fun _ _ _ h => h) (Or.inl ⟨by rfl, by intro w hS; go_simp⟩) hHeld ?_
  try simp only [Act.put, List.setIfInBounds_toArray, List.set_cons_zero, List.set_cons_succ]
  refine wpAnyH_take (i := 1) (oi := { dst := some 17, op := Op.load 3 (Operand.tmp 16), type := 3, pos := "file.go:30", after := #[{ on := 0, ground := Ground.data }], guard := none }) (v := .int .i64 s.pg) rfl (by kernel_rfl) (by kernel_rfl) (by kernel_rfl) (fun _ _ _ h => h) (Or.inl ⟨by rfl, by intro w hS; have hc := cell_sup4 hS; go_simp⟩) hHeld ?_
  try simp only [Act.put, List.setIfInBounds_toArray, List.set_cons_zero, List.set_cons_succ]
  refine wpAnyH_ready (rs := [3]) (by kernel_rfl) (by simp) ?_
  refine (AllReadyH.cons (o := { dst := some 19, op := Op.call { callee := Callee.value (Operand.func 53), args := #[Operand.tmp 18], argTypes := #[29] }, type := 3, pos := "file.go:30", after := #[{ on := 2, ground := Ground.data }], guard := none }) rfl (fun K hK => ?_) AllReadyH.nil)
  go_simp
  go_at_call 53
  refine (Pages_any _ base F p _ (HD2.out.drew)).mono ?_
  rintro e w4 ⟨rfl, rfl⟩
  go_wp2_with fail
  refine hK.out _ _ (hHeld) (fun hHeld2 => ?_)
  clear hK K hHeld
  have hHeld := hHeld2
  clear hHeld2
  try simp only [Act.put, List.setIfInBounds_toArray, List.set_cons_zero, List.set_cons_succ]
  refine wpAnyH_take (i := 4) (oi := { dst := some 20, op := Op.binOp BinOp.neq 3 (Operand.tmp 17) (Operand.tmp 19) 3, type := 4, pos := "file.go:30", after := #[{ on := 1, ground := Ground.data }, { on := 3, ground := Ground.data }], guard := none }) (v := .bool false) rfl (by kernel_rfl) (by kernel_rfl) (by kernel_rfl) (fun _ _ _ h => h) (Or.inl ⟨by rfl, by intro w hS; (have he2 := hpq.out; go_simp)⟩) hHeld ?_
  try simp only [Act.put, List.setIfInBounds_toArray, List.set_cons_zero, List.set_cons_succ]
  refine wpAnyH_done (by kernel_rfl) ?_ _
  refine NoPanic.normal ?_
  go_wp2
  have R4 := hid hHeld
  have HD3 := hid HD2.out.drew
  have HF3 := hid HF2.out.drew
  have hn4 : G4 ∉ F := HD3.out.not_in R4.out (by decide) (by decide) (by decide)
  clear HD2 HF2 hHeld

  refine wp_region_noPanic ?_
  refine wp_region_held_drew (S := fun w' => w'.heap[G4]? = some (.cells (supC s) 99 (0, 0))) (by kernel_rfl) R4.out (fun hHeld => ?_)
  refine wpAnyH_take (i := 0) (oi := { dst := some 21, op := Op.move (Operand.tmp 0), type := 29, pos := "file.go:33", after := #[], guard := none }) (v := .pointer (some ⟨p, 0, none⟩)) rfl (by kernel_rfl) (by kernel_rfl) (by kernel_rfl) (fun _ _ _ h => h) (Or.inl ⟨by rfl, by intro w hS; go_simp⟩) hHeld ?_
  try simp only [Act.put, List.setIfInBounds_toArray, List.set_cons_zero, List.set_cons_succ]
  refine wpAnyH_take (i := 1) (oi := { dst := some 22, op := Op.load 99 (Operand.tmp 4), type := 99, pos := "file.go:33", after := #[], guard := none }) (v := .agg (supC s)) rfl (by kernel_rfl) (by kernel_rfl) (by kernel_rfl) (fun _ _ _ h => h) (yieldsIf_load_sup (by rfl) (.tmp 4) rfl G4 rfl s (fun w1 hS => hS)) hHeld ?_
  try simp only [Act.put, List.setIfInBounds_toArray, List.set_cons_zero, List.set_cons_succ]
  refine wpAnyH_take (i := 2) (oi := { dst := some 23, op := Op.fieldAddr 99 (Operand.tmp 4) 2, type := 0, pos := "file.go:33", after := #[], guard := none }) (v := .pointer (some ⟨G4, 2, none⟩)) rfl (by kernel_rfl) (by kernel_rfl) (by kernel_rfl) (fun _ _ _ h => h) (Or.inl ⟨by rfl, by intro w hS; go_simp⟩) hHeld ?_
  try simp only [Act.put, List.setIfInBounds_toArray, List.set_cons_zero, List.set_cons_succ]
  refine wpAnyH_take (i := 4) (oi := { dst := some 25, op := Op.move (Operand.tmp 0), type := 29, pos := "file.go:33", after := #[], guard := none }) (v := .pointer (some ⟨p, 0, none⟩)) rfl (by kernel_rfl) (by kernel_rfl) (by kernel_rfl) (fun _ _ _ h => h) (Or.inl ⟨by rfl, by intro w hS; go_simp⟩) hHeld ?_
  try simp only [Act.put, List.setIfInBounds_toArray, List.set_cons_zero, List.set_cons_succ]
  refine wpAnyH_take (i := 3) (oi := { dst := some 24, op := Op.load 3 (Operand.tmp 23), type := 3, pos := "file.go:33", after := #[{ on := 2, ground := Ground.data }], guard := none }) (v := .int .i64 s.ma) rfl (by kernel_rfl) (by kernel_rfl) (by kernel_rfl) (fun _ _ _ h => h) (Or.inl ⟨by rfl, by intro w hS; have hc := cell_sup2 hS; go_simp⟩) hHeld ?_
  try simp only [Act.put, List.setIfInBounds_toArray, List.set_cons_zero, List.set_cons_succ]
  refine wpAnyH_ready (rs := [5]) (by kernel_rfl) (by simp) ?_
  refine (AllReadyH.cons (o := { dst := some 26, op := Op.call { callee := Callee.value (Operand.func 71), args := #[Operand.tmp 25], argTypes := #[29] }, type := 3, pos := "file.go:33", after := #[{ on := 4, ground := Ground.data }], guard := none }) rfl (fun K hK => ?_) AllReadyH.nil)
  go_simp
  go_at_call 71
  refine (Claim_same _ base F p _ (HD3.out.drew) hep).mono ?_
  rintro e w4 ⟨rfl, hD4, hF4⟩
  go_wp2_with fail
  refine hK.out _ _ (hF4.keep hHeld hn4) (fun hHeld2 => ?_)
  clear hK K hHeld
  have hHeld := hHeld2
  clear hHeld2
  try simp only [Act.put, List.setIfInBounds_toArray, List.set_cons_zero, List.set_cons_succ]
  refine wpAnyH_take (i := 6) (oi := { dst := some 27, op := Op.build 133 #[(0, Operand.tmp 21), (1, Operand.tmp 22), (2, Operand.tmp 24), (3, Operand.tmp 26)], type := 133, pos := "file.go:33", after := #[{ on := 0, ground := Ground.data }, { on := 1, ground := Ground.data }, { on := 3, ground := Ground.data }, { on := 5, ground := Ground.data }], guard := none }) (v := .agg (fcells p s s.ma (D.epoch + 1))) rfl (by kernel_rfl) (by kernel_rfl) (by kernel_rfl) (fun _ _ _ h => h) (yields_build_file (by rfl) (.tmp 21) (.tmp 22) (.tmp 24) (.tmp 26) rfl p s s.ma (D.epoch + 1) rfl rfl rfl rfl) hHeld ?_
  try simp only [Act.put, List.setIfInBounds_toArray, List.set_cons_zero, List.set_cons_succ]
  refine wpAnyH_ready (rs := [7]) (by kernel_rfl) (by simp) ?_
  refine (AllReadyH.cons (o := { dst := some 28, op := Op.box 133 (Operand.tmp 27), type := 120, pos := "file.go:33", after := #[{ on := 6, ground := Ground.data }], guard := none }) rfl (fun K hK => ?_) AllReadyH.nil)
  refine step_box_file (by rfl) (.tmp 27) rfl p s s.ma (D.epoch + 1) rfl ?_
  refine hK.out _ _ (hold hHeld) (fun hHeld2 => ?_)
  clear hK K hHeld
  have hHeld := hHeld2
  clear hHeld2
  try simp only [Act.put, List.setIfInBounds_toArray, List.set_cons_zero, List.set_cons_succ]
  refine wpAnyH_take (i := 8) (oi := { dst := some 2, op := Op.assign (Operand.tmp 28), type := 120, pos := "file.go:33", after := #[{ on := 7, ground := Ground.data }, { on := 5, ground := Ground.chain }, { on := 0, ground := Ground.phase }, { on := 1, ground := Ground.phase }, { on := 2, ground := Ground.phase }, { on := 3, ground := Ground.phase }, { on := 4, ground := Ground.phase }, { on := 5, ground := Ground.phase }, { on := 6, ground := Ground.phase }, { on := 7, ground := Ground.phase }], guard := none }) (v := .pointer (some ⟨w4.heap.size, 0, none⟩)) rfl (by kernel_rfl) (by kernel_rfl) (by kernel_rfl) (fun _ _ _ h => h) (Or.inl ⟨by rfl, by intro w hS; go_simp⟩) hHeld ?_
  try simp only [Act.put, List.setIfInBounds_toArray, List.set_cons_zero, List.set_cons_succ]
  refine wpAnyH_take (i := 9) (oi := { dst := some 3, op := Op.assign (Operand.const (Value.int IntKind.i64 0)), type := 30, pos := "file.go:33", after := #[{ on := 8, ground := Ground.chain }, { on := 0, ground := Ground.phase }, { on := 1, ground := Ground.phase }, { on := 2, ground := Ground.phase }, { on := 3, ground := Ground.phase }, { on := 4, ground := Ground.phase }, { on := 5, ground := Ground.phase }, { on := 6, ground := Ground.phase }, { on := 7, ground := Ground.phase }, { on := 8, ground := Ground.phase }], guard := none }) (v := .int IntKind.i64 0) rfl (by kernel_rfl) (by kernel_rfl) (by kernel_rfl) (fun _ _ _ h => h) (Or.inl ⟨by rfl, by intro w hS; go_simp⟩) hHeld ?_
  try simp only [Act.put, List.setIfInBounds_toArray, List.set_cons_zero, List.set_cons_succ]
  refine wpAnyH_done (by kernel_rfl) ?_ _
  refine NoPanic.normal ?_
  go_wp2
  go_ret2
  exact ⟨w4.heap.size, rfl, Nat.le_trans HF3.out.size hF4.size, hnew _ _, hD4.below (below_new _ _), (HF3.out.drew.trans hF4 (Gr.refl _ _)).tail (F' := F) (below_new _ _)⟩

end Go.Proofs.YtjpcegjgandnjaaGreatDoor
namespace Go.Proofs.YtjpcegjgandnjaaGreatDoor
set_option linter.unusedVariables false
set_option linter.unusedSimpArgs false
open Go.RowKit

/-! What a Format leaves. -/
theorem np_img {D D' : DS} (h : D'.img.length = D.img.length) : D'.np = D.np := by unfold DS.np; rw [h]
theorem wr_img (D : DS) (o : OW) : (D.wr o).img = D.img ∧ (D.wr o).ops = D.ops ++ [o] ∧ (D.wr o).epoch = D.epoch ∧ (D.wr o).reads = D.reads ∧ (D.wr o).writes = D.writes + 1 ∧ (D.wr o).syncs = D.syncs := by
  obtain ⟨e1, e2, e3, e4, e5, e6⟩ := acted_same { D.pushed o with writes := D.writes + 1 }
  exact ⟨e1, e2, e3, e4, e5, e6⟩
theorem acted_arm (D : DS) (h : 0 ≤ D.armed) : D.acted.armed = (if D.armed = 0 then 0 else D.armed - 1) ∧ (D.armed ≠ 1 → D.acted.power = D.power) ∧ (D.armed = 1 → D.acted.power = false) := by
  unfold DS.acted
  by_cases c : D.armed = 0
  · rw [if_pos c, if_pos c]; exact ⟨c, fun _ => rfl, fun q => by omega⟩
  · rw [if_neg c, if_neg c]
    by_cases e : D.armed = 1
    · rw [if_pos e]; exact ⟨by show (0 : Int) = _; omega, fun q => absurd e q, fun _ => rfl⟩
    · rw [if_neg e]; exact ⟨rfl, fun _ => rfl, fun q => absurd q e⟩
theorem wr_arm (D : DS) (o : OW) (h : 0 ≤ D.armed) : (D.wr o).armed = (if D.armed = 0 then 0 else D.armed - 1) ∧ (D.armed ≠ 1 → (D.wr o).power = D.power) ∧ (D.armed = 1 → (D.wr o).power = false) := acted_arm { D.pushed o with writes := D.writes + 1 } h
theorem actE_0 {D : DS} (h : D.armed ≠ 1) : D.actE = 0 := by unfold DS.actE; rw [if_neg h]
theorem actE_2 {D : DS} (h : D.armed = 1) : D.actE = 2 := by unfold DS.actE; rw [if_pos h]
theorem sync_np {D : DS} (hok : DsOk D) : D.synced.np = D.np := by
  obtain ⟨h3, h4, hn, hop⟩ := hok.np
  exact np_img (by show (layTo D.img D.ops D.ops.length).length = _; rw [layTo_len hn hop _ (Nat.le_refl _), hn])
theorem sync_arm (D : DS) (h : 0 ≤ D.armed) (h1 : D.armed ≠ 1) : D.synced.armed = (if D.armed = 0 then 0 else D.armed - 1) ∧ D.synced.power = D.power := ⟨(acted_arm D h).1, (acted_arm D h).2.1 h1⟩
/-- The image behind a sync, where one write was open. -/
theorem sync_one {D : DS} (hok : DsOk D) (q : Nat) (d : List Int) (h1 : D.ops = [⟨q, d⟩]) (hq : q < D.np) : pgO D.synced.img q = d ∧ ∀ r, r < D.np → r ≠ q → pgO D.synced.img r = pgO D.img r := by
  have key := fun r hr => sync_read hok r hr
  have e : ∀ r, D.readOf r = if q = r then d else pgO D.img r := fun r => by
    have := readOf_snoc (D := { D with ops := [] }) (D' := D) (o := ⟨q, d⟩) rfl (by rw [h1]; rfl) r
    rw [this, readOf_nil rfl]
  refine ⟨(key q hq).trans (by rw [e, if_pos rfl]), fun r hr hne => (key r hr).trans (by rw [e, if_neg (fun x => hne x.symm)])⟩
/-- What stands behind a whole Format. -/
structure Fm (D' D : DS) (wd : Int) : Prop where
  ok : DsOk D'
  np : D'.np = D.np
  ops : D'.ops = []
  pw : D'.power = true
  arm : D'.armed = (if D.armed = 0 then 0 else D.armed - 4)
  epoch : D'.epoch = D.epoch
  reads : D'.reads = D.reads
  writes : D'.writes = D.writes + 2
  syncs : D'.syncs = D.syncs + 2
  p0 : pgO D'.img 0 = secP (fS D.np wd 0)
  p1 : pgO D'.img 1 = secP (fS D.np wd 1)
  rest : ∀ q, 2 ≤ q → q < D.np → pgO D'.img q = pgO D.img q
/-- Slots behind a Format that power ended. -/
def Half (L0 L1 : List Int) (s0 s1 : Sup) : Prop := Blank L0 L1 ∨ Good s1 s0 L0 L1
theorem blank_torn {L0 L1 T : List Int} (h : Blank L0 L1) (hT : T.length = 192) (s0 : Sup) (hv : validS s0 = true) (hg : s0.ge = 0) (b : Bool) : Blank ((if b then secP s0 else L0).take 64 ++ T) L1 := by
  obtain ⟨Y, Z, hY, hZ, rfl, h0⟩ := h
  refine ⟨T, Z, hT, hZ, rfl, ?_⟩
  cases b with
  | true => exact Or.inr ⟨s0, hv, hg, by show (secP s0).take 64 ++ T = _; rw [secP_take]⟩
  | false =>
    rcases h0 with rfl | ⟨s, hs, hgs, rfl⟩
    · exact Or.inl (by show (zz 64 ++ Y).take 64 ++ T = _; rw [List.take_left' (by simp [zz])])
    · exact Or.inr ⟨s, hs, hgs, by show (secS s ++ Y).take 64 ++ T = _; rw [List.take_left' (secS_len s)]⟩
theorem fS_fol (n : Nat) (wd : Int) : Fol (fS n wd 1) (fS n wd 0) := ⟨rfl, rfl, rfl, Int.le_refl _⟩
theorem fmt_all {D : DS} (hok : DsOk D) (ho : D.ops = []) (hp : D.power = true) (hbud : Bud D 4) (wd : Int) (hw : 1 ≤ wd ∧ wd ≤ 32) (hB : Blank (pgO D.img 0) (pgO D.img 1)) :
    ((D.armed = 0 ∨ 4 < D.armed) → (runS D [.lay (fS D.np wd 0) 0 0, .sync, .lay (fS D.np wd 1) 0 0, .sync]).2 = 0 ∧ Fm (runS D [.lay (fS D.np wd 0) 0 0, .sync, .lay (fS D.np wd 1) 0 0, .sync]).1 D wd) ∧
    ((1 ≤ D.armed ∧ D.armed ≤ 4) → (runS D [.lay (fS D.np wd 0) 0 0, .sync, .lay (fS D.np wd 1) 0 0, .sync]).2 = 2 ∧ DsOk (runS D [.lay (fS D.np wd 0) 0 0, .sync, .lay (fS D.np wd 1) 0 0, .sync]).1 ∧ (runS D [.lay (fS D.np wd 0) 0 0, .sync, .lay (fS D.np wd 1) 0 0, .sync]).1.np = D.np ∧ (runS D [.lay (fS D.np wd 0) 0 0, .sync, .lay (fS D.np wd 1) 0 0, .sync]).1.epoch = D.epoch ∧ (runS D [.lay (fS D.np wd 0) 0 0, .sync, .lay (fS D.np wd 1) 0 0, .sync]).1.reads = D.reads ∧ (runS D [.lay (fS D.np wd 0) 0 0, .sync, .lay (fS D.np wd 1) 0 0, .sync]).1.writes ≤ D.writes + 2 ∧ (runS D [.lay (fS D.np wd 0) 0 0, .sync, .lay (fS D.np wd 1) 0 0, .sync]).1.syncs ≤ D.syncs + 2 ∧
      ∀ fs : List Int, Half (pgO ((runS D [.lay (fS D.np wd 0) 0 0, .sync, .lay (fS D.np wd 1) 0 0, .sync]).1.crashed fs).img 0) (pgO ((runS D [.lay (fS D.np wd 0) 0 0, .sync, .lay (fS D.np wd 1) 0 0, .sync]).1.crashed fs).img 1) (fS D.np wd 0) (fS D.np wd 1)) := by
  obtain ⟨h3, h4, hn, _⟩ := hok.np
  have hv0 : validS (fS D.np wd 0) = true := fS_valid h3 h4 hw ⟨by omega, by omega⟩
  have hv1 : validS (fS D.np wd 1) = true := fS_valid h3 h4 hw ⟨by omega, by omega⟩
  have ha := hok.armed.1
  obtain ⟨n, hnn⟩ : ∃ n, n = D.np := ⟨_, rfl⟩
  rw [← hnn] at hv0 hv1 h3 h4 ⊢
  -- the first write
  obtain ⟨D1, hD1⟩ : ∃ D1, D1 = D.wr ⟨0, secP (fS n wd 0)⟩ := ⟨_, rfl⟩
  have e1 := wr_img D ⟨0, secP (fS n wd 0)⟩
  have a1 := wr_arm D ⟨0, secP (fS n wd 0)⟩ ha
  have ok1 := wr_ok hok (o := ⟨0, secP (fS n wd 0)⟩) ⟨by show 0 < D.np; omega, secP_len _, secP_byts hv0⟩ (by have := hbud.ops; omega) (by have := hbud.writes; omega)
  rw [← hD1] at e1 a1 ok1
  rw [ho, List.nil_append] at e1
  have np1 : D1.np = n := (np_img (by rw [e1.1])).trans hnn.symm
  have st1 : St.go (.lay (fS n wd 0) 0 0) D = (D1, D.actE) := by rw [hD1]; rfl
  -- the first sync
  obtain ⟨D2, hD2⟩ : ∃ D2, D2 = D1.synced := ⟨_, rfl⟩
  have ok2 := synced_ok ok1 (by rw [e1.2.2.2.2.2]; have := hbud.syncs; omega)
  have np2 := (sync_np ok1).trans np1
  have p2 := sync_one ok1 0 _ e1.2.1 (by omega)
  rw [← hD2] at ok2 np2 p2
  have s2 : D2.ops = [] ∧ D2.epoch = D.epoch ∧ D2.reads = D.reads ∧ D2.writes = D.writes + 1 ∧ D2.syncs = D.syncs + 1 := by
    obtain ⟨c1, c2, c3, c4, c5, c6⟩ := acted_same D1
    rw [hD2]
    exact ⟨rfl, c3.trans e1.2.2.1, c4.trans e1.2.2.2.1, c5.trans e1.2.2.2.2.1, by show D1.syncs + 1 = _; rw [e1.2.2.2.2.2]⟩
  -- the second write
  obtain ⟨D3, hD3⟩ : ∃ D3, D3 = D2.wr ⟨1, secP (fS n wd 1)⟩ := ⟨_, rfl⟩
  have e3 := wr_img D2 ⟨1, secP (fS n wd 1)⟩
  have ok3 := wr_ok ok2 (o := ⟨1, secP (fS n wd 1)⟩) ⟨by show 1 < D2.np; omega, secP_len _, secP_byts hv1⟩ (by rw [s2.1]; decide) (by rw [s2.2.2.2.1]; have := hbud.writes; omega)
  rw [← hD3] at e3 ok3
  rw [s2.1, List.nil_append] at e3
  have np3 : D3.np = n := (np_img (by rw [e3.1])).trans np2
  have st3 : St.go (.lay (fS n wd 1) 0 0) D2 = (D3, D2.actE) := by rw [hD3]; rfl
  -- the second sync
  obtain ⟨D4, hD4⟩ : ∃ D4, D4 = D3.synced := ⟨_, rfl⟩
  have ok4 := synced_ok ok3 (by rw [e3.2.2.2.2.2, s2.2.2.2.2]; have := hbud.syncs; omega)
  have np4 := (sync_np ok3).trans np3
  have p4 := sync_one ok3 1 _ e3.2.1 (by omega)
  rw [← hD4] at ok4 np4 p4
  have hsy : ∀ X : DS, X.armed ≠ 1 → St.go .sync X = (X.synced, 0) := fun X hX => by show sy X = _; unfold sy; rw [if_neg hX]
  have hsz : ∀ X : DS, X.armed = 1 → St.go .sync X = (X.acted, 2) := fun X hX => by show sy X = _; unfold sy; rw [if_pos hX]
  have p0img : pgO D3.img 0 = secP (fS n wd 0) := by rw [e3.1]; exact p2.1
  have p1img : pgO D3.img 1 = pgO D.img 1 := by rw [e3.1, p2.2 1 (by omega) (by omega), e1.1]
  have first : ∀ X : DS, DsOk X → X.img = D.img → X.ops = [⟨0, secP (fS n wd 0)⟩] → ∀ fs, Half (pgO (X.crashed fs).img 0) (pgO (X.crashed fs).img 1) (fS n wd 0) (fS n wd 1) := by
    intro X hX hi hx fs
    have npX : X.np = n := (np_img (by rw [hi])).trans hnn.symm
    obtain ⟨b, T, hT, hT8, hE⟩ := crash_one hX fs 0 (by omega) _ hx
    have h1 := crash_page hX fs 1 (by omega) (fun o ho => by rw [hx, List.mem_singleton] at ho; rw [ho]; exact (by decide : (0 : Nat) ≠ 1))
    left
    show Blank (pgO (crashTo X.img X.ops fs X.ops.length) 0) (pgO (crashTo X.img X.ops fs X.ops.length) 1)
    rw [hE, h1, hi]
    exact blank_torn hB hT _ hv0 rfl b
  have second : ∀ X : DS, DsOk X → X.img = D3.img → X.ops = [⟨1, secP (fS n wd 1)⟩] → ∀ fs, Half (pgO (X.crashed fs).img 0) (pgO (X.crashed fs).img 1) (fS n wd 0) (fS n wd 1) := by
    intro X hX hi hx fs
    have npX : X.np = n := (np_img (by rw [hi])).trans np3
    obtain ⟨b, T, hT, hT8, hE⟩ := crash_one hX fs 1 (by omega) _ hx
    have h0 := crash_page hX fs 0 (by omega) (fun o ho => by rw [hx, List.mem_singleton] at ho; rw [ho]; exact (by decide : (1 : Nat) ≠ 0))
    show Half (pgO (crashTo X.img X.ops fs X.ops.length) 0) (pgO (crashTo X.img X.ops fs X.ops.length) 1) _ _
    rw [hE, h0, hi, p0img, p1img]
    cases b with
    | true =>
      right
      show Good _ _ _ ((secP (fS n wd 1)).take 64 ++ T)
      rw [secP_take]
      exact Good.first hv0 hv1 (fS_fol n wd) rfl List.length_replicate hT (rep_byts _) hT8
    | false =>
      left
      obtain ⟨Y, Z, hY, hZ, h1, _⟩ := hB
      refine ⟨List.replicate 192 0, T, List.length_replicate, hT, ?_, Or.inr ⟨_, hv0, rfl, rfl⟩⟩
      show (pgO D.img 1).take 64 ++ T = _
      rw [h1, List.take_left' (by simp [zz])]
  have arm1 := a1.1
  have r0 : runS D [.lay (fS n wd 0) 0 0, .sync, .lay (fS n wd 1) 0 0, .sync] = if D.actE = 0 then runS D1 [.sync, .lay (fS n wd 1) 0 0, .sync] else (D1, D.actE) := by
    rw [runS, st1]
  by_cases k1 : D.armed = 1
  · have hr : runS D [.lay (fS n wd 0) 0 0, .sync, .lay (fS n wd 1) 0 0, .sync] = (D1, 2) := by rw [r0, actE_2 k1]; rfl
    rw [hr]
    exact ⟨fun q => by omega, fun _ => ⟨rfl, ok1, np1, e1.2.2.1, e1.2.2.2.1, by show D1.writes ≤ _; omega, by show D1.syncs ≤ _; omega, first D1 ok1 e1.1 e1.2.1⟩⟩
  rw [actE_0 k1, if_pos rfl] at r0
  by_cases k2 : D.armed = 2
  · have b1 : D1.armed = 1 := by rw [arm1, if_neg (by omega)]; omega
    have hr : runS D [.lay (fS n wd 0) 0 0, .sync, .lay (fS n wd 1) 0 0, .sync] = (D1.acted, 2) := by rw [r0, runS, hsz D1 b1]; rfl
    rw [hr]
    obtain ⟨c1, c2, c3, c4, c5, c6⟩ := acted_same D1
    exact ⟨fun q => by omega, fun _ => ⟨rfl, acted_ok ok1, (np_img (by rw [c1])).trans np1, c3.trans e1.2.2.1, c4.trans e1.2.2.2.1, by show D1.acted.writes ≤ _; omega, by show D1.acted.syncs ≤ _; omega, first D1.acted (acted_ok ok1) (c1.trans e1.1) (c2.trans e1.2.1)⟩⟩
  have b1 : D1.armed ≠ 1 := by rw [arm1]; split <;> omega
  have n1 : 0 ≤ D1.armed := ok1.armed.1
  have arm2 : D2.armed = (if D1.armed = 0 then 0 else D1.armed - 1) := by rw [hD2]; exact (sync_arm D1 n1 b1).1
  have r1 : runS D [.lay (fS n wd 0) 0 0, .sync, .lay (fS n wd 1) 0 0, .sync] = runS D2 [.lay (fS n wd 1) 0 0, .sync] := by rw [r0, runS, hsy D1 b1, if_pos rfl, hD2]
  have n2 : 0 ≤ D2.armed := ok2.armed.1
  by_cases k3 : D.armed = 3
  · have b2 : D2.armed = 1 := by rw [arm2, arm1, if_neg (by omega), if_neg (by omega)]; omega
    have hr : runS D [.lay (fS n wd 0) 0 0, .sync, .lay (fS n wd 1) 0 0, .sync] = (D3, 2) := by rw [r1, runS, st3, actE_2 b2]; rfl
    rw [hr]
    exact ⟨fun q => by omega, fun _ => ⟨rfl, ok3, np3, e3.2.2.1.trans s2.2.1, e3.2.2.2.1.trans s2.2.2.1, by show D3.writes ≤ _; omega, by show D3.syncs ≤ _; omega, second D3 ok3 rfl e3.2.1⟩⟩
  have b2 : D2.armed ≠ 1 := by rw [arm2, arm1]; split <;> split at * <;> omega
  have arm3 : D3.armed = (if D2.armed = 0 then 0 else D2.armed - 1) := by rw [hD3]; exact (wr_arm D2 _ n2).1
  have r2 : runS D [.lay (fS n wd 0) 0 0, .sync, .lay (fS n wd 1) 0 0, .sync] = runS D3 [.sync] := by rw [r1, runS, st3, actE_0 b2, if_pos rfl]
  have n3 : 0 ≤ D3.armed := ok3.armed.1
  have hpw3 : D3.power = true := by
    rw [hD3, (wr_arm D2 _ n2).2.1 b2, hD2, (sync_arm D1 n1 b1).2, a1.2.1 k1, hp]
  by_cases k4 : D.armed = 4
  · have b3 : D3.armed = 1 := by rw [arm3, arm2, arm1, if_neg (by omega), if_neg (by omega), if_neg (by omega)]; omega
    have hr : runS D [.lay (fS n wd 0) 0 0, .sync, .lay (fS n wd 1) 0 0, .sync] = (D3.acted, 2) := by rw [r2, runS, hsz D3 b3]; rfl
    rw [hr]
    obtain ⟨c1, c2, c3, c4, c5, c6⟩ := acted_same D3
    exact ⟨fun q => by omega, fun _ => ⟨rfl, acted_ok ok3, (np_img (by rw [c1])).trans np3, c3.trans (e3.2.2.1.trans s2.2.1), c4.trans (e3.2.2.2.1.trans s2.2.2.1), by show D3.acted.writes ≤ _; omega, by show D3.acted.syncs ≤ _; omega, second D3.acted (acted_ok ok3) c1 (c2.trans e3.2.1)⟩⟩
  have b3 : D3.armed ≠ 1 := by rw [arm3, arm2, arm1]; split <;> (try split at *) <;> (try split at *) <;> omega
  have hr : runS D [.lay (fS n wd 0) 0 0, .sync, .lay (fS n wd 1) 0 0, .sync] = (D4, 0) := by rw [r2, runS, hsy D3 b3, if_pos rfl, hD4]; rfl
  rw [hr]
  obtain ⟨c1, c2, c3, c4, c5, c6⟩ := acted_same D3
  refine ⟨fun q => ⟨rfl, ⟨ok4, np4.trans hnn, by rw [hD4]; rfl, by rw [hD4]; exact (sync_arm D3 n3 b3).2.trans hpw3, ?_, by rw [hD4]; exact c3.trans (e3.2.2.1.trans s2.2.1), by rw [hD4]; exact c4.trans (e3.2.2.2.1.trans s2.2.2.1), ?_, ?_, ?_, ?_, ?_⟩⟩, fun q => by omega⟩
  · show D4.armed = _
    rw [hD4, (sync_arm D3 n3 b3).1, arm3, arm2, arm1]
    rcases q with q | q
    · simp [q]
    · rw [if_neg (by omega), if_neg (by omega), if_neg (by omega), if_neg (by omega), if_neg (by omega)]; omega
  · show D4.writes = _
    rw [hD4]; show D3.acted.writes = _; omega
  · show D4.syncs = _
    rw [hD4]; show D3.syncs + 1 = _; omega
  · show pgO D4.img 0 = _
    rw [p4.2 0 (by omega) (by omega), p0img, hnn]
  · show pgO D4.img 1 = _
    rw [p4.1, hnn]
  · intro r hr2 hrn
    show pgO D4.img r = _
    rw [p4.2 r (by omega) (by omega), e3.1, p2.2 r (by omega) (by omega), e1.1]
end Go.Proofs.YtjpcegjgandnjaaGreatDoor
