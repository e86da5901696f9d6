import Derived.Test.YtaefjlbonflmdaaDoorG9
namespace Go.Proofs.YtaefjlbonflmdaaDoor
set_option linter.unusedVariables false
set_option linter.unusedSimpArgs false
open Go.RowKit
attribute [local go_sem ↓] Go.wp_at_zero Go.wp_at_succ

/-! What a file's calls do. -/
/-- What a call leaves of the file and its disk. -/
def NxF (base : Nat) (F : List Nat) (p g : Nat) (w : World) (D' : DS) (s : Sup) (nx ep : Int) (w' : World) : Prop := ∃ F', DA w' base F' p D' ∧ FK w' g p s nx ep ∧ Fr (g :: F) w w' ∧ Gr w F F'
theorem FK.drew {w : World} {g p : Nat} {s : Sup} {nx ep : Int} (h : FK w g p s nx ep) : FK w.drew g p s nx ep := h
theorem Fr.wide {F : List Nat} {w w1 : World} (h : Fr F w w1) (g : Nat) : Fr (g :: F) w w1 := ⟨h.os, h.tape, h.output, h.size, fun k hk hn => h.block k hk (fun e => hn (List.mem_cons_of_mem _ e))⟩
theorem FK.c0 {w : World} {g p : Nat} {s : Sup} {nx ep : Int} (h : FK w g p s nx ep) : w.cell? ⟨g, 0, none⟩ = some (.pointer (some ⟨p, 0, none⟩)) := h.cell 0
theorem FK.c6 {w : World} {g p : Nat} {s : Sup} {nx ep : Int} (h : FK w g p s nx ep) : w.cell? ⟨g, 6, none⟩ = some (.int .i64 nx) := h.cell 6
theorem FK.set {w : World} {g p : Nat} {s : Sup} {nx ep : Int} (h : FK w g p s nx ep) (x : Int) : FK (w.setCell ⟨g, 6, none⟩ (.int .i64 x)) g p s x ep := by
  unfold FK
  rw [heap_setCell_same _ _ _ _ _ _ h]; rfl
theorem FK.fz {w : World} {g p : Nat} {s : Sup} {nx ep : Int} (h : FK w g p s nx ep) (j : Nat) : w.frozen? ⟨g, j, none⟩ = false := frozen_of_row _ _ _ _ _ h
theorem DA.setCellN {w : World} {base : Nat} {F : List Nat} {p : Nat} {D : DS} (h : DA w base F p D) {g : Nat} (hg : g ∉ F) (j : Nat) (v : Value) : DA (w.setCell ⟨g, j, none⟩ v) base F p D :=
  h.of_heap fun k hk => heap_setCell_other w ⟨g, j, none⟩ k v (fun e => hg (by rw [← show k = g from e]; exact hk))
theorem Fr.setG {F : List Nat} {w w1 : World} {g : Nat} (h : Fr (g :: F) w w1) (j : Nat) (v : Value) : Fr (g :: F) w (w1.setCell ⟨g, j, none⟩ v) := h.setCell (List.mem_cons_self) j v
theorem live_0 {D : DS} {ep : Int} (h : liveF D ep = 0) : D.epoch = ep ∧ D.power = true := by
  unfold liveF at h
  split at h
  · exact absurd h (by decide)
  · rename_i c
    split at h
    · rename_i d; exact ⟨Classical.not_not.1 c, d⟩
    · exact absurd h (by decide)
set_option maxHeartbeats 400000 in
theorem has_any (w : World) (g p : Nat) (s : Sup) (nx ep : Int) (hf : FK w g p s nx ep) (q : Int) :
    Calls Tryd.prog 64 #[.pointer (some ⟨g, 0, none⟩), .int .i64 q] w fun e w' => e = .returned (.bool (decide (2 ≤ q ∧ q < nx))) ∧ w = w' := by
  have c6 : w.cell? ⟨g, 6, none⟩ = some (.int .i64 nx) := hf.cell 6
  clear hf
  by_cases h2 : 2 ≤ q
  · have HE := hid (show decide (2 ≤ q ∧ q < nx) = decide (q < nx) by simp [h2])
    go_enter Tryd.func64, Tryd.ntmps64
    go_wp2
    go_ret
    exact ⟨by rw [HE.out]; rfl, rfl⟩
  · go_enter Tryd.func64, Tryd.ntmps64
    go_wp2
    go_ret
    refine ⟨?_, rfl⟩
    rw [show decide (2 ≤ q) = false from decide_eq_false (by omega)]
    rfl
set_option maxHeartbeats 400000 in
theorem Forget_any (w : World) (base : Nat) (F : List Nat) (p : Nat) (D : DS) (h : DA w base F p D) (g : Nat) (s : Sup) (nx ep : Int) (hf : FK w g p s nx ep) :
    Calls Tryd.prog 41 #[.pointer (some ⟨g, 0, none⟩)] w fun e w' => e = .returned (.tuple #[]) ∧ DA w' base F p D ∧ FK w' g p s s.ma ep ∧ Fr (g :: F) w w' := by
  have c3 : w.cell? ⟨g, 3, none⟩ = some (.int .i64 s.ma) := hf.cell 3
  have c6 : w.cell? ⟨g, 6, none⟩ = some (.int .i64 nx) := hf.cell 6
  have f6 := hf.fz 6
  have HD := hid (h.setCellN (hf.not h) 6 (.int .i64 s.ma))
  have HF := hid (hf.set s.ma)
  clear h hf
  go_enter Tryd.func41, Tryd.ntmps41
  go_wp2
  go_end0
  exact ⟨rfl, HD.out, HF.out, ((Fr.refl F w).wide g).setG 6 _⟩
set_option maxRecDepth 100000 in
set_option maxHeartbeats 1000000 in
theorem Append_in (w : World) (base : Nat) (F : List Nat) (p : Nat) (D : DS) (h : DA w base F p D) (hbw : base ≤ w.heap.size) (g : Nat) (s : Sup) (ep : Int) (q : Nat) (hf : FK w g p s q ep) (hlv : liveF D ep = 0) (hq : 2 ≤ q ∧ q < D.np) (kd : Int) (hk : kindOk kd = true) (l : List Int) (h8 : Byts l) (hl : l.length ≤ 246) (sp : Option Addr) (cap : Nat) (hS : Src w sp cap l) (hops : D.ops.length < 400000000000) (hwr : D.writes < 4000000000000000000) :
    Calls Tryd.prog 50 #[.pointer (some ⟨g, 0, none⟩), .int .i64 kd, .slice sp l.length cap] w fun e w' => (D.armed ≠ 1 → e = .returned (.tuple #[.int .i64 q, .int .i64 0]) ∧ NxF base F p g w (D.wr ⟨q, pageP kd q l⟩) s (q + 1 : Nat) ep w') ∧ (D.armed = 1 → e = .returned (.tuple #[.int .i64 0, .int .i64 2]) ∧ NxF base F p g w (D.wr ⟨q, pageP kd q l⟩) s q ep w') := by
  have hnp := h.ok.np
  have hpw := (live_0 hlv).2
  obtain ⟨k1, k3⟩ := (kindOk_iff kd).1 hk
  have hpl : placeOk (q : Int) = true := (placeOk_iff _).2 ⟨by omega, by omega⟩
  have HL := hid (Live_any w base F p D h g s q ep hf)
  rw [hlv] at HL
  have HD := hid h
  have HF := hid hf
  have HS := hid hS
  have hll : (l.length : Int) ≤ 246 := by omega
  have hqn : ((q : Int) == (D.np : Int)) = false := by simp; omega
  have iq : (q : Int) < 4096 := by omega
  have HPK := hid (fun (w1 : World) (hS : Src w1 sp cap l) => pack_ok w1 kd q l h8 hk hpl hl sp cap hS)
  have HQN := hid hq
  have HP8 := hid (pageP_byts kd q l ⟨by omega, by omega⟩ hl h8)
  have HPL := hid (pageP_len kd q l hl)
  clear h hf hS hnp hl h8 hk hpl hlv hq
  go_enter Tryd.func50, Tryd.ntmps50
  go_wp2_with fail
  refine HL.out.mono ?_
  rintro e w1 ⟨rfl, hb1⟩
  have HB1 := hid hb1
  have HD1 := hid (HD.out.below hb1)
  have HK1 := hid (HF.out.below hb1)
  have hgl1 : g < w1.heap.size := hlt_ HK1.out
  have c0 := hid (show w1.cell? ⟨g, 0, none⟩ = some (.pointer (some ⟨p, 0, none⟩)) from HK1.out.cell 0)
  have c6 := hid (show w1.cell? ⟨g, 6, none⟩ = some (.int .i64 (q : Int)) from HK1.out.cell 6)
  clear hb1 HL
  go_wp2
  refine wp_region_noPanic ?_
  refine wp_region_held_drew (S := fun w' => Below w1.heap.size w1 w') (by kernel_rfl) (Below.refl _ _).drew (fun hHeld => ?_)
  refine wpAnyH_take (i := 0) (oi := { dst := some 26, op := Op.move (Operand.tmp 0), type := 49, pos := "file.go:80", after := #[], guard := none }) (v := .pointer (some ⟨g, 0, none⟩)) rfl (by kernel_rfl) (by kernel_rfl) (by kernel_rfl) (fun _ _ _ h => h) (Or.inl ⟨by rfl, by intro w hS; go_simp⟩) hHeld ?_
  try simp only [Act.put, List.setIfInBounds_toArray, List.set_cons_zero, List.set_cons_succ]
  refine wpAnyH_take (i := 4) (oi := { dst := some 30, op := Op.move (Operand.tmp 0), type := 49, pos := "file.go:80", after := #[], guard := none }) (v := .pointer (some ⟨g, 0, none⟩)) rfl (by kernel_rfl) (by kernel_rfl) (by kernel_rfl) (fun _ _ _ h => h) (Or.inl ⟨by rfl, by intro w hS; go_simp⟩) hHeld ?_
  try simp only [Act.put, List.setIfInBounds_toArray, List.set_cons_zero, List.set_cons_succ]
  refine wpAnyH_take (i := 1) (oi := { dst := some 27, op := Op.nilCheck (Operand.tmp 26), type := 0, pos := "file.go:80", after := #[{ on := 0, ground := Ground.data }], guard := none }) (v := .pointer (some ⟨g, 0, none⟩)) rfl (by kernel_rfl) (by kernel_rfl) (by kernel_rfl) (fun _ _ _ h => h) (Or.inl ⟨by rfl, by intro w hS; go_simp⟩) hHeld ?_
  try simp only [Act.put, List.setIfInBounds_toArray, List.set_cons_zero, List.set_cons_succ]
  refine wpAnyH_take (i := 5) (oi := { dst := some 31, op := Op.nilCheck (Operand.tmp 30), type := 0, pos := "file.go:80", after := #[{ on := 4, ground := Ground.data }], guard := none }) (v := .pointer (some ⟨g, 0, none⟩)) rfl (by kernel_rfl) (by kernel_rfl) (by kernel_rfl) (fun _ _ _ h => h) (Or.inl ⟨by rfl, by intro w hS; go_simp⟩) hHeld ?_
  try simp only [Act.put, List.setIfInBounds_toArray, List.set_cons_zero, List.set_cons_succ]
  refine wpAnyH_take (i := 2) (oi := { dst := some 28, op := Op.fieldAddr 86 (Operand.tmp 27) 2, type := 0, pos := "file.go:80", after := #[{ on := 1, ground := Ground.data }], guard := none }) (v := .pointer (some ⟨g, 6, none⟩)) rfl (by kernel_rfl) (by kernel_rfl) (by kernel_rfl) (fun _ _ _ h => h) (Or.inl ⟨by rfl, by intro w hS; go_simp⟩) hHeld ?_
  try simp only [Act.put, List.setIfInBounds_toArray, List.set_cons_zero, List.set_cons_succ]
  refine wpAnyH_take (i := 6) (oi := { dst := some 32, op := Op.fieldAddr 86 (Operand.tmp 31) 0, type := 0, pos := "file.go:80", after := #[{ on := 5, ground := Ground.data }], guard := none }) (v := .pointer (some ⟨g, 0, none⟩)) rfl (by kernel_rfl) (by kernel_rfl) (by kernel_rfl) (fun _ _ _ h => h) (Or.inl ⟨by rfl, by intro w hS; go_simp⟩) hHeld ?_
  try simp only [Act.put, List.setIfInBounds_toArray, List.set_cons_zero, List.set_cons_succ]
  refine wpAnyH_take (i := 3) (oi := { dst := some 29, op := Op.load 3 (Operand.tmp 28), type := 3, pos := "file.go:80", after := #[{ on := 2, ground := Ground.data }], guard := none }) (v := .int .i64 (q : Int)) rfl (by kernel_rfl) (by kernel_rfl) (by kernel_rfl) (fun _ _ _ h => h) (Or.inl ⟨by rfl, by intro w hS; have hc := (hS.cell (p := ⟨g, 6, none⟩) hgl1).trans c6.out; go_simp⟩) hHeld ?_
  try simp only [Act.put, List.setIfInBounds_toArray, List.set_cons_zero, List.set_cons_succ]
  refine wpAnyH_take (i := 7) (oi := { dst := some 33, op := Op.load 24 (Operand.tmp 32), type := 24, pos := "file.go:80", after := #[{ on := 6, ground := Ground.data }], guard := none }) (v := .pointer (some ⟨p, 0, none⟩)) rfl (by kernel_rfl) (by kernel_rfl) (by kernel_rfl) (fun _ _ _ h => h) (Or.inl ⟨by rfl, by intro w hS; have hc := (hS.cell (p := ⟨g, 0, none⟩) hgl1).trans c0.out; go_simp⟩) hHeld ?_
  try simp only [Act.put, List.setIfInBounds_toArray, List.set_cons_zero, List.set_cons_succ]
  refine wpAnyH_ready (rs := [8]) (by kernel_rfl) (by simp) ?_
  refine (AllReadyH.cons (o := { dst := some 34, op := Op.call { callee := Callee.value (Operand.func 35), args := #[Operand.tmp 33], argTypes := #[24] }, type := 3, pos := "file.go:80", after := #[{ on := 7, ground := Ground.data }], guard := none }) rfl (fun K hK => ?_) AllReadyH.nil)
  go_simp
  go_at_call 35
  refine (Pages_any _ base F p D (HD1.out.below hHeld)).mono ?_
  rintro e w4 ⟨rfl, rfl⟩
  go_wp2_with fail
  refine hK.out _ _ (hHeld) (fun hHeld2 => ?_)
  clear hK K hHeld
  have hHeld := hHeld2
  clear hHeld2
  try simp only [Act.put, List.setIfInBounds_toArray, List.set_cons_zero, List.set_cons_succ]
  refine wpAnyH_take (i := 9) (oi := { dst := some 35, op := Op.binOp BinOp.eql 3 (Operand.tmp 29) (Operand.tmp 34) 3, type := 4, pos := "file.go:80", after := #[{ on := 3, ground := Ground.data }, { on := 8, ground := Ground.data }], guard := none }) (v := .bool false) rfl (by kernel_rfl) (by kernel_rfl) (by kernel_rfl) (fun _ _ _ h => h) (Or.inl ⟨by rfl, by intro w hS; (have he2 := hqn; go_simp)⟩) hHeld ?_
  try simp only [Act.put, List.setIfInBounds_toArray, List.set_cons_zero, List.set_cons_succ]
  refine wpAnyH_done (by kernel_rfl) ?_ _
  refine NoPanic.normal ?_
  have c62 : w1.drew.cell? ⟨g, 6, none⟩ = some (.int .i64 (q : Int)) := (hHeld.cell (p := ⟨g, 6, none⟩) hgl1).trans c6.out
  have hpk := HPK.out w1.drew ((HS.out.below HB1.out (Nat.le_refl _)).below hHeld (Nat.le_refl _))
  have HH := hid hHeld
  clear hHeld
  go_wp2_with fail
  refine hpk.mono ?_
  rintro e w2 ⟨gp, rfl, hgp, hrp, hb2⟩
  have hb12 : Below w1.heap.size w1 w2 := HH.out.trans (hb2.mono HH.out.size)
  have HB2 := hid (HB1.out.trans (hb12.mono HB1.out.size))
  have HD2 := hid (HD1.out.below hb12)
  have HK2 := hid (HK1.out.below hb12)
  have HWR := hid (Write_any w2.drew base F p D HD2.out.drew (Nat.le_trans hbw HB2.out.size) hpw q HQN.out.2 (pageP kd q l) HPL.out HP8.out (some ⟨gp, 0, none⟩) 256 (src_row (tl := []) (by rw [List.append_nil]; exact hrp) 256 (by rw [HPL.out]; omega) (by simp [maxLen])) hops hwr)
  clear hpk c62 hgp hrp hb2 hb12 HH HPK HP8 HPL c0 c6 HD1 HK1 HB1 HS
  go_wp2
  refine wp_region_noPanic ?_
  refine wp_region_held_drew (S := fun w' => FK w' g p s q ep) (by kernel_rfl) HK2.out.drew (fun hHeld => ?_)
  refine wpAnyH_take (i := 0) (oi := { dst := some 49, op := Op.move (Operand.tmp 0), type := 49, pos := "file.go:87", after := #[], guard := none }) (v := .pointer (some ⟨g, 0, none⟩)) rfl (by kernel_rfl) (by kernel_rfl) (by kernel_rfl) (fun _ _ _ h => h) (Or.inl ⟨by rfl, by intro w hS; go_simp⟩) hHeld ?_
  try simp only [Act.put, List.setIfInBounds_toArray, List.set_cons_zero, List.set_cons_succ]
  refine wpAnyH_take (i := 4) (oi := { dst := some 53, op := Op.move (Operand.tmp 0), type := 49, pos := "file.go:87", after := #[], guard := none }) (v := .pointer (some ⟨g, 0, none⟩)) rfl (by kernel_rfl) (by kernel_rfl) (by kernel_rfl) (fun _ _ _ h => h) (Or.inl ⟨by rfl, by intro w hS; go_simp⟩) hHeld ?_
  try simp only [Act.put, List.setIfInBounds_toArray, List.set_cons_zero, List.set_cons_succ]
  refine wpAnyH_take (i := 8) (oi := { dst := some 57, op := Op.move (Operand.tmp 9), type := 29, pos := "file.go:87", after := #[], guard := none }) (v := .slice (some ⟨gp, 0, none⟩) 256 256) rfl (by kernel_rfl) (by kernel_rfl) (by kernel_rfl) (fun _ _ _ h => h) (Or.inl ⟨by rfl, by intro w hS; go_simp⟩) hHeld ?_
  try simp only [Act.put, List.setIfInBounds_toArray, List.set_cons_zero, List.set_cons_succ]
  refine wpAnyH_take (i := 1) (oi := { dst := some 50, op := Op.nilCheck (Operand.tmp 49), type := 0, pos := "file.go:87", after := #[{ on := 0, ground := Ground.data }], guard := none }) (v := .pointer (some ⟨g, 0, none⟩)) rfl (by kernel_rfl) (by kernel_rfl) (by kernel_rfl) (fun _ _ _ h => h) (Or.inl ⟨by rfl, by intro w hS; go_simp⟩) hHeld ?_
  try simp only [Act.put, List.setIfInBounds_toArray, List.set_cons_zero, List.set_cons_succ]
  refine wpAnyH_take (i := 5) (oi := { dst := some 54, op := Op.nilCheck (Operand.tmp 53), type := 0, pos := "file.go:87", after := #[{ on := 4, ground := Ground.data }], guard := none }) (v := .pointer (some ⟨g, 0, none⟩)) rfl (by kernel_rfl) (by kernel_rfl) (by kernel_rfl) (fun _ _ _ h => h) (Or.inl ⟨by rfl, by intro w hS; go_simp⟩) hHeld ?_
  try simp only [Act.put, List.setIfInBounds_toArray, List.set_cons_zero, List.set_cons_succ]
  refine wpAnyH_take (i := 2) (oi := { dst := some 51, op := Op.fieldAddr 86 (Operand.tmp 50) 0, type := 0, pos := "file.go:87", after := #[{ on := 1, ground := Ground.data }], guard := none }) (v := .pointer (some ⟨g, 0, none⟩)) rfl (by kernel_rfl) (by kernel_rfl) (by kernel_rfl) (fun _ _ _ h => h) (Or.inl ⟨by rfl, by intro w hS; go_simp⟩) hHeld ?_
  try simp only [Act.put, List.setIfInBounds_toArray, List.set_cons_zero, List.set_cons_succ]
  refine wpAnyH_take (i := 6) (oi := { dst := some 55, op := Op.fieldAddr 86 (Operand.tmp 54) 2, type := 0, pos := "file.go:87", after := #[{ on := 5, ground := Ground.data }], guard := none }) (v := .pointer (some ⟨g, 6, none⟩)) rfl (by kernel_rfl) (by kernel_rfl) (by kernel_rfl) (fun _ _ _ h => h) (Or.inl ⟨by rfl, by intro w hS; go_simp⟩) hHeld ?_
  try simp only [Act.put, List.setIfInBounds_toArray, List.set_cons_zero, List.set_cons_succ]
  refine wpAnyH_take (i := 3) (oi := { dst := some 52, op := Op.load 24 (Operand.tmp 51), type := 24, pos := "file.go:87", after := #[{ on := 2, ground := Ground.data }], guard := none }) (v := .pointer (some ⟨p, 0, none⟩)) rfl (by kernel_rfl) (by kernel_rfl) (by kernel_rfl) (fun _ _ _ h => h) (Or.inl ⟨by rfl, by intro w hS; have hc := FK.c0 hS; go_simp⟩) hHeld ?_
  try simp only [Act.put, List.setIfInBounds_toArray, List.set_cons_zero, List.set_cons_succ]
  refine wpAnyH_take (i := 7) (oi := { dst := some 56, op := Op.load 3 (Operand.tmp 55), type := 3, pos := "file.go:87", after := #[{ on := 6, ground := Ground.data }], guard := none }) (v := .int .i64 (q : Int)) rfl (by kernel_rfl) (by kernel_rfl) (by kernel_rfl) (fun _ _ _ h => h) (Or.inl ⟨by rfl, by intro w hS; have hc := FK.c6 hS; go_simp⟩) hHeld ?_
  try simp only [Act.put, List.setIfInBounds_toArray, List.set_cons_zero, List.set_cons_succ]
  refine wpAnyH_ready (rs := [9]) (by kernel_rfl) (by simp) ?_
  refine (AllReadyH.cons (o := { dst := some 58, op := Op.call { callee := Callee.value (Operand.func 59), args := #[Operand.tmp 52, Operand.tmp 56, Operand.tmp 57], argTypes := #[24, 3, 29] }, type := 42, pos := "file.go:87", after := #[{ on := 3, ground := Ground.data }, { on := 7, ground := Ground.data }, { on := 8, ground := Ground.data }], guard := none }) rfl (fun K hK => ?_) AllReadyH.nil)
  go_simp
  go_at_call 59
  refine (HWR.out).mono ?_
  rintro e w3 ⟨rfl, hN⟩
  go_wp2_with fail
  refine hK.out _ _ (FK.other (show FK w2.drew g p s q ep from hHeld) HD2.out.drew hN.choose_spec.2.1) (fun hHeld2 => ?_)
  clear hK K hHeld
  have hHeld := hHeld2
  clear hHeld2
  try simp only [Act.put, List.setIfInBounds_toArray, List.set_cons_zero, List.set_cons_succ]
  refine wpAnyH_take (i := 10) (oi := { dst := some 11, op := Op.assign (Operand.tmp 58), type := 42, pos := "file.go:87", after := #[{ on := 9, ground := Ground.data }, { on := 9, ground := Ground.chain }, { on := 0, ground := Ground.phase }, { on := 1, ground := Ground.phase }, { on := 2, ground := Ground.phase }, { on := 3, ground := Ground.phase }, { on := 4, ground := Ground.phase }, { on := 5, ground := Ground.phase }, { on := 6, ground := Ground.phase }, { on := 7, ground := Ground.phase }, { on := 8, ground := Ground.phase }, { on := 9, ground := Ground.phase }], guard := none }) (v := .int .i64 D.actE) rfl (by kernel_rfl) (by kernel_rfl) (by kernel_rfl) (fun _ _ _ h => h) (Or.inl ⟨by rfl, by intro w hS; go_simp⟩) hHeld ?_
  try simp only [Act.put, List.setIfInBounds_toArray, List.set_cons_zero, List.set_cons_succ]
  refine wpAnyH_done (by kernel_rfl) ?_ _
  refine NoPanic.normal ?_
  obtain ⟨F3, q1, q2, q3⟩ := hN
  have HK3 := hid (show FK w3 g p s q ep from hHeld)
  have hfw : Fr F w w3 := (Fr.of_below HB2.out).drew.trans q2 (Gr.refl _ _)
  have hgr : Gr w F F3 := fun k hk => (q3 k hk).imp id (fun x => Nat.le_trans HB2.out.size x)
  have HFW := hid hfw
  have HGR := hid hgr
  have HD3 := hid q1
  clear q1 q2 q3 hfw hgr hHeld HWR HD2 HK2
  by_cases ha : D.armed = 1
  · rw [actE_2 ha]
    go_wp2
    go_ret2
    exact ⟨fun x => absurd ha x, fun _ => ⟨rfl, F3, HD3.out, HK3.out, HFW.out.wide g, HGR.out⟩⟩
  · rw [actE_0 ha]
    have c63 : w3.cell? ⟨g, 6, none⟩ = some (.int .i64 (q : Int)) := HK3.out.cell 6
    have f63 := HK3.out.fz 6
    go_wp2
    go_ret2
    refine ⟨fun _ => ⟨?_, F3, HD3.out.setCellN (HK3.out.not HD3.out) 6 _, ?_, (HFW.out.wide g).setG 6 _, HGR.out⟩, fun x => absurd x ha⟩
    · go_num
    · have := HK3.out.set (q + 1 : Nat); push_cast at this ⊢; exact this
end Go.Proofs.YtaefjlbonflmdaaDoor
