import Derived.Test.YtihkjfbhmlfonaaG9
namespace Go.Proofs.Ytihkjfbhmlfonaa
set_option linter.unusedVariables false
set_option linter.unusedSimpArgs false
open Go.RowKit
attribute [local go_sem ↓] Go.wp_at_zero Go.wp_at_succ

/-! What a file's calls do. -/
/-- What a call leaves of the file and its disk. -/
def NxF (base : Nat) (F : List Nat) (p g : Nat) (w : World) (D' : DS) (s : Sup) (nx ep : Int) (w' : World) : Prop := ∃ F', DA w' base F' p D' ∧ FK w' g p s nx ep ∧ Fr (g :: F) w w' ∧ Gr w F F'
theorem FK.drew {w : World} {g p : Nat} {s : Sup} {nx ep : Int} (h : FK w g p s nx ep) : FK w.drew g p s nx ep := h
theorem Fr.wide {F : List Nat} {w w1 : World} (h : Fr F w w1) (g : Nat) : Fr (g :: F) w w1 := ⟨h.os, h.tape, h.output, h.size, fun k hk hn => h.block k hk (fun e => hn (List.mem_cons_of_mem _ e))⟩
theorem FK.c0 {w : World} {g p : Nat} {s : Sup} {nx ep : Int} (h : FK w g p s nx ep) : w.cell? ⟨g, 0, none⟩ = some (.pointer (some ⟨p, 0, none⟩)) := h.cell 0
theorem FK.c6 {w : World} {g p : Nat} {s : Sup} {nx ep : Int} (h : FK w g p s nx ep) : w.cell? ⟨g, 6, none⟩ = some (.int .i64 nx) := h.cell 6
theorem FK.set {w : World} {g p : Nat} {s : Sup} {nx ep : Int} (h : FK w g p s nx ep) (x : Int) : FK (w.setCell ⟨g, 6, none⟩ (.int .i64 x)) g p s x ep := by
  unfold FK
  rw [heap_setCell_same _ _ _ _ _ _ h]; rfl
theorem FK.fz {w : World} {g p : Nat} {s : Sup} {nx ep : Int} (h : FK w g p s nx ep) (j : Nat) : w.frozen? ⟨g, j, none⟩ = false := frozen_of_row _ _ _ _ _ h
theorem DA.setCellN {w : World} {base : Nat} {F : List Nat} {p : Nat} {D : DS} (h : DA w base F p D) {g : Nat} (hg : g ∉ F) (j : Nat) (v : Value) : DA (w.setCell ⟨g, j, none⟩ v) base F p D :=
  h.of_heap fun k hk => heap_setCell_other w ⟨g, j, none⟩ k v (fun e => hg (by rw [← show k = g from e]; exact hk))
theorem Fr.setG {F : List Nat} {w w1 : World} {g : Nat} (h : Fr (g :: F) w w1) (j : Nat) (v : Value) : Fr (g :: F) w (w1.setCell ⟨g, j, none⟩ v) := h.setCell (List.mem_cons_self) j v
theorem live_0 {D : DS} {ep : Int} (h : liveF D ep = 0) : D.epoch = ep ∧ D.power = true := by
  unfold liveF at h
  split at h
  · exact absurd h (by decide)
  · rename_i c
    split at h
    · rename_i d; exact ⟨Classical.not_not.1 c, d⟩
    · exact absurd h (by decide)
set_option maxHeartbeats 400000 in
theorem has_any (w : World) (g p : Nat) (s : Sup) (nx ep : Int) (hf : FK w g p s nx ep) (q : Int) :
    Calls Try.prog 63 #[.pointer (some ⟨g, 0, none⟩), .int .i64 q] w fun e w' => e = .returned (.bool (decide (2 ≤ q ∧ q < nx))) ∧ w = w' := by
  have c6 : w.cell? ⟨g, 6, none⟩ = some (.int .i64 nx) := hf.cell 6
  clear hf
  by_cases h2 : 2 ≤ q
  · have HE := hid (show decide (2 ≤ q ∧ q < nx) = decide (q < nx) by simp [h2])
    go_enter Try.func63, Try.ntmps63
    go_wp2
    go_ret
    exact ⟨by rw [HE.out]; rfl, rfl⟩
  · go_enter Try.func63, Try.ntmps63
    go_wp2
    go_ret
    refine ⟨?_, rfl⟩
    rw [show decide (2 ≤ q) = false from decide_eq_false (by omega)]
    rfl
set_option maxHeartbeats 400000 in
theorem Forget_any (w : World) (base : Nat) (F : List Nat) (p : Nat) (D : DS) (h : DA w base F p D) (g : Nat) (s : Sup) (nx ep : Int) (hf : FK w g p s nx ep) :
    Calls Try.prog 41 #[.pointer (some ⟨g, 0, none⟩)] w fun e w' => e = .returned (.tuple #[]) ∧ DA w' base F p D ∧ FK w' g p s s.ma ep ∧ Fr (g :: F) w w' := by
  have c3 : w.cell? ⟨g, 3, none⟩ = some (.int .i64 s.ma) := hf.cell 3
  have c6 : w.cell? ⟨g, 6, none⟩ = some (.int .i64 nx) := hf.cell 6
  have f6 := hf.fz 6
  have HD := hid (h.setCellN (hf.not h) 6 (.int .i64 s.ma))
  have HF := hid (hf.set s.ma)
  clear h hf
  go_enter Try.func41, Try.ntmps41
  go_wp2
  go_end0
  exact ⟨rfl, HD.out, HF.out, ((Fr.refl F w).wide g).setG 6 _⟩
set_option maxRecDepth 100000 in
set_option maxHeartbeats 1000000 in
theorem Append_in (w : World) (base : Nat) (F : List Nat) (p : Nat) (D : DS) (h : DA w base F p D) (hbw : base ≤ w.heap.size) (g : Nat) (s : Sup) (ep : Int) (q : Nat) (hf : FK w g p s q ep) (hlv : liveF D ep = 0) (hq : 2 ≤ q ∧ q < D.np) (kd : Int) (hk : kindOk kd = true) (l : List Int) (h8 : Byts l) (hl : l.length ≤ 246) (sp : Option Addr) (cap : Nat) (hS : Src w sp cap l) (hops : D.ops.length < 400000000000) (hwr : D.writes < 4000000000000000000) :
    Calls Try.prog 72 #[.pointer (some ⟨g, 0, none⟩), .int .i64 kd, .slice sp l.length cap] w fun e w' => (D.armed ≠ 1 → e = .returned (.tuple #[.int .i64 q, .int .i64 0]) ∧ NxF base F p g w (D.wr ⟨q, pageP kd q l⟩) s (q + 1 : Nat) ep w') ∧ (D.armed = 1 → e = .returned (.tuple #[.int .i64 0, .int .i64 2]) ∧ NxF base F p g w (D.wr ⟨q, pageP kd q l⟩) s q ep w') := by
  have hnp := h.ok.np
  have hpw := (live_0 hlv).2
  obtain ⟨k1, k3⟩ := (kindOk_iff kd).1 hk
  have hpl : placeOk (q : Int) = true := (placeOk_iff _).2 ⟨by omega, by omega⟩
  have HL := hid (Live_any w base F p D h g s q ep hf)
  rw [hlv] at HL
  have HD := hid h
  have HF := hid hf
  have HS := hid hS
  have hll : (l.length : Int) ≤ 246 := by omega
  have hqn : ((q : Int) == (D.np : Int)) = false := by simp; omega
  have iq : (q : Int) < 4096 := by omega
  have HPK := hid (fun (w1 : World) (hS : Src w1 sp cap l) => pack_ok w1 kd q l h8 hk hpl hl sp cap hS)
  have HQN := hid hq
  have HP8 := hid (pageP_byts kd q l ⟨by omega, by omega⟩ hl h8)
  have HPL := hid (pageP_len kd q l hl)
  clear h hf hS hnp hl h8 hk hpl hlv hq
  go_enter Try.func72, Try.ntmps72
  go_wp2_with fail
  refine HL.out.mono ?_
  rintro e w1 ⟨rfl, hb1⟩
  have HB1 := hid hb1
  have HD1 := hid (HD.out.below hb1)
  have HK1 := hid (HF.out.below hb1)
  have hgl1 : g < w1.heap.size := hlt_ HK1.out
  have c0 := hid (show w1.cell? ⟨g, 0, none⟩ = some (.pointer (some ⟨p, 0, none⟩)) from HK1.out.cell 0)
  have c6 := hid (show w1.cell? ⟨g, 6, none⟩ = some (.int .i64 (q : Int)) from HK1.out.cell 6)
  clear hb1 HL
  go_wp2
  refine wp_region_noPanic ?_
  refine wp_region_held_drew (S := fun w' => Below w1.heap.size w1 w') (by kernel_rfl) (Below.refl _ _).drew (fun hHeld => ?_)
  refine wpAnyH_take (i := 0) (oi := { dst := some 26, op := Op.move (Operand.tmp 0), type := 66, pos := "file.go:80", after := #[], guard := none }) (v := .pointer (some ⟨g, 0, none⟩)) rfl (by kernel_rfl) (by kernel_rfl) (by kernel_rfl) (fun _ _ _ h => h) (Or.inl ⟨by rfl, by intro w hS; go_simp⟩) hHeld ?_
  try simp only [Act.put, List.setIfInBounds_toArray, List.set_cons_zero, List.set_cons_succ]
  refine wpAnyH_take (i := 4) (oi := { dst := some 30, op := Op.move (Operand.tmp 0), type := 66, pos := "file.go:80", after := #[], guard := none }) (v := .pointer (some ⟨g, 0, none⟩)) rfl (by kernel_rfl) (by kernel_rfl) (by kernel_rfl) (fun _ _ _ h => h) (Or.inl ⟨by rfl, by intro w hS; go_simp⟩) hHeld ?_
  try simp only [Act.put, List.setIfInBounds_toArray, List.set_cons_zero, List.set_cons_succ]
  refine wpAnyH_take (i := 1) (oi := { dst := some 27, op := Op.nilCheck (Operand.tmp 26), type := 0, pos := "file.go:80", after := #[{ on := 0, ground := Ground.data }], guard := none }) (v := .pointer (some ⟨g, 0, none⟩)) rfl (by kernel_rfl) (by kernel_rfl) (by kernel_rfl) (fun _ _ _ h => h) (Or.inl ⟨by rfl, by intro w hS; go_simp⟩) hHeld ?_
  try simp only [Act.put, List.setIfInBounds_toArray, List.set_cons_zero, List.set_cons_succ]
  refine wpAnyH_take (i := 5) (oi := { dst := some 31, op := Op.nilCheck (Operand.tmp 30), type := 0, pos := "file.go:80", after := #[{ on := 4, ground := Ground.data }], guard := none }) (v := .pointer (some ⟨g, 0, none⟩)) rfl (by kernel_rfl) (by kernel_rfl) (by kernel_rfl) (fun _ _ _ h => h) (Or.inl ⟨by rfl, by intro w hS; go_simp⟩) hHeld ?_
  try simp only [Act.put, List.setIfInBounds_toArray, List.set_cons_zero, List.set_cons_succ]
  refine wpAnyH_take (i := 2) (oi := { dst := some 28, op := Op.fieldAddr 97 (Operand.tmp 27) 2, type := 0, pos := "file.go:80", after := #[{ on := 1, ground := Ground.data }], guard := none }) (v := .pointer (some ⟨g, 6, none⟩)) rfl (by kernel_rfl) (by kernel_rfl) (by kernel_rfl) (fun _ _ _ h => h) (Or.inl ⟨by rfl, by intro w hS; go_simp⟩) hHeld ?_
  try simp only [Act.put, List.setIfInBounds_toArray, List.set_cons_zero, List.set_cons_succ]
  refine wpAnyH_take (i := 6) (oi := { dst := some 32, op := Op.fieldAddr 97 (Operand.tmp 31) 0, type := 0, pos := "file.go:80", after := #[{ on := 5, ground := Ground.data }], guard := none }) (v := .pointer (some ⟨g, 0, none⟩)) rfl (by kernel_rfl) (by kernel_rfl) (by kernel_rfl) (fun _ _ _ h => h) (Or.inl ⟨by rfl, by intro w hS; go_simp⟩) hHeld ?_
  try simp only [Act.put, List.setIfInBounds_toArray, List.set_cons_zero, List.set_cons_succ]
  refine wpAnyH_take (i := 3) (oi := { dst := some 29, op := Op.load 3 (Operand.tmp 28), type := 3, pos := "file.go:80", after := #[{ on := 2, ground := Ground.data }], guard := none }) (v := .int .i64 (q : Int)) rfl (by kernel_rfl) (by kernel_rfl) (by kernel_rfl) (fun _ _ _ h => h) (Or.inl ⟨by rfl, by intro w hS; have hc := (hS.cell (p := ⟨g, 6, none⟩) hgl1).trans c6.out; go_simp⟩) hHeld ?_
  try simp only [Act.put, List.setIfInBounds_toArray, List.set_cons_zero, List.set_cons_succ]
  refine wpAnyH_take (i := 7) (oi := { dst := some 33, op := Op.load 23 (Operand.tmp 32), type := 23, pos := "file.go:80", after := #[{ on := 6, ground := Ground.data }], guard := none }) (v := .pointer (some ⟨p, 0, none⟩)) rfl (by kernel_rfl) (by kernel_rfl) (by kernel_rfl) (fun _ _ _ h => h) (Or.inl ⟨by rfl, by intro w hS; have hc := (hS.cell (p := ⟨g, 0, none⟩) hgl1).trans c0.out; go_simp⟩) hHeld ?_
  try simp only [Act.put, List.setIfInBounds_toArray, List.set_cons_zero, List.set_cons_succ]
  refine wpAnyH_ready (rs := [8]) (by kernel_rfl) (by simp) ?_
  refine (AllReadyH.cons (o := { dst := some 34, op := Op.call { callee := Callee.value (Operand.func 35), args := #[Operand.tmp 33], argTypes := #[23] }, type := 3, pos := "file.go:80", after := #[{ on := 7, ground := Ground.data }], guard := none }) rfl (fun K hK => ?_) AllReadyH.nil)
  go_simp
  go_at_call 35
  refine (Pages_any _ base F p D (HD1.out.below hHeld)).mono ?_
  rintro e w4 ⟨rfl, rfl⟩
  go_wp2_with fail
  refine hK.out _ _ (hHeld) (fun hHeld2 => ?_)
  clear hK K hHeld
  have hHeld := hHeld2
  clear hHeld2
  try simp only [Act.put, List.setIfInBounds_toArray, List.set_cons_zero, List.set_cons_succ]
  refine wpAnyH_take (i := 9) (oi := { dst := some 35, op := Op.binOp BinOp.eql 3 (Operand.tmp 29) (Operand.tmp 34) 3, type := 4, pos := "file.go:80", after := #[{ on := 3, ground := Ground.data }, { on := 8, ground := Ground.data }], guard := none }) (v := .bool false) rfl (by kernel_rfl) (by kernel_rfl) (by kernel_rfl) (fun _ _ _ h => h) (Or.inl ⟨by rfl, by intro w hS; (have he2 := hqn; go_simp)⟩) hHeld ?_
  try simp only [Act.put, List.setIfInBounds_toArray, List.set_cons_zero, List.set_cons_succ]
  refine wpAnyH_done (by kernel_rfl) ?_ _
  refine NoPanic.normal ?_
  have c62 : w1.drew.cell? ⟨g, 6, none⟩ = some (.int .i64 (q : Int)) := (hHeld.cell (p := ⟨g, 6, none⟩) hgl1).trans c6.out
  have hpk := HPK.out w1.drew ((HS.out.below HB1.out (Nat.le_refl _)).below hHeld (Nat.le_refl _))
  have HH := hid hHeld
  clear hHeld
  go_wp2_with fail
  refine hpk.mono ?_
  rintro e w2 ⟨gp, rfl, hgp, hrp, hb2⟩
  have hb12 : Below w1.heap.size w1 w2 := HH.out.trans (hb2.mono HH.out.size)
  have HB2 := hid (HB1.out.trans (hb12.mono HB1.out.size))
  have HD2 := hid (HD1.out.below hb12)
  have HK2 := hid (HK1.out.below hb12)
  have HWR := hid (Write_any w2.drew base F p D HD2.out.drew (Nat.le_trans hbw HB2.out.size) hpw q HQN.out.2 (pageP kd q l) HPL.out HP8.out (some ⟨gp, 0, none⟩) 256 (src_row (tl := []) (by rw [List.append_nil]; exact hrp) 256 (by rw [HPL.out]; omega) (by simp [maxLen])) hops hwr)
  clear hpk c62 hgp hrp hb2 hb12 HH HPK HP8 HPL c0 c6 HD1 HK1 HB1 HS
  go_wp2
  refine wp_region_noPanic ?_
  refine wp_region_held_drew (S := fun w' => FK w' g p s q ep) (by kernel_rfl) HK2.out.drew (fun hHeld => ?_)
  refine wpAnyH_take (i := 0) (oi := { dst := some 49, op := Op.move (Operand.tmp 0), type := 66, pos := "file.go:87", after := #[], guard := none }) (v := .pointer (some ⟨g, 0, none⟩)) rfl (by kernel_rfl) (by kernel_rfl) (by kernel_rfl) (fun _ _ _ h => h) (Or.inl ⟨by rfl, by intro w hS; go_simp⟩) hHeld ?_
  try simp only [Act.put, List.setIfInBounds_toArray, List.set_cons_zero, List.set_cons_succ]
  refine wpAnyH_take (i := 4) (oi := { dst := some 53, op := Op.move (Operand.tmp 0), type := 66, pos := "file.go:87", after := #[], guard := none }) (v := .pointer (some ⟨g, 0, none⟩)) rfl (by kernel_rfl) (by kernel_rfl) (by kernel_rfl) (fun _ _ _ h => h) (Or.inl ⟨by rfl, by intro w hS; go_simp⟩) hHeld ?_
  try simp only [Act.put, List.setIfInBounds_toArray, List.set_cons_zero, List.set_cons_succ]
  refine wpAnyH_take (i := 8) (oi := { dst := some 57, op := Op.move (Operand.tmp 9), type := 36, pos := "file.go:87", after := #[], guard := none }) (v := .slice (some ⟨gp, 0, none⟩) 256 256) rfl (by kernel_rfl) (by kernel_rfl) (by kernel_rfl) (fun _ _ _ h => h) (Or.inl ⟨by rfl, by intro w hS; go_simp⟩) hHeld ?_
  try simp only [Act.put, List.setIfInBounds_toArray, List.set_cons_zero, List.set_cons_succ]
  refine wpAnyH_take (i := 1) (oi := { dst := some 50, op := Op.nilCheck (Operand.tmp 49), type := 0, pos := "file.go:87", after := #[{ on := 0, ground := Ground.data }], guard := none }) (v := .pointer (some ⟨g, 0, none⟩)) rfl (by kernel_rfl) (by kernel_rfl) (by kernel_rfl) (fun _ _ _ h => h) (Or.inl ⟨by rfl, by intro w hS; go_simp⟩) hHeld ?_
  try simp only [Act.put, List.setIfInBounds_toArray, List.set_cons_zero, List.set_cons_succ]
  refine wpAnyH_take (i := 5) (oi := { dst := some 54, op := Op.nilCheck (Operand.tmp 53), type := 0, pos := "file.go:87", after := #[{ on := 4, ground := Ground.data }], guard := none }) (v := .pointer (some ⟨g, 0, none⟩)) rfl (by kernel_rfl) (by kernel_rfl) (by kernel_rfl) (fun _ _ _ h => h) (Or.inl ⟨by rfl, by intro w hS; go_simp⟩) hHeld ?_
  try simp only [Act.put, List.setIfInBounds_toArray, List.set_cons_zero, List.set_cons_succ]
  refine wpAnyH_take (i := 2) (oi := { dst := some 51, op := Op.fieldAddr 97 (Operand.tmp 50) 0, type := 0, pos := "file.go:87", after := #[{ on := 1, ground := Ground.data }], guard := none }) (v := .pointer (some ⟨g, 0, none⟩)) rfl (by kernel_rfl) (by kernel_rfl) (by kernel_rfl) (fun _ _ _ h => h) (Or.inl ⟨by rfl, by intro w hS; go_simp⟩) hHeld ?_
  try simp only [Act.put, List.setIfInBounds_toArray, List.set_cons_zero, List.set_cons_succ]
  refine wpAnyH_take (i := 6) (oi := { dst := some 55, op := Op.fieldAddr 97 (Operand.tmp 54) 2, type := 0, pos := "file.go:87", after := #[{ on := 5, ground := Ground.data }], guard := none }) (v := .pointer (some ⟨g, 6, none⟩)) rfl (by kernel_rfl) (by kernel_rfl) (by kernel_rfl) (fun _ _ _ h => h) (Or.inl ⟨by rfl, by intro w hS; go_simp⟩) hHeld ?_
  try simp only [Act.put, List.setIfInBounds_toArray, List.set_cons_zero, List.set_cons_succ]
  refine wpAnyH_take (i := 3) (oi := { dst := some 52, op := Op.load 23 (Operand.tmp 51), type := 23, pos := "file.go:87", after := #[{ on := 2, ground := Ground.data }], guard := none }) (v := .pointer (some ⟨p, 0, none⟩)) rfl (by kernel_rfl) (by kernel_rfl) (by kernel_rfl) (fun _ _ _ h => h) (Or.inl ⟨by rfl, by intro w hS; have hc := FK.c0 hS; go_simp⟩) hHeld ?_
  try simp only [Act.put, List.setIfInBounds_toArray, List.set_cons_zero, List.set_cons_succ]
  refine wpAnyH_take (i := 7) (oi := { dst := some 56, op := Op.load 3 (Operand.tmp 55), type := 3, pos := "file.go:87", after := #[{ on := 6, ground := Ground.data }], guard := none }) (v := .int .i64 (q : Int)) rfl (by kernel_rfl) (by kernel_rfl) (by kernel_rfl) (fun _ _ _ h => h) (Or.inl ⟨by rfl, by intro w hS; have hc := FK.c6 hS; go_simp⟩) hHeld ?_
  try simp only [Act.put, List.setIfInBounds_toArray, List.set_cons_zero, List.set_cons_succ]
  refine wpAnyH_ready (rs := [9]) (by kernel_rfl) (by simp) ?_
  refine (AllReadyH.cons (o := { dst := some 58, op := Op.call { callee := Callee.value (Operand.func 58), args := #[Operand.tmp 52, Operand.tmp 56, Operand.tmp 57], argTypes := #[23, 3, 36] }, type := 62, pos := "file.go:87", after := #[{ on := 3, ground := Ground.data }, { on := 7, ground := Ground.data }, { on := 8, ground := Ground.data }], guard := none }) rfl (fun K hK => ?_) AllReadyH.nil)
  go_simp
  go_at_call 58
  refine (HWR.out).mono ?_
  rintro e w3 ⟨rfl, hN⟩
  go_wp2_with fail
  refine hK.out _ _ (FK.other (show FK w2.drew g p s q ep from hHeld) HD2.out.drew hN.choose_spec.2.1) (fun hHeld2 => ?_)
  clear hK K hHeld
  have hHeld := hHeld2
  clear hHeld2
  try simp only [Act.put, List.setIfInBounds_toArray, List.set_cons_zero, List.set_cons_succ]
  refine wpAnyH_take (i := 10) (oi := { dst := some 11, op := Op.assign (Operand.tmp 58), type := 62, pos := "file.go:87", after := #[{ on := 9, ground := Ground.data }, { on := 9, ground := Ground.chain }, { on := 0, ground := Ground.phase }, { on := 1, ground := Ground.phase }, { on := 2, ground := Ground.phase }, { on := 3, ground := Ground.phase }, { on := 4, ground := Ground.phase }, { on := 5, ground := Ground.phase }, { on := 6, ground := Ground.phase }, { on := 7, ground := Ground.phase }, { on := 8, ground := Ground.phase }, { on := 9, ground := Ground.phase }], guard := none }) (v := .int .i64 D.actE) rfl (by kernel_rfl) (by kernel_rfl) (by kernel_rfl) (fun _ _ _ h => h) (Or.inl ⟨by rfl, by intro w hS; go_simp⟩) hHeld ?_
  try simp only [Act.put, List.setIfInBounds_toArray, List.set_cons_zero, List.set_cons_succ]
  refine wpAnyH_done (by kernel_rfl) ?_ _
  refine NoPanic.normal ?_
  obtain ⟨F3, q1, q2, q3⟩ := hN
  have HK3 := hid (show FK w3 g p s q ep from hHeld)
  have hfw : Fr F w w3 := (Fr.of_below HB2.out).drew.trans q2 (Gr.refl _ _)
  have hgr : Gr w F F3 := fun k hk => (q3 k hk).imp id (fun x => Nat.le_trans HB2.out.size x)
  have HFW := hid hfw
  have HGR := hid hgr
  have HD3 := hid q1
  clear q1 q2 q3 hfw hgr hHeld HWR HD2 HK2
  by_cases ha : D.armed = 1
  · rw [actE_2 ha]
    go_wp2
    go_ret2
    exact ⟨fun x => absurd ha x, fun _ => ⟨rfl, F3, HD3.out, HK3.out, HFW.out.wide g, HGR.out⟩⟩
  · rw [actE_0 ha]
    have c63 : w3.cell? ⟨g, 6, none⟩ = some (.int .i64 (q : Int)) := HK3.out.cell 6
    have f63 := HK3.out.fz 6
    go_wp2
    go_ret2
    refine ⟨fun _ => ⟨?_, F3, HD3.out.setCellN (HK3.out.not HD3.out) 6 _, ?_, (HFW.out.wide g).setG 6 _, HGR.out⟩, fun x => absurd x ha⟩
    · go_num
    · have := HK3.out.set (q + 1 : Nat); push_cast at this ⊢; exact this
end Go.Proofs.Ytihkjfbhmlfonaa
namespace Go.Proofs.Ytihkjfbhmlfonaa
set_option linter.unusedVariables false
set_option linter.unusedSimpArgs false
open Go.RowKit
attribute [local go_sem ↓] Go.wp_at_zero Go.wp_at_succ


theorem hlt_c {w : World} {a : Addr} {v : Value} (h : w.cell? a = some v) : a.block < w.heap.size := World.block_lt_of_cell? w a h
theorem cell_sup3 {w : World} {b : Nat} {s : Sup} {t : TypeId} (h : w.heap[b]? = some (.cells (supC s) t (0, 0))) : w.cell? ⟨b, 3, none⟩ = some (.int .i64 s.hd) := by simp [World.cell?, h, supC]
/-! Read. -/
set_option maxHeartbeats 400000 in
theorem FRead_ok (w : World) (base : Nat) (F : List Nat) (p : Nat) (D : DS) (h : DA w base F p D) (g : Nat) (s : Sup) (nx ep : Int) (hf : FK w g p s nx ep) (hlv : liveF D ep = 0) (q : Nat) (hq : 2 ≤ q ∧ (q : Int) < nx ∧ q < D.np) (hr : D.reads < 4000000000000000000) (kd : Int) (l : List Int) (hu : unpackF q (D.readOf q) = (kd, l, 0)) (z : Int) (hz : z = (q : Int)) :
    Calls Try.prog 42 #[.pointer (some ⟨g, 0, none⟩), .int .i64 z] w fun e w' => ∃ v, e = .returned (.tuple #[.int .i64 kd, v, .int .i64 0]) ∧ Own w' w.heap.size v l ∧ DA w' base F p { D with reads := D.reads + 1 } ∧ FK w' g p s nx ep ∧ Fr F w w' := by
  subst hz
  have HL := hid (Live_any w base F p D h g s nx ep hf)
  rw [hlv] at HL
  have hpw := (live_0 hlv).2
  have fine := readOf_fine h.ok q hq.2.2
  have HFN := hid fine
  have HH := hid (fun (w1 : World) (hb : Below w.heap.size w w1) => (show Calls Try.prog 63 #[.pointer (some ⟨g, 0, none⟩), .int .i64 (q : Int)] w1 fun e w' => e = .returned (.bool true) ∧ w1 = w' from by
    have := has_any w1 g p s nx ep (hf.below hb) q
    rwa [show decide (2 ≤ (q : Int) ∧ (q : Int) < nx) = true from decide_eq_true ⟨by omega, hq.2.1⟩] at this))
  have HRD := hid (fun (w1 : World) (hb : Below w.heap.size w w1) => Read_same w1 base F p D (h.below hb) hpw q hq.2.2 hr q rfl)
  have HC0 := hid (fun (w1 : World) (hb : Below w.heap.size w w1) => (show w1.cell? ⟨g, 0, none⟩ = some (.pointer (some ⟨p, 0, none⟩)) from (hf.below hb).cell 0))
  have HF := hid hf
  have HD := hid h
  have HU := hid hu
  have HUP := hid (fun (w1 : World) (gp c : Nat) (hS : Src w1 (some ⟨gp, 0, none⟩) c (D.readOf q)) => (show Calls Try.prog 64 #[.int .i64 (q : Int), .slice (some ⟨gp, 0, none⟩) 256 c] w1 fun e w' => ∃ v, e = .returned (.tuple #[.int .i64 kd, v, .int .i64 0]) ∧ Own w' w1.heap.size v l ∧ Below w1.heap.size w1 w' from by
    have := unpack_any w1 q (D.readOf q) fine.2 (some ⟨gp, 0, none⟩) c hS
    rw [fine.1, hu] at this
    exact this))
  clear h hf hlv hq hr hu fine
  go_enter Try.func42, Try.ntmps42
  go_wp2_with fail
  refine HL.out.mono ?_
  rintro e w1 ⟨rfl, hb1⟩
  have HB1 := hid hb1
  have c0 := HC0.out w1 hb1
  clear hb1 HL
  go_wp2_with (first | (go_at_call 63; refine (HH.out w1 HB1.out).mono ?_; rintro e w0 ⟨rfl, rfl⟩))
  refine (HRD.out w1 HB1.out).mono ?_
  rintro e w2 ⟨gp, c, rfl, hO2, hS2, hg2, hD2, hF2⟩
  have HS2 := hid hS2
  have HD2 := hid hD2
  have HF2 := hid hF2
  clear hO2 hS2 hg2 hD2 hF2 HRD HH HC0 c0
  go_wp2_with fail
  refine (HUP.out w2 gp c HS2.out).mono ?_
  rintro e w3 ⟨v, rfl, hO3, hb3⟩
  have hw3 : w.heap.size ≤ w3.heap.size := Nat.le_trans HB1.out.size (Nat.le_trans HF2.out.size hb3.size)
  have HO3 := hid hO3
  have HB3 := hid hb3
  obtain ⟨spv, cv, hv, _, _⟩ := hO3.form
  subst hv
  clear hO3 hb3 HUP HS2
  go_wp2
  go_ret3
  refine ⟨_, rfl, HO3.out.base (Nat.le_trans HB1.out.size HF2.out.size), HD2.out.below HB3.out, ?_, (((Fr.of_below (F := F) HB1.out).trans HF2.out (Gr.refl _ _)).tail (F' := F) HB3.out)⟩
  exact ((HF.out.below HB1.out).other (HD.out.below HB1.out) HF2.out).below HB3.out
/-! Publish. -/
theorem FK.setSup {w : World} {g p : Nat} {s : Sup} {nx ep : Int} (h : FK w g p s nx ep) (s2 : Sup) : FK (w.setCells g 1 (supC s2).toList) g p s2 nx ep := by
  have h1 := heap_setCell_same w g 1 _ _ (.int .i64 s2.wd) h
  have h2 := heap_setCell_same _ g 2 _ _ (.int .i64 s2.ge) h1
  have h3 := heap_setCell_same _ g 3 _ _ (.int .i64 s2.ma) h2
  have h4 := heap_setCell_same _ g 4 _ _ (.int .i64 s2.hd) h3
  have h5 := heap_setCell_same _ g 5 _ _ (.int .i64 s2.pg) h4
  exact h5
theorem FK.range {w : World} {g p : Nat} {s : Sup} {nx ep : Int} (h : FK w g p s nx ep) : w.rangeAt g 1 (supL s) := fun j v hv => by
  rw [h.cell]
  rcases j with _ | _ | _ | _ | _ | j <;> first | exact hv | (simp [supL] at hv)
theorem FK.there {w : World} {g p : Nat} {s : Sup} {nx ep : Int} (h : FK w g p s nx ep) : w.there g 1 5 := fun j hj => by
  refine ⟨?_, h.fz _⟩
  rw [h.cell]
  rcases j with _ | _ | _ | _ | _ | j
  all_goals first | rfl | omega
theorem Fr.setCells {F : List Nat} {a b : World} {g : Nat} (h : Fr F a b) (hg : g ∈ F) (s2 : Sup) : Fr F a (b.setCells g 1 (supC s2).toList) :=
  ((((h.setCell hg 1 (.int .i64 s2.wd)).setCell hg 2 (.int .i64 s2.ge)).setCell hg 3 (.int .i64 s2.ma)).setCell hg 4 (.int .i64 s2.hd)).setCell hg 5 (.int .i64 s2.pg)
set_option maxHeartbeats 400000 in
theorem Publish1_any (w : World) (g p : Nat) (s s2 : Sup) (nx ep : Int) (hf : FK w g p s nx ep) (G2 G6 : Nat) (h2 : w.heap[G2]? = some (.cells #[.pointer (some ⟨g, 0, none⟩)] 66 (0, 0))) (h6 : w.heap[G6]? = some (.cells (supC s2) 56 (0, 0))) :
    Calls Try.prog 90 #[.pointer (some ⟨G6, 0, none⟩), .pointer (some ⟨G2, 0, none⟩)] w fun e w' => e = .returned (.int .i64 0) ∧ FK w' g p s2 nx ep ∧ Fr [g] w w' := by
  have c2 := cell_of_one h2
  have HF := hid hf
  have R6 := hid h6
  clear h2 h6 hf
  go_enter Try.func90, Try.ntmps90
  go_wp2_with (first
    | (refine wpList_load_row_w (by rfl) 56 (.tmp 0) (by rfl) G6 (by rfl) 56 (supC s2) (0, 0) _ (by exact R6.out) Try.underlying56 rfl (supN s2) ?_)
    | (refine wpList_store_mid (by rfl) 56 (.tmp 6) (.tmp 4) (by rfl) g 1 (supC s2) (by rfl) (by rfl) (by exact HF.out.there) (supN s2) (supO s2) ?_; generalize hw1 : w.setCells g 1 (supC s2).toList = w1 at *))
  go_ret
  refine ⟨rfl, ?_, ?_⟩
  · rw [← hw1]; exact HF.out.setSup s2
  · rw [← hw1]; exact (Fr.refl [g] w).setCells (List.mem_singleton.2 rfl) s2
theorem ent_pub : ∀ (args : Array Value) (w : World), (callFunc 90 args).run Try.prog w = .ok (.enter 90 args) w := enters_of Try.func90 (by kernel_rfl) rfl
theorem Fr.mono {F G : List Nat} {a b : World} (h : Fr F a b) (hs : ∀ k ∈ F, k ∈ G) : Fr G a b := ⟨h.os, h.tape, h.output, h.size, fun k hk hn => h.block k hk (fun e => hn (hs k e))⟩
/-- The steps of a Publish. -/
theorem pubturn_any (w : World) (base : Nat) (F : List Nat) (p : Nat) (D0 : DS) (h : DA w base F p D0) (hbw : base ≤ w.heap.size) (g : Nat) (s s2 : Sup) (nx ep : Int) (hf : FK w g p s nx ep) (hb : Bud D0 3) (a b : Nat) (ht : (St.lay s2 a b).there w p) (G2 G6 : Nat) (h2 : w.heap[G2]? = some (.cells #[.pointer (some ⟨g, 0, none⟩)] 66 (0, 0))) (h6 : w.heap[G6]? = some (.cells (supC s2) 56 (0, 0)))
    (k : Nat) (hk : w.heap[k]? = some (.cells #[.func (.func 38) #[.pointer (some ⟨p, 0, none⟩)] #[], .func (.func 56) #[] #[.pointer (some ⟨b, 0, none⟩), .pointer (some ⟨a, 0, none⟩)], .func (.func 38) #[.pointer (some ⟨p, 0, none⟩)] #[], .func (.func 90) #[] #[.pointer (some ⟨G6, 0, none⟩), .pointer (some ⟨G2, 0, none⟩)]] 93 (0, 0))) :
    Calls Try.prog 36 #[.slice (some ⟨k, 0, none⟩) 4 4] w fun e w2 => e = .returned (.int .i64 (runS D0 [.sync, .lay s2 0 0, .sync]).2) ∧ NxF base F p g w (runS D0 [.sync, .lay s2 0 0, .sync]).1 (if (runS D0 [.sync, .lay s2 0 0, .sync]).2 = 0 then s2 else s) nx ep w2 := by
  have hR : runS D0 [.sync, .lay s2 0 0, .sync] = runS D0 [.sync, .lay s2 a b, .sync] := rfl
  rw [hR]
  obtain ⟨all, hall⟩ : ∃ all, all = [St.sync, .lay s2 a b, .sync] := ⟨_, rfl⟩
  have hlen : all.length = 3 := by rw [hall]; rfl
  have hth : ∀ x ∈ all, x.there w p := by
    intro x hx
    rw [hall] at hx
    simp only [List.mem_cons, List.mem_nil_iff, or_false] at hx
    rcases hx with rfl | rfl | rfl
    · trivial
    · exact ht
    · trivial
  rw [← hall]
  refine (inTurn_any w k 4 (by decide) (fun j => if j < 3 then (all.getD j .sync).fn else 90) (fun j => if j < 3 then (all.getD j .sync).first p else #[]) (fun j => if j < 3 then (all.getD j .sync).cap else #[.pointer (some ⟨G6, 0, none⟩), .pointer (some ⟨G2, 0, none⟩)])
    (fun j w' => if j ≤ 3 then TI w w' base F p D0 all j else (runS D0 all).2 = 0 ∧ NxF base F p g w (runS D0 all).1 s2 nx ep w') (fun x w' => x = (runS D0 all).2 ∧ NxF base F p g w (runS D0 all).1 s nx ep w') ?_ ?_ ?_ ?_).mono ?_
  · intro j hj args w1
    by_cases c : j < 3
    · simp only [if_pos c]; exact St.ent _ args w1
    · simp only [if_neg c]; exact ent_pub args w1
  · simp only [Nat.zero_le, if_true]
    exact TI.start h all (by rw [hlen]; exact hb)
  · intro j w1 hj hI
    simp only [if_pos (show j ≤ 3 by omega)] at hI
    obtain ⟨D, F', hD, hF, _⟩ := hI
    have hk1 := hF.keep hk (h.not_in hk (by decide) (by decide) (by decide))
    rw [cell_of_row _ _ _ _ _ _ hk1, hall]
    rcases j with _ | _ | _ | _ | j
    · rfl
    · rfl
    · rfl
    · rfl
    · omega
  · intro j w1 hj hI
    simp only [if_pos (show j ≤ 3 by omega)] at hI
    by_cases c : j < 3
    · simp only [if_pos c, if_pos (show j + 1 ≤ 3 by omega)]
      refine (TI.step h hbw hI (by omega) hth).mono ?_
      rintro e w2 ⟨x, rfl, q1, q2⟩
      refine ⟨x, rfl, q1, fun hx => ?_⟩
      obtain ⟨e1, F2, r1, r2, r3⟩ := q2 hx
      exact ⟨e1, F2, r1, hf.other h r2, r2.wide g, r3⟩
    · obtain rfl : j = 3 := by omega
      simp only [if_neg c, if_neg (show ¬ (3 + 1 ≤ 3) by omega)]
      rw [← hlen] at hI
      obtain ⟨e0, F2, r1, r2, r3⟩ := hI.done
      have hf1 := hf.other h r2
      have h21 := r2.keep h2 (h.not_in h2 (by decide) (by decide) (by decide))
      have h61 := r2.keep h6 (h.not_in h6 (by decide) (by decide) (by decide))
      refine (Publish1_any w1 g p s s2 nx ep hf1 G2 G6 h21 h61).mono ?_
      rintro e w2 ⟨rfl, hf2, hr2⟩
      refine ⟨0, rfl, fun _ => ⟨e0, F2, ?_, hf2, ?_, r3⟩, fun hx => absurd rfl hx⟩
      · exact r1.of_heap fun i hi => hr2.block i (r1.lt i hi).2 (fun e => (hf1.not r1) (List.mem_singleton.1 e ▸ hi))
      · exact (r2.wide g).trans (hr2.mono (fun i hi => by rw [List.mem_singleton.1 hi]; exact List.mem_cons_self)) (Gr.refl _ _)
  · rintro e w2 ⟨x, rfl, q1, q2⟩
    by_cases hx : x = 0
    · have := q1 hx
      simp only [if_neg (show ¬ (4 ≤ 3) by omega)] at this
      rw [this.1, if_pos rfl, hx]
      exact ⟨rfl, this.2⟩
    · obtain ⟨e1, e2⟩ := q2 hx
      rw [← e1, if_neg hx]
      exact ⟨rfl, e2⟩
end Go.Proofs.Ytihkjfbhmlfonaa
namespace Go.Proofs.Ytihkjfbhmlfonaa
set_option linter.unusedVariables false
set_option linter.unusedSimpArgs false
open Go.RowKit
attribute [local go_sem ↓] Go.wp_at_zero Go.wp_at_succ


set_option maxRecDepth 100000 in
set_option maxHeartbeats 1000000 in
theorem Publish_in (w : World) (base : Nat) (F : List Nat) (p : Nat) (D : DS) (h : DA w base F p D) (hbw : base ≤ w.heap.size) (g : Nat) (s : Sup) (nx ep : Int) (hf : FK w g p s nx ep) (hlv : liveF D ep = 0) (hd : Int) (hh : hd = 0 ∨ (2 ≤ hd ∧ hd < nx)) (hg : 0 ≤ s.ge ∧ s.ge < 1099511627776) (s2 : Sup) (hs2 : s2 = ⟨s.wd, s.ge + 1, nx, hd, s.pg⟩) (hv : validS s2 = true) (hb : Bud D 3) :
    Calls Try.prog 73 #[.pointer (some ⟨g, 0, none⟩), .int .i64 hd] w fun e w2 => e = .returned (.int .i64 (runS D [.sync, .lay s2 0 0, .sync]).2) ∧ NxF base F p g w (runS D [.sync, .lay s2 0 0, .sync]).1 (if (runS D [.sync, .lay s2 0 0, .sync]).2 = 0 then s2 else s) nx ep w2 := by
  obtain ⟨w0, hw0⟩ : ∃ w0, w0 = w.alloc (.cells #[.pointer (some ⟨g, 0, none⟩)] 66) := ⟨_, rfl⟩
  have b0 : Below w.heap.size w w0 := by rw [hw0]; exact below_new _ _
  have r0 : w0.heap[w.heap.size]? = some (.cells #[.pointer (some ⟨g, 0, none⟩)] 66 (0, 0)) := by rw [hw0]; exact hnew _ _
  have HL := hid (Live_any w0 base F p D (h.below b0) g s nx ep (hf.below b0))
  rw [hlv] at HL
  have HB0 := hid b0
  have R0 := hid r0
  have W0 := hid hw0
  have HD := hid h
  have HF := hid hf
  have HH : Hid (∀ (w1 : World) (_ : FK w1 g p s nx ep), (hd != 0) = true → Calls Try.prog 63 #[.pointer (some ⟨g, 0, none⟩), .int .i64 hd] w1 fun e w' => e = .returned (.bool true) ∧ w1 = w') := hid (fun w1 hf1 h0 => by
    have := has_any w1 g p s nx ep hf1 hd
    rcases hh with hh | hh
    · rw [hh] at h0; simp at h0
    · rwa [show decide (2 ≤ hd ∧ hd < nx) = true from decide_eq_true hh] at this)
  have HS2 := hid hs2
  have i1 := hg.1
  have i2 := hg.2
  have hne : (s.ge == 1099511627776) = false := by simp; omega
  have hmf : ∀ (fn : Fn) (first cap : Array Value) (w : World), (Instr.makeFunc fn first cap).run Try.prog w = .ok (.func fn first cap) w := fun _ _ _ _ => rfl
  have K0 := hid h
  obtain ⟨sF, hsF⟩ : ∃ sF, sF = (if (runS D [.sync, .lay s2 0 0, .sync]).2 = 0 then s2 else s) := ⟨_, rfl⟩
  rw [← hsF]
  have HSF := hid hsF
  clear hsF
  clear h hf hlv hg b0 r0 hs2 hw0
  by_cases hz : hd = 0
  · subst hz
    clear hh HH
    go_enter Try.func73, Try.ntmps73
    have c0 := cell_of_one R0.out
    go_wp2_with (first
      | (go_at_call 40; rw [← W0.out]; refine HL.out.mono ?_; rintro e w1 ⟨rfl, hb1⟩; have HB1 := hid hb1; have c1 := (hb1.cell (p := ⟨w.heap.size, 0, none⟩) (hlt_ R0.out)).trans c0; have HF1 := hid ((HF.out.below HB0.out).below hb1); have c2 := (show w1.cell? ⟨g, 2, none⟩ = some (.int .i64 s.ge) from HF1.out.cell 2); clear hb1)
      | (go_at_call 63; refine (HH2.out w1 HF1.out).mono ?_; rintro e w2 ⟨rfl, rfl⟩)
      | (refine wpList_load_mid_w (by rfl) 56 (.tmp 28) (by rfl) g 1 (by rfl) (supL s) _ (by exact HF1.out.range) Try.underlying56 rfl (by rw [size_super]; rfl) ?_)
      | (refine wpList_store_row (by rfl) 56 (.tmp 6) (.tmp 29) (by rfl) w1.heap.size (supC s) (by rfl) (by rfl) 56 _ (by exact hnew _ _) (supN s) (supZ s) (supO s) ?_; rw [setRow_alloc]; have r6 := hnew w1 (.cells (supC s) 56); have b2 := below_new w1 (.cells (supC s) 56); have HF2 := hid (HF1.out.below b2); have e2 := (show (w1.alloc (.cells (supC s) 56)).cell? ⟨w.heap.size, 0, none⟩ = some (.pointer (some ⟨g, 0, none⟩)) from (b2.cell (p := ⟨w.heap.size, 0, none⟩) (hlt_c c1)).trans c1); have n1 : w.heap.size ≠ w1.heap.size := Nat.ne_of_lt (hlt_c c1); have n2 : g ≠ w1.heap.size := Nat.ne_of_lt (hlt_ HF1.out); generalize hw2 : w1.alloc (.cells (supC s) 56) = w2 at *; generalize hG6 : w1.heap.size = G6 at *; have c6 := cell_sup1 r6; have f6 := frozen_of_row _ _ 1 _ _ r6; have c62 := cell_sup2 r6; have f62 := frozen_of_row _ _ 2 _ _ r6; have c63 := cell_sup3 r6; have f63 := frozen_of_row _ _ 3 _ _ r6; have g6 := HF2.out.c6; have g0 := HF2.out.c0; clear c1 c2 c0))
    generalize hw6 : ((w2.setCell ⟨G6, 1, none⟩ (.int .i64 (s.ge + 1))).setCell ⟨G6, 2, none⟩ (.int .i64 nx)).setCell ⟨G6, 3, none⟩ (.int .i64 0) = w6 at *
    have q1 := heap_setCell_same w2 G6 1 _ _ (.int .i64 (s.ge + 1)) r6
    have q2 := heap_setCell_same _ G6 2 _ _ (.int .i64 nx) q1
    have q3 := heap_setCell_same _ G6 3 _ _ (.int .i64 0) q2
    rw [hw6] at q3
    have R6 := hid (show w6.heap[G6]? = some (.cells (supC s2) 56 (0, 0)) by rw [q3, HS2.out]; rfl)
    have hsz2 : w1.heap.size ≤ w2.heap.size := by rw [← hw2]; simp
    have B6 : Below w1.heap.size w1 w6 := by
      rw [← hw6, hG6]
      exact (((b2.setCell (p := ⟨G6, 1, none⟩) (Nat.le_refl _) _).setCell (p := ⟨G6, 2, none⟩) (Nat.le_refl _) _).setCell (p := ⟨G6, 3, none⟩) (Nat.le_refl _) _)
    have BW := HB0.out.trans ((HB1.out.trans (B6.mono HB1.out.size)).mono HB0.out.size)
    have D6 := HD.out.below BW
    have F6 := HF.out.below BW
    have G2R : w6.heap[w.heap.size]? = some (.cells #[.pointer (some ⟨g, 0, none⟩)] 66 (0, 0)) := by
      have z := (HB1.out.block _ (hlt_ R0.out)).trans R0.out
      exact (B6.block _ (hlt_ z)).trans z
    generalize hG2 : w.heap.size = G2 at *
    have X6 := hid (show w6.drew.cell? ⟨G2, 0, none⟩ = some (.pointer (some ⟨g, 0, none⟩)) ∧ w6.drew.cell? ⟨g, 0, none⟩ = some (.pointer (some ⟨p, 0, none⟩)) ∧ w6.drew.heap[G6]? = some (.cells (supC s2) 56 (0, 0)) from ⟨cell_of_one G2R, F6.c0, R6.out⟩)
    have HT := hid (fun (wA : World) (a0 b0 : Nat) (hA : Below w6.heap.size w6 wA) (x1 : wA.heap[a0]? = some (.cells #[.pointer (some ⟨p, 0, none⟩)] 23 (0, 0))) (x2 : wA.heap[b0]? = some (.cells (supC s2) 56 (0, 0))) =>
      (show Calls Try.prog 36 #[.slice (some ⟨wA.heap.size, 0, none⟩) 4 4] (wA.alloc (.cells #[.func (.func 38) #[.pointer (some ⟨p, 0, none⟩)] #[], .func (.func 56) #[] #[.pointer (some ⟨b0, 0, none⟩), .pointer (some ⟨a0, 0, none⟩)], .func (.func 38) #[.pointer (some ⟨p, 0, none⟩)] #[], .func (.func 90) #[] #[.pointer (some ⟨G6, 0, none⟩), .pointer (some ⟨G2, 0, none⟩)]] 93)) fun e w' => e = .returned (.int .i64 (runS D [.sync, .lay s2 0 0, .sync]).2) ∧ NxF base F p g w (runS D [.sync, .lay s2 0 0, .sync]).1 sF nx ep w' ∧ (w'.cell? ⟨G2, 0, none⟩ = some (.pointer (some ⟨g, 0, none⟩)) ∧ w'.cell? ⟨g, 0, none⟩ = some (.pointer (some ⟨p, 0, none⟩)) ∧ w'.heap[G6]? = some (.cells (supC s2) 56 (0, 0))) from by
        have hx := below_new wA (.cells #[.func (.func 38) #[.pointer (some ⟨p, 0, none⟩)] #[], .func (.func 56) #[] #[.pointer (some ⟨b0, 0, none⟩), .pointer (some ⟨a0, 0, none⟩)], .func (.func 38) #[.pointer (some ⟨p, 0, none⟩)] #[], .func (.func 90) #[] #[.pointer (some ⟨G6, 0, none⟩), .pointer (some ⟨G2, 0, none⟩)]] 93)
        have hAX : Below w6.heap.size w6 (wA.alloc (.cells #[.func (.func 38) #[.pointer (some ⟨p, 0, none⟩)] #[], .func (.func 56) #[] #[.pointer (some ⟨b0, 0, none⟩), .pointer (some ⟨a0, 0, none⟩)], .func (.func 38) #[.pointer (some ⟨p, 0, none⟩)] #[], .func (.func 90) #[] #[.pointer (some ⟨G6, 0, none⟩), .pointer (some ⟨G2, 0, none⟩)]] 93)) := hA.trans (hx.mono hA.size)
        have hDX := D6.below hAX
        have hFX := F6.below hAX
        have y2 := (hAX.block G2 (hlt_ G2R)).trans G2R
        have y6 := (hAX.block G6 (hlt_ R6.out)).trans R6.out
        have hBX : Below w.heap.size w (wA.alloc (.cells #[.func (.func 38) #[.pointer (some ⟨p, 0, none⟩)] #[], .func (.func 56) #[] #[.pointer (some ⟨b0, 0, none⟩), .pointer (some ⟨a0, 0, none⟩)], .func (.func 38) #[.pointer (some ⟨p, 0, none⟩)] #[], .func (.func 90) #[] #[.pointer (some ⟨G6, 0, none⟩), .pointer (some ⟨G2, 0, none⟩)]] 93)) := by rw [hG2]; exact BW.trans (hAX.mono (by have := BW.size; omega))
        rw [HSF.out]
        refine (pubturn_any _ base F p D hDX (by have := hBX.size; omega) g s s2 nx ep hFX hb a0 b0 ⟨hv, hold x1, hold x2⟩ G2 G6 y2 y6 wA.heap.size (hnew _ _)).mono ?_
        rintro e w' ⟨rfl, F', z1, z2, z3, z4⟩
        refine ⟨rfl, ⟨F', z1, z2, ((Fr.of_below hBX).wide g).trans z3 (Gr.refl _ _), fun k hk => (z4 k hk).imp id (fun x => Nat.le_trans hBX.size x)⟩, ?_, z2.c0, ?_⟩
        · exact cell_of_one (z3.keep y2 (fun e => by rcases List.mem_cons.1 e with e | e; exact ne_ty y2 hFX (by decide) e; exact hDX.not_in y2 (by decide) (by decide) (by decide) e))
        · exact z3.keep y6 (fun e => by rcases List.mem_cons.1 e with e | e; exact ne_ty y6 hFX (by decide) e; exact hDX.not_in y6 (by decide) (by decide) (by decide) e)))
    clear q1 q2 q3 D6 F6 B6 BW G2R R6 hb hv HS2 HL HB0 R0 W0 HD HF HF1 HF2 HB1 r6 b2 c6 f6 c62 f62 c63 f63 g6 g0 e2 hw6 hw2 hsz2
    refine wp_region_noPanic ?_
    refine wp_region_held_drew (S := fun w' => w'.cell? ⟨G2, 0, none⟩ = some (.pointer (some ⟨g, 0, none⟩)) ∧ w'.cell? ⟨g, 0, none⟩ = some (.pointer (some ⟨p, 0, none⟩)) ∧ w'.heap[G6]? = some (.cells (supC s2) 56 (0, 0))) (by kernel_rfl) X6.out (fun hHeld => ?_)
    refine wpAnyH_take (i := 0) (oi := { dst := some 41, op := Op.load 66 (Operand.tmp 2), type := 66, pos := "publish.go:70", after := #[], guard := none }) (v := .pointer (some ⟨g, 0, none⟩)) rfl (by kernel_rfl) (by kernel_rfl) (by kernel_rfl) (fun _ _ _ h => h) (Or.inl ⟨by rfl, by intro w hS; have hc := hS.1; go_simp⟩) hHeld ?_
    try simp only [Act.put, List.setIfInBounds_toArray, List.set_cons_zero, List.set_cons_succ]
    refine wpAnyH_take (i := 5) (oi := { dst := some 46, op := Op.load 66 (Operand.tmp 2), type := 66, pos := "publish.go:70", after := #[], guard := none }) (v := .pointer (some ⟨g, 0, none⟩)) rfl (by kernel_rfl) (by kernel_rfl) (by kernel_rfl) (fun _ _ _ h => h) (Or.inl ⟨by rfl, by intro w hS; have hc := hS.1; go_simp⟩) hHeld ?_
    try simp only [Act.put, List.setIfInBounds_toArray, List.set_cons_zero, List.set_cons_succ]
    refine wpAnyH_take (i := 9) (oi := { dst := some 50, op := Op.load 56 (Operand.tmp 6), type := 56, pos := "publish.go:70", after := #[], guard := none }) (v := .agg (supC s2)) rfl (by kernel_rfl) (by kernel_rfl) (by kernel_rfl) (fun _ _ _ h => h) (yieldsIf_load_sup (by rfl) (.tmp 6) rfl G6 rfl s2 (fun w1 hS => hS.2.2)) hHeld ?_
    try simp only [Act.put, List.setIfInBounds_toArray, List.set_cons_zero, List.set_cons_succ]
    refine wpAnyH_take (i := 11) (oi := { dst := some 52, op := Op.load 66 (Operand.tmp 2), type := 66, pos := "publish.go:70", after := #[], guard := none }) (v := .pointer (some ⟨g, 0, none⟩)) rfl (by kernel_rfl) (by kernel_rfl) (by kernel_rfl) (fun _ _ _ h => h) (Or.inl ⟨by rfl, by intro w hS; have hc := hS.1; go_simp⟩) hHeld ?_
    try simp only [Act.put, List.setIfInBounds_toArray, List.set_cons_zero, List.set_cons_succ]
    refine wpAnyH_take (i := 16) (oi := { dst := some 57, op := Op.makeFunc (Fn.func 90) #[] #[Operand.tmp 6, Operand.tmp 2], type := 87, pos := "publish.go:70", after := #[], guard := none }) (v := .func (.func 90) #[] #[.pointer (some ⟨G6, 0, none⟩), .pointer (some ⟨G2, 0, none⟩)]) rfl (by kernel_rfl) (by kernel_rfl) (by kernel_rfl) (fun _ _ _ h => h) (Or.inl ⟨by rfl, by intro w hS; go_simp⟩) hHeld ?_
    try simp only [Act.put, List.setIfInBounds_toArray, List.set_cons_zero, List.set_cons_succ]
    refine wpAnyH_take (i := 1) (oi := { dst := some 42, op := Op.nilCheck (Operand.tmp 41), type := 0, pos := "publish.go:70", after := #[{ on := 0, ground := Ground.data }], guard := none }) (v := .pointer (some ⟨g, 0, none⟩)) rfl (by kernel_rfl) (by kernel_rfl) (by kernel_rfl) (fun _ _ _ h => h) (Or.inl ⟨by rfl, by intro w hS; go_simp⟩) hHeld ?_
    try simp only [Act.put, List.setIfInBounds_toArray, List.set_cons_zero, List.set_cons_succ]
    refine wpAnyH_take (i := 6) (oi := { dst := some 47, op := Op.nilCheck (Operand.tmp 46), type := 0, pos := "publish.go:70", after := #[{ on := 5, ground := Ground.data }], guard := none }) (v := .pointer (some ⟨g, 0, none⟩)) rfl (by kernel_rfl) (by kernel_rfl) (by kernel_rfl) (fun _ _ _ h => h) (Or.inl ⟨by rfl, by intro w hS; go_simp⟩) hHeld ?_
    try simp only [Act.put, List.setIfInBounds_toArray, List.set_cons_zero, List.set_cons_succ]
    refine wpAnyH_take (i := 12) (oi := { dst := some 53, op := Op.nilCheck (Operand.tmp 52), type := 0, pos := "publish.go:70", after := #[{ on := 11, ground := Ground.data }], guard := none }) (v := .pointer (some ⟨g, 0, none⟩)) rfl (by kernel_rfl) (by kernel_rfl) (by kernel_rfl) (fun _ _ _ h => h) (Or.inl ⟨by rfl, by intro w hS; go_simp⟩) hHeld ?_
    try simp only [Act.put, List.setIfInBounds_toArray, List.set_cons_zero, List.set_cons_succ]
    refine wpAnyH_take (i := 2) (oi := { dst := some 43, op := Op.fieldAddr 97 (Operand.tmp 42) 0, type := 0, pos := "publish.go:70", after := #[{ on := 1, ground := Ground.data }], guard := none }) (v := .pointer (some ⟨g, 0, none⟩)) rfl (by kernel_rfl) (by kernel_rfl) (by kernel_rfl) (fun _ _ _ h => h) (Or.inl ⟨by rfl, by intro w hS; go_simp⟩) hHeld ?_
    try simp only [Act.put, List.setIfInBounds_toArray, List.set_cons_zero, List.set_cons_succ]
    refine wpAnyH_take (i := 7) (oi := { dst := some 48, op := Op.fieldAddr 97 (Operand.tmp 47) 0, type := 0, pos := "publish.go:70", after := #[{ on := 6, ground := Ground.data }], guard := none }) (v := .pointer (some ⟨g, 0, none⟩)) rfl (by kernel_rfl) (by kernel_rfl) (by kernel_rfl) (fun _ _ _ h => h) (Or.inl ⟨by rfl, by intro w hS; go_simp⟩) hHeld ?_
    try simp only [Act.put, List.setIfInBounds_toArray, List.set_cons_zero, List.set_cons_succ]
    refine wpAnyH_take (i := 13) (oi := { dst := some 54, op := Op.fieldAddr 97 (Operand.tmp 53) 0, type := 0, pos := "publish.go:70", after := #[{ on := 12, ground := Ground.data }], guard := none }) (v := .pointer (some ⟨g, 0, none⟩)) rfl (by kernel_rfl) (by kernel_rfl) (by kernel_rfl) (fun _ _ _ h => h) (Or.inl ⟨by rfl, by intro w hS; go_simp⟩) hHeld ?_
    try simp only [Act.put, List.setIfInBounds_toArray, List.set_cons_zero, List.set_cons_succ]
    refine wpAnyH_take (i := 3) (oi := { dst := some 44, op := Op.load 23 (Operand.tmp 43), type := 23, pos := "publish.go:70", after := #[{ on := 2, ground := Ground.data }], guard := none }) (v := .pointer (some ⟨p, 0, none⟩)) rfl (by kernel_rfl) (by kernel_rfl) (by kernel_rfl) (fun _ _ _ h => h) (Or.inl ⟨by rfl, by intro w hS; have hc := hS.2.1; go_simp⟩) hHeld ?_
    try simp only [Act.put, List.setIfInBounds_toArray, List.set_cons_zero, List.set_cons_succ]
    refine wpAnyH_take (i := 8) (oi := { dst := some 49, op := Op.load 23 (Operand.tmp 48), type := 23, pos := "publish.go:70", after := #[{ on := 7, ground := Ground.data }], guard := none }) (v := .pointer (some ⟨p, 0, none⟩)) rfl (by kernel_rfl) (by kernel_rfl) (by kernel_rfl) (fun _ _ _ h => h) (Or.inl ⟨by rfl, by intro w hS; have hc := hS.2.1; go_simp⟩) hHeld ?_
    try simp only [Act.put, List.setIfInBounds_toArray, List.set_cons_zero, List.set_cons_succ]
    refine wpAnyH_take (i := 14) (oi := { dst := some 55, op := Op.load 23 (Operand.tmp 54), type := 23, pos := "publish.go:70", after := #[{ on := 13, ground := Ground.data }], guard := none }) (v := .pointer (some ⟨p, 0, none⟩)) rfl (by kernel_rfl) (by kernel_rfl) (by kernel_rfl) (fun _ _ _ h => h) (Or.inl ⟨by rfl, by intro w hS; have hc := hS.2.1; go_simp⟩) hHeld ?_
    try simp only [Act.put, List.setIfInBounds_toArray, List.set_cons_zero, List.set_cons_succ]
    refine wpAnyH_take (i := 4) (oi := { dst := some 45, op := Op.makeFunc (Fn.func 38) #[Operand.tmp 44] #[], type := 87, pos := "publish.go:70", after := #[{ on := 3, ground := Ground.data }], guard := none }) (v := .func (.func 38) #[.pointer (some ⟨p, 0, none⟩)] #[]) rfl (by kernel_rfl) (by kernel_rfl) (by kernel_rfl) (fun _ _ _ h => h) (Or.inl ⟨by rfl, by intro w hS; go_simp⟩) hHeld ?_
    try simp only [Act.put, List.setIfInBounds_toArray, List.set_cons_zero, List.set_cons_succ]
    refine wpAnyH_take (i := 15) (oi := { dst := some 56, op := Op.makeFunc (Fn.func 38) #[Operand.tmp 55] #[], type := 87, pos := "publish.go:70", after := #[{ on := 14, ground := Ground.data }], guard := none }) (v := .func (.func 38) #[.pointer (some ⟨p, 0, none⟩)] #[]) rfl (by kernel_rfl) (by kernel_rfl) (by kernel_rfl) (fun _ _ _ h => h) (Or.inl ⟨by rfl, by intro w hS; go_simp⟩) hHeld ?_
    try simp only [Act.put, List.setIfInBounds_toArray, List.set_cons_zero, List.set_cons_succ]
    refine wpAnyH_ready (rs := [10]) (by kernel_rfl) (by simp) ?_
    refine (AllReadyH.cons (o := { dst := some 51, op := Op.call { callee := Callee.value (Operand.func 37), args := #[Operand.tmp 49, Operand.tmp 50], argTypes := #[23, 56] }, type := 93, pos := "publish.go:70", after := #[{ on := 8, ground := Ground.data }, { on := 9, ground := Ground.data }], guard := none }) rfl (fun K hK => ?_) AllReadyH.nil)
    go_simp
    go_at_call 37
    refine (laying_any _ p s2).mono ?_
    rintro e wA ⟨a0, b0, rfl, ha0, hb0, na0, nb0, hBA⟩
    have HA0 := hid ha0
    have HB0 := hid hb0
    have HBA := hid (⟨hBA.os, hBA.tape, hBA.output, hBA.size, hBA.block⟩ : Below w6.heap.size w6 wA)
    go_wp2_with fail
    refine hK.out _ _ (⟨(hBA.cell (p := ⟨G2, 0, none⟩) (hlt_c hHeld.1)).trans hHeld.1, (hBA.cell (p := ⟨g, 0, none⟩) (hlt_c hHeld.2.1)).trans hHeld.2.1, (hBA.block G6 (hlt_ hHeld.2.2)).trans hHeld.2.2⟩) (fun hHeld2 => ?_)
    clear hK K hHeld
    have hHeld := hHeld2
    clear hHeld2
    clear ha0 hb0 hBA
    try simp only [Act.put, List.setIfInBounds_toArray, List.set_cons_zero, List.set_cons_succ]
    refine wpAnyH_ready (rs := [17]) (by kernel_rfl) (by simp) ?_
    refine (AllReadyH.cons (o := { dst := some 58, op := Op.buildSlice 95 4 #[(0, Operand.tmp 45), (1, Operand.tmp 51), (2, Operand.tmp 56), (3, Operand.tmp 57)], type := 95, pos := "publish.go:70", after := #[{ on := 4, ground := Ground.data }, { on := 10, ground := Ground.data }, { on := 15, ground := Ground.data }, { on := 16, ground := Ground.data }], guard := none }) rfl (fun K hK => ?_) AllReadyH.nil)
    refine step_steps (by rfl) (.tmp 45) (.tmp 51) (.tmp 56) (.tmp 57) rfl _ _ _ _ _ _ _ _ _ _ _ _ rfl rfl rfl rfl ?_
    refine hK.out _ _ (⟨((below_new _ _).cell (p := ⟨G2, 0, none⟩) (hlt_c hHeld.1)).trans hHeld.1, ((below_new _ _).cell (p := ⟨g, 0, none⟩) (hlt_c hHeld.2.1)).trans hHeld.2.1, hold hHeld.2.2⟩) (fun hHeld2 => ?_)
    clear hK K hHeld
    have hHeld := hHeld2
    clear hHeld2
    try simp only [Act.put, List.setIfInBounds_toArray, List.set_cons_zero, List.set_cons_succ]
    refine wpAnyH_ready (rs := [18]) (by kernel_rfl) (by simp) ?_
    refine (AllReadyH.cons (o := { dst := some 59, op := Op.call { callee := Callee.value (Operand.func 36), args := #[Operand.tmp 58], argTypes := #[95] }, type := 62, pos := "publish.go:70", after := #[{ on := 17, ground := Ground.data }, { on := 10, ground := Ground.chain }], guard := none }) rfl (fun K hK => ?_) AllReadyH.nil)
    go_simp
    go_at_call 36
    refine (HT.out wA a0 b0 HBA.out HA0.out HB0.out).mono ?_
    rintro e wE ⟨rfl, hN, k7⟩
    go_wp2_with fail
    refine hK.out _ _ (k7) (fun hHeld2 => ?_)
    clear hK K hHeld
    have hHeld := hHeld2
    clear hHeld2
    try simp only [Act.put, List.setIfInBounds_toArray, List.set_cons_zero, List.set_cons_succ]
    refine wpAnyH_take (i := 19) (oi := { dst := some 4, op := Op.assign (Operand.tmp 59), type := 62, pos := "publish.go:70", after := #[{ on := 18, ground := Ground.data }, { on := 18, ground := Ground.chain }, { on := 0, ground := Ground.phase }, { on := 1, ground := Ground.phase }, { on := 2, ground := Ground.phase }, { on := 3, ground := Ground.phase }, { on := 4, ground := Ground.phase }, { on := 5, ground := Ground.phase }, { on := 6, ground := Ground.phase }, { on := 7, ground := Ground.phase }, { on := 8, ground := Ground.phase }, { on := 9, ground := Ground.phase }, { on := 10, ground := Ground.phase }, { on := 11, ground := Ground.phase }, { on := 12, ground := Ground.phase }, { on := 13, ground := Ground.phase }, { on := 14, ground := Ground.phase }, { on := 15, ground := Ground.phase }, { on := 16, ground := Ground.phase }, { on := 17, ground := Ground.phase }, { on := 18, ground := Ground.phase }], guard := none }) (v := (.int .i64 (runS D [.sync, .lay s2 0 0, .sync]).2)) rfl (by kernel_rfl) (by kernel_rfl) (by kernel_rfl) (fun _ _ _ h => h) (Or.inl ⟨by rfl, by intro w hS; go_simp⟩) hHeld ?_
    try simp only [Act.put, List.setIfInBounds_toArray, List.set_cons_zero, List.set_cons_succ]
    refine wpAnyH_done (by kernel_rfl) ?_ _
    refine NoPanic.normal ?_
    go_wp2
    go_ret
    exact ⟨rfl, hN⟩
  · have hz1 : (hd != 0) = true := by simpa using hz
    have HH2 := hid (fun w1 hf1 => HH.out w1 hf1 hz1)
    clear hh HH
    go_enter Try.func73, Try.ntmps73
    have c0 := cell_of_one R0.out
    go_wp2_with (first
      | (go_at_call 40; rw [← W0.out]; refine HL.out.mono ?_; rintro e w1 ⟨rfl, hb1⟩; have HB1 := hid hb1; have c1 := (hb1.cell (p := ⟨w.heap.size, 0, none⟩) (hlt_ R0.out)).trans c0; have HF1 := hid ((HF.out.below HB0.out).below hb1); have c2 := (show w1.cell? ⟨g, 2, none⟩ = some (.int .i64 s.ge) from HF1.out.cell 2); clear hb1)
      | (go_at_call 63; refine (HH2.out w1 HF1.out).mono ?_; rintro e w2 ⟨rfl, rfl⟩)
      | (refine wpList_load_mid_w (by rfl) 56 (.tmp 28) (by rfl) g 1 (by rfl) (supL s) _ (by exact HF1.out.range) Try.underlying56 rfl (by rw [size_super]; rfl) ?_)
      | (refine wpList_store_row (by rfl) 56 (.tmp 6) (.tmp 29) (by rfl) w1.heap.size (supC s) (by rfl) (by rfl) 56 _ (by exact hnew _ _) (supN s) (supZ s) (supO s) ?_; rw [setRow_alloc]; have r6 := hnew w1 (.cells (supC s) 56); have b2 := below_new w1 (.cells (supC s) 56); have HF2 := hid (HF1.out.below b2); have e2 := (show (w1.alloc (.cells (supC s) 56)).cell? ⟨w.heap.size, 0, none⟩ = some (.pointer (some ⟨g, 0, none⟩)) from (b2.cell (p := ⟨w.heap.size, 0, none⟩) (hlt_c c1)).trans c1); have n1 : w.heap.size ≠ w1.heap.size := Nat.ne_of_lt (hlt_c c1); have n2 : g ≠ w1.heap.size := Nat.ne_of_lt (hlt_ HF1.out); generalize hw2 : w1.alloc (.cells (supC s) 56) = w2 at *; generalize hG6 : w1.heap.size = G6 at *; have c6 := cell_sup1 r6; have f6 := frozen_of_row _ _ 1 _ _ r6; have c62 := cell_sup2 r6; have f62 := frozen_of_row _ _ 2 _ _ r6; have c63 := cell_sup3 r6; have f63 := frozen_of_row _ _ 3 _ _ r6; have g6 := HF2.out.c6; have g0 := HF2.out.c0; clear c1 c2 c0))
    generalize hw6 : ((w2.setCell ⟨G6, 1, none⟩ (.int .i64 (s.ge + 1))).setCell ⟨G6, 2, none⟩ (.int .i64 nx)).setCell ⟨G6, 3, none⟩ (.int .i64 hd) = w6 at *
    have q1 := heap_setCell_same w2 G6 1 _ _ (.int .i64 (s.ge + 1)) r6
    have q2 := heap_setCell_same _ G6 2 _ _ (.int .i64 nx) q1
    have q3 := heap_setCell_same _ G6 3 _ _ (.int .i64 hd) q2
    rw [hw6] at q3
    have R6 := hid (show w6.heap[G6]? = some (.cells (supC s2) 56 (0, 0)) by rw [q3, HS2.out]; rfl)
    have hsz2 : w1.heap.size ≤ w2.heap.size := by rw [← hw2]; simp
    have B6 : Below w1.heap.size w1 w6 := by
      rw [← hw6, hG6]
      exact (((b2.setCell (p := ⟨G6, 1, none⟩) (Nat.le_refl _) _).setCell (p := ⟨G6, 2, none⟩) (Nat.le_refl _) _).setCell (p := ⟨G6, 3, none⟩) (Nat.le_refl _) _)
    have BW := HB0.out.trans ((HB1.out.trans (B6.mono HB1.out.size)).mono HB0.out.size)
    have D6 := HD.out.below BW
    have F6 := HF.out.below BW
    have G2R : w6.heap[w.heap.size]? = some (.cells #[.pointer (some ⟨g, 0, none⟩)] 66 (0, 0)) := by
      have z := (HB1.out.block _ (hlt_ R0.out)).trans R0.out
      exact (B6.block _ (hlt_ z)).trans z
    generalize hG2 : w.heap.size = G2 at *
    have X6 := hid (show w6.drew.cell? ⟨G2, 0, none⟩ = some (.pointer (some ⟨g, 0, none⟩)) ∧ w6.drew.cell? ⟨g, 0, none⟩ = some (.pointer (some ⟨p, 0, none⟩)) ∧ w6.drew.heap[G6]? = some (.cells (supC s2) 56 (0, 0)) from ⟨cell_of_one G2R, F6.c0, R6.out⟩)
    have HT := hid (fun (wA : World) (a0 b0 : Nat) (hA : Below w6.heap.size w6 wA) (x1 : wA.heap[a0]? = some (.cells #[.pointer (some ⟨p, 0, none⟩)] 23 (0, 0))) (x2 : wA.heap[b0]? = some (.cells (supC s2) 56 (0, 0))) =>
      (show Calls Try.prog 36 #[.slice (some ⟨wA.heap.size, 0, none⟩) 4 4] (wA.alloc (.cells #[.func (.func 38) #[.pointer (some ⟨p, 0, none⟩)] #[], .func (.func 56) #[] #[.pointer (some ⟨b0, 0, none⟩), .pointer (some ⟨a0, 0, none⟩)], .func (.func 38) #[.pointer (some ⟨p, 0, none⟩)] #[], .func (.func 90) #[] #[.pointer (some ⟨G6, 0, none⟩), .pointer (some ⟨G2, 0, none⟩)]] 93)) fun e w' => e = .returned (.int .i64 (runS D [.sync, .lay s2 0 0, .sync]).2) ∧ NxF base F p g w (runS D [.sync, .lay s2 0 0, .sync]).1 sF nx ep w' ∧ (w'.cell? ⟨G2, 0, none⟩ = some (.pointer (some ⟨g, 0, none⟩)) ∧ w'.cell? ⟨g, 0, none⟩ = some (.pointer (some ⟨p, 0, none⟩)) ∧ w'.heap[G6]? = some (.cells (supC s2) 56 (0, 0))) from by
        have hx := below_new wA (.cells #[.func (.func 38) #[.pointer (some ⟨p, 0, none⟩)] #[], .func (.func 56) #[] #[.pointer (some ⟨b0, 0, none⟩), .pointer (some ⟨a0, 0, none⟩)], .func (.func 38) #[.pointer (some ⟨p, 0, none⟩)] #[], .func (.func 90) #[] #[.pointer (some ⟨G6, 0, none⟩), .pointer (some ⟨G2, 0, none⟩)]] 93)
        have hAX : Below w6.heap.size w6 (wA.alloc (.cells #[.func (.func 38) #[.pointer (some ⟨p, 0, none⟩)] #[], .func (.func 56) #[] #[.pointer (some ⟨b0, 0, none⟩), .pointer (some ⟨a0, 0, none⟩)], .func (.func 38) #[.pointer (some ⟨p, 0, none⟩)] #[], .func (.func 90) #[] #[.pointer (some ⟨G6, 0, none⟩), .pointer (some ⟨G2, 0, none⟩)]] 93)) := hA.trans (hx.mono hA.size)
        have hDX := D6.below hAX
        have hFX := F6.below hAX
        have y2 := (hAX.block G2 (hlt_ G2R)).trans G2R
        have y6 := (hAX.block G6 (hlt_ R6.out)).trans R6.out
        have hBX : Below w.heap.size w (wA.alloc (.cells #[.func (.func 38) #[.pointer (some ⟨p, 0, none⟩)] #[], .func (.func 56) #[] #[.pointer (some ⟨b0, 0, none⟩), .pointer (some ⟨a0, 0, none⟩)], .func (.func 38) #[.pointer (some ⟨p, 0, none⟩)] #[], .func (.func 90) #[] #[.pointer (some ⟨G6, 0, none⟩), .pointer (some ⟨G2, 0, none⟩)]] 93)) := by rw [hG2]; exact BW.trans (hAX.mono (by have := BW.size; omega))
        rw [HSF.out]
        refine (pubturn_any _ base F p D hDX (by have := hBX.size; omega) g s s2 nx ep hFX hb a0 b0 ⟨hv, hold x1, hold x2⟩ G2 G6 y2 y6 wA.heap.size (hnew _ _)).mono ?_
        rintro e w' ⟨rfl, F', z1, z2, z3, z4⟩
        refine ⟨rfl, ⟨F', z1, z2, ((Fr.of_below hBX).wide g).trans z3 (Gr.refl _ _), fun k hk => (z4 k hk).imp id (fun x => Nat.le_trans hBX.size x)⟩, ?_, z2.c0, ?_⟩
        · exact cell_of_one (z3.keep y2 (fun e => by rcases List.mem_cons.1 e with e | e; exact ne_ty y2 hFX (by decide) e; exact hDX.not_in y2 (by decide) (by decide) (by decide) e))
        · exact z3.keep y6 (fun e => by rcases List.mem_cons.1 e with e | e; exact ne_ty y6 hFX (by decide) e; exact hDX.not_in y6 (by decide) (by decide) (by decide) e)))
    clear q1 q2 q3 D6 F6 B6 BW G2R R6 hb hv HS2 HL HB0 R0 W0 HD HF HF1 HF2 HB1 r6 b2 c6 f6 c62 f62 c63 f63 g6 g0 e2 hw6 hw2 hsz2
    refine wp_region_noPanic ?_
    refine wp_region_held_drew (S := fun w' => w'.cell? ⟨G2, 0, none⟩ = some (.pointer (some ⟨g, 0, none⟩)) ∧ w'.cell? ⟨g, 0, none⟩ = some (.pointer (some ⟨p, 0, none⟩)) ∧ w'.heap[G6]? = some (.cells (supC s2) 56 (0, 0))) (by kernel_rfl) X6.out (fun hHeld => ?_)
    refine wpAnyH_take (i := 0) (oi := { dst := some 41, op := Op.load 66 (Operand.tmp 2), type := 66, pos := "publish.go:70", after := #[], guard := none }) (v := .pointer (some ⟨g, 0, none⟩)) rfl (by kernel_rfl) (by kernel_rfl) (by kernel_rfl) (fun _ _ _ h => h) (Or.inl ⟨by rfl, by intro w hS; have hc := hS.1; go_simp⟩) hHeld ?_
    try simp only [Act.put, List.setIfInBounds_toArray, List.set_cons_zero, List.set_cons_succ]
    refine wpAnyH_take (i := 5) (oi := { dst := some 46, op := Op.load 66 (Operand.tmp 2), type := 66, pos := "publish.go:70", after := #[], guard := none }) (v := .pointer (some ⟨g, 0, none⟩)) rfl (by kernel_rfl) (by kernel_rfl) (by kernel_rfl) (fun _ _ _ h => h) (Or.inl ⟨by rfl, by intro w hS; have hc := hS.1; go_simp⟩) hHeld ?_
    try simp only [Act.put, List.setIfInBounds_toArray, List.set_cons_zero, List.set_cons_succ]
    refine wpAnyH_take (i := 9) (oi := { dst := some 50, op := Op.load 56 (Operand.tmp 6), type := 56, pos := "publish.go:70", after := #[], guard := none }) (v := .agg (supC s2)) rfl (by kernel_rfl) (by kernel_rfl) (by kernel_rfl) (fun _ _ _ h => h) (yieldsIf_load_sup (by rfl) (.tmp 6) rfl G6 rfl s2 (fun w1 hS => hS.2.2)) hHeld ?_
    try simp only [Act.put, List.setIfInBounds_toArray, List.set_cons_zero, List.set_cons_succ]
    refine wpAnyH_take (i := 11) (oi := { dst := some 52, op := Op.load 66 (Operand.tmp 2), type := 66, pos := "publish.go:70", after := #[], guard := none }) (v := .pointer (some ⟨g, 0, none⟩)) rfl (by kernel_rfl) (by kernel_rfl) (by kernel_rfl) (fun _ _ _ h => h) (Or.inl ⟨by rfl, by intro w hS; have hc := hS.1; go_simp⟩) hHeld ?_
    try simp only [Act.put, List.setIfInBounds_toArray, List.set_cons_zero, List.set_cons_succ]
    refine wpAnyH_take (i := 16) (oi := { dst := some 57, op := Op.makeFunc (Fn.func 90) #[] #[Operand.tmp 6, Operand.tmp 2], type := 87, pos := "publish.go:70", after := #[], guard := none }) (v := .func (.func 90) #[] #[.pointer (some ⟨G6, 0, none⟩), .pointer (some ⟨G2, 0, none⟩)]) rfl (by kernel_rfl) (by kernel_rfl) (by kernel_rfl) (fun _ _ _ h => h) (Or.inl ⟨by rfl, by intro w hS; go_simp⟩) hHeld ?_
    try simp only [Act.put, List.setIfInBounds_toArray, List.set_cons_zero, List.set_cons_succ]
    refine wpAnyH_take (i := 1) (oi := { dst := some 42, op := Op.nilCheck (Operand.tmp 41), type := 0, pos := "publish.go:70", after := #[{ on := 0, ground := Ground.data }], guard := none }) (v := .pointer (some ⟨g, 0, none⟩)) rfl (by kernel_rfl) (by kernel_rfl) (by kernel_rfl) (fun _ _ _ h => h) (Or.inl ⟨by rfl, by intro w hS; go_simp⟩) hHeld ?_
    try simp only [Act.put, List.setIfInBounds_toArray, List.set_cons_zero, List.set_cons_succ]
    refine wpAnyH_take (i := 6) (oi := { dst := some 47, op := Op.nilCheck (Operand.tmp 46), type := 0, pos := "publish.go:70", after := #[{ on := 5, ground := Ground.data }], guard := none }) (v := .pointer (some ⟨g, 0, none⟩)) rfl (by kernel_rfl) (by kernel_rfl) (by kernel_rfl) (fun _ _ _ h => h) (Or.inl ⟨by rfl, by intro w hS; go_simp⟩) hHeld ?_
    try simp only [Act.put, List.setIfInBounds_toArray, List.set_cons_zero, List.set_cons_succ]
    refine wpAnyH_take (i := 12) (oi := { dst := some 53, op := Op.nilCheck (Operand.tmp 52), type := 0, pos := "publish.go:70", after := #[{ on := 11, ground := Ground.data }], guard := none }) (v := .pointer (some ⟨g, 0, none⟩)) rfl (by kernel_rfl) (by kernel_rfl) (by kernel_rfl) (fun _ _ _ h => h) (Or.inl ⟨by rfl, by intro w hS; go_simp⟩) hHeld ?_
    try simp only [Act.put, List.setIfInBounds_toArray, List.set_cons_zero, List.set_cons_succ]
    refine wpAnyH_take (i := 2) (oi := { dst := some 43, op := Op.fieldAddr 97 (Operand.tmp 42) 0, type := 0, pos := "publish.go:70", after := #[{ on := 1, ground := Ground.data }], guard := none }) (v := .pointer (some ⟨g, 0, none⟩)) rfl (by kernel_rfl) (by kernel_rfl) (by kernel_rfl) (fun _ _ _ h => h) (Or.inl ⟨by rfl, by intro w hS; go_simp⟩) hHeld ?_
    try simp only [Act.put, List.setIfInBounds_toArray, List.set_cons_zero, List.set_cons_succ]
    refine wpAnyH_take (i := 7) (oi := { dst := some 48, op := Op.fieldAddr 97 (Operand.tmp 47) 0, type := 0, pos := "publish.go:70", after := #[{ on := 6, ground := Ground.data }], guard := none }) (v := .pointer (some ⟨g, 0, none⟩)) rfl (by kernel_rfl) (by kernel_rfl) (by kernel_rfl) (fun _ _ _ h => h) (Or.inl ⟨by rfl, by intro w hS; go_simp⟩) hHeld ?_
    try simp only [Act.put, List.setIfInBounds_toArray, List.set_cons_zero, List.set_cons_succ]
    refine wpAnyH_take (i := 13) (oi := { dst := some 54, op := Op.fieldAddr 97 (Operand.tmp 53) 0, type := 0, pos := "publish.go:70", after := #[{ on := 12, ground := Ground.data }], guard := none }) (v := .pointer (some ⟨g, 0, none⟩)) rfl (by kernel_rfl) (by kernel_rfl) (by kernel_rfl) (fun _ _ _ h => h) (Or.inl ⟨by rfl, by intro w hS; go_simp⟩) hHeld ?_
    try simp only [Act.put, List.setIfInBounds_toArray, List.set_cons_zero, List.set_cons_succ]
    refine wpAnyH_take (i := 3) (oi := { dst := some 44, op := Op.load 23 (Operand.tmp 43), type := 23, pos := "publish.go:70", after := #[{ on := 2, ground := Ground.data }], guard := none }) (v := .pointer (some ⟨p, 0, none⟩)) rfl (by kernel_rfl) (by kernel_rfl) (by kernel_rfl) (fun _ _ _ h => h) (Or.inl ⟨by rfl, by intro w hS; have hc := hS.2.1; go_simp⟩) hHeld ?_
    try simp only [Act.put, List.setIfInBounds_toArray, List.set_cons_zero, List.set_cons_succ]
    refine wpAnyH_take (i := 8) (oi := { dst := some 49, op := Op.load 23 (Operand.tmp 48), type := 23, pos := "publish.go:70", after := #[{ on := 7, ground := Ground.data }], guard := none }) (v := .pointer (some ⟨p, 0, none⟩)) rfl (by kernel_rfl) (by kernel_rfl) (by kernel_rfl) (fun _ _ _ h => h) (Or.inl ⟨by rfl, by intro w hS; have hc := hS.2.1; go_simp⟩) hHeld ?_
    try simp only [Act.put, List.setIfInBounds_toArray, List.set_cons_zero, List.set_cons_succ]
    refine wpAnyH_take (i := 14) (oi := { dst := some 55, op := Op.load 23 (Operand.tmp 54), type := 23, pos := "publish.go:70", after := #[{ on := 13, ground := Ground.data }], guard := none }) (v := .pointer (some ⟨p, 0, none⟩)) rfl (by kernel_rfl) (by kernel_rfl) (by kernel_rfl) (fun _ _ _ h => h) (Or.inl ⟨by rfl, by intro w hS; have hc := hS.2.1; go_simp⟩) hHeld ?_
    try simp only [Act.put, List.setIfInBounds_toArray, List.set_cons_zero, List.set_cons_succ]
    refine wpAnyH_take (i := 4) (oi := { dst := some 45, op := Op.makeFunc (Fn.func 38) #[Operand.tmp 44] #[], type := 87, pos := "publish.go:70", after := #[{ on := 3, ground := Ground.data }], guard := none }) (v := .func (.func 38) #[.pointer (some ⟨p, 0, none⟩)] #[]) rfl (by kernel_rfl) (by kernel_rfl) (by kernel_rfl) (fun _ _ _ h => h) (Or.inl ⟨by rfl, by intro w hS; go_simp⟩) hHeld ?_
    try simp only [Act.put, List.setIfInBounds_toArray, List.set_cons_zero, List.set_cons_succ]
    refine wpAnyH_take (i := 15) (oi := { dst := some 56, op := Op.makeFunc (Fn.func 38) #[Operand.tmp 55] #[], type := 87, pos := "publish.go:70", after := #[{ on := 14, ground := Ground.data }], guard := none }) (v := .func (.func 38) #[.pointer (some ⟨p, 0, none⟩)] #[]) rfl (by kernel_rfl) (by kernel_rfl) (by kernel_rfl) (fun _ _ _ h => h) (Or.inl ⟨by rfl, by intro w hS; go_simp⟩) hHeld ?_
    try simp only [Act.put, List.setIfInBounds_toArray, List.set_cons_zero, List.set_cons_succ]
    refine wpAnyH_ready (rs := [10]) (by kernel_rfl) (by simp) ?_
    refine (AllReadyH.cons (o := { dst := some 51, op := Op.call { callee := Callee.value (Operand.func 37), args := #[Operand.tmp 49, Operand.tmp 50], argTypes := #[23, 56] }, type := 93, pos := "publish.go:70", after := #[{ on := 8, ground := Ground.data }, { on := 9, ground := Ground.data }], guard := none }) rfl (fun K hK => ?_) AllReadyH.nil)
    go_simp
    go_at_call 37
    refine (laying_any _ p s2).mono ?_
    rintro e wA ⟨a0, b0, rfl, ha0, hb0, na0, nb0, hBA⟩
    have HA0 := hid ha0
    have HB0 := hid hb0
    have HBA := hid (⟨hBA.os, hBA.tape, hBA.output, hBA.size, hBA.block⟩ : Below w6.heap.size w6 wA)
    go_wp2_with fail
    refine hK.out _ _ (⟨(hBA.cell (p := ⟨G2, 0, none⟩) (hlt_c hHeld.1)).trans hHeld.1, (hBA.cell (p := ⟨g, 0, none⟩) (hlt_c hHeld.2.1)).trans hHeld.2.1, (hBA.block G6 (hlt_ hHeld.2.2)).trans hHeld.2.2⟩) (fun hHeld2 => ?_)
    clear hK K hHeld
    have hHeld := hHeld2
    clear hHeld2
    clear ha0 hb0 hBA
    try simp only [Act.put, List.setIfInBounds_toArray, List.set_cons_zero, List.set_cons_succ]
    refine wpAnyH_ready (rs := [17]) (by kernel_rfl) (by simp) ?_
    refine (AllReadyH.cons (o := { dst := some 58, op := Op.buildSlice 95 4 #[(0, Operand.tmp 45), (1, Operand.tmp 51), (2, Operand.tmp 56), (3, Operand.tmp 57)], type := 95, pos := "publish.go:70", after := #[{ on := 4, ground := Ground.data }, { on := 10, ground := Ground.data }, { on := 15, ground := Ground.data }, { on := 16, ground := Ground.data }], guard := none }) rfl (fun K hK => ?_) AllReadyH.nil)
    refine step_steps (by rfl) (.tmp 45) (.tmp 51) (.tmp 56) (.tmp 57) rfl _ _ _ _ _ _ _ _ _ _ _ _ rfl rfl rfl rfl ?_
    refine hK.out _ _ (⟨((below_new _ _).cell (p := ⟨G2, 0, none⟩) (hlt_c hHeld.1)).trans hHeld.1, ((below_new _ _).cell (p := ⟨g, 0, none⟩) (hlt_c hHeld.2.1)).trans hHeld.2.1, hold hHeld.2.2⟩) (fun hHeld2 => ?_)
    clear hK K hHeld
    have hHeld := hHeld2
    clear hHeld2
    try simp only [Act.put, List.setIfInBounds_toArray, List.set_cons_zero, List.set_cons_succ]
    refine wpAnyH_ready (rs := [18]) (by kernel_rfl) (by simp) ?_
    refine (AllReadyH.cons (o := { dst := some 59, op := Op.call { callee := Callee.value (Operand.func 36), args := #[Operand.tmp 58], argTypes := #[95] }, type := 62, pos := "publish.go:70", after := #[{ on := 17, ground := Ground.data }, { on := 10, ground := Ground.chain }], guard := none }) rfl (fun K hK => ?_) AllReadyH.nil)
    go_simp
    go_at_call 36
    refine (HT.out wA a0 b0 HBA.out HA0.out HB0.out).mono ?_
    rintro e wE ⟨rfl, hN, k7⟩
    go_wp2_with fail
    refine hK.out _ _ (k7) (fun hHeld2 => ?_)
    clear hK K hHeld
    have hHeld := hHeld2
    clear hHeld2
    try simp only [Act.put, List.setIfInBounds_toArray, List.set_cons_zero, List.set_cons_succ]
    refine wpAnyH_take (i := 19) (oi := { dst := some 4, op := Op.assign (Operand.tmp 59), type := 62, pos := "publish.go:70", after := #[{ on := 18, ground := Ground.data }, { on := 18, ground := Ground.chain }, { on := 0, ground := Ground.phase }, { on := 1, ground := Ground.phase }, { on := 2, ground := Ground.phase }, { on := 3, ground := Ground.phase }, { on := 4, ground := Ground.phase }, { on := 5, ground := Ground.phase }, { on := 6, ground := Ground.phase }, { on := 7, ground := Ground.phase }, { on := 8, ground := Ground.phase }, { on := 9, ground := Ground.phase }, { on := 10, ground := Ground.phase }, { on := 11, ground := Ground.phase }, { on := 12, ground := Ground.phase }, { on := 13, ground := Ground.phase }, { on := 14, ground := Ground.phase }, { on := 15, ground := Ground.phase }, { on := 16, ground := Ground.phase }, { on := 17, ground := Ground.phase }, { on := 18, ground := Ground.phase }], guard := none }) (v := (.int .i64 (runS D [.sync, .lay s2 0 0, .sync]).2)) rfl (by kernel_rfl) (by kernel_rfl) (by kernel_rfl) (fun _ _ _ h => h) (Or.inl ⟨by rfl, by intro w hS; go_simp⟩) hHeld ?_
    try simp only [Act.put, List.setIfInBounds_toArray, List.set_cons_zero, List.set_cons_succ]
    refine wpAnyH_done (by kernel_rfl) ?_ _
    refine NoPanic.normal ?_
    go_wp2
    go_ret
    exact ⟨rfl, hN⟩
end Go.Proofs.Ytihkjfbhmlfonaa
