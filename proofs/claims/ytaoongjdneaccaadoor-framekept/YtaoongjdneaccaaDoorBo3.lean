import Derived.Test.YtaoongjdneaccaaDoorBo2
import Derived.Test.YtaoongjdneaccaaDoorO7
namespace Go.Proofs.YtaoongjdneaccaaDoor
set_option linter.unusedVariables false
set_option linter.unusedSimpArgs false
open Go.RowKit
attribute [local go_sem ↓] Go.wp_at_zero Go.wp_at_succ

/-- A call of the script. -/
structure Tri where
  ca : Int
  ki : Int
  pg : Int
  a : List Int
  b : List Int
  s : Sup
def triL (ca ki pg : Int) (va vb : Value) (s : Sup) : List Value := [.int .i64 ca, .int .i64 ki, .int .i64 pg, va, vb, .int .i64 s.wd, .int .i64 s.ge, .int .i64 s.ma, .int .i64 s.hd, .int .i64 s.pg]
def triC (ca ki pg : Int) (va vb : Value) (s : Sup) : Array Value := (triL ca ki pg va vb s).toArray
/-- The list that a call hands out. -/
def ansL (ca ki pg : Int) (a : List Int) (s : Sup) : List Int := if ca = 0 then (packF ki pg a).1 else if ca = 1 then (unpackF pg a).2.1 else if ca = 2 then (superF s).1 else []
theorem new_own {w w' : World} {v : Value} {zs : List Int} (h : New w w' v zs) (hl : zs.length ≤ 1000000) : Own w' w.heap.size v zs := by
  rcases h with ⟨rfl, rfl⟩ | ⟨_, g, rfl, hg, hh⟩
  · exact Own.nil _ _
  · exact own_in (rest := []) (by unfold In; rw [List.append_nil]; exact hh) hg (Nat.le_refl _) (by unfold maxLen; omega) (by simp)
theorem own_up {w : World} {base b : Nat} {v : Value} {zs : List Int} (h : Own w b v zs) (hb : base ≤ b) : Own w base v zs :=
  ⟨h.1, h.2.imp id fun ⟨g, cap, cur, e, hg, r⟩ => ⟨g, cap, cur, e, Nat.le_trans hb hg, r⟩⟩
theorem sup_range {w : World} {g : Nat} {ca ki pg : Int} {va vb : Value} {s : Sup} (h : w.heap[g]? = some (.cells (triC ca ki pg va vb s) 33 (0, 0))) : w.rangeAt g 5 (supC s).toList := fun j v hv => by
  rw [cell_of_row _ _ _ _ _ _ h]
  have hj := (List.getElem?_eq_some_iff.1 hv).1
  have h5 : j < 5 := by simpa [supC] using hj
  match j, h5 with
  | 0, _ => exact hv
  | 1, _ => exact hv
  | 2, _ => exact hv
  | 3, _ => exact hv
  | 4, _ => exact hv
theorem packF_len (k p : Int) (l : List Int) : (packF k p l).1.length ≤ 1000000 := by
  unfold packF
  repeat' split
  · simp
  · simp
  · simp
  · rename_i h1 h2 h3
    show (pageP k p l).length ≤ _
    rw [pageP_len k p l (by omega)]; omega
theorem superF_len (s : Sup) : (superF s).1.length ≤ 1000000 := by
  unfold superF
  split
  · show (secS s ++ List.replicate 192 0).length ≤ _
    rw [List.length_append, secS_len, List.length_replicate]; omega
  · simp
theorem unpackF_len (p : Int) (r : List Int) : (unpackF p r).2.1.length ≤ 256 := by
  unfold unpackF
  repeat' split
  all_goals first | (simp; done) | skip
  rename_i h1 h2 h3 h4 h5 h6 h7
  show ((r.drop 6).take _).length ≤ _
  rw [List.length_take, List.length_drop]
  omega
theorem ansL_len (ca ki pg : Int) (a : List Int) (s : Sup) : (ansL ca ki pg a s).length ≤ 1000000 := by
  unfold ansL
  split
  · exact packF_len _ _ _
  split
  · exact Nat.le_trans (unpackF_len _ _) (by omega)
  split
  · exact superF_len _
  · simp
set_option maxRecDepth 100000 in
set_option maxHeartbeats 2000000 in
theorem again0 (w : World) (hGl : Gl w) (ca0 ki pg : Int) (h0 : ca0 = 0) (a : List Int) (a8 : Byts a) (s : Sup) (sa : Option Addr) (ca : Nat) (hA : Src w sa ca a) (hlen : a.length ≤ 140737488352000) (vb : Value) :
    Calls Tryd.prog 8 #[.agg (triC ca0 ki pg (.slice sa a.length ca) vb s)] w fun e w' => ∃ v m, e = .returned (.tuple #[v, m]) ∧ Own w' w.heap.size v (ansL ca0 ki pg a s) ∧ Own w' w.heap.size m (ansL ca0 ki pg a s) ∧ Below w.heap.size w w' := by
  have B1 := below_new w (.cells (triC ca0 ki pg (.slice sa a.length ca) vb s) 33)
  have r0 := hnew w (.cells (triC ca0 ki pg (.slice sa a.length ca) vb s) 33)
  have c0 : (w.alloc (.cells (triC ca0 ki pg (.slice sa a.length ca) vb s) 33)).cell? ⟨w.heap.size, 0, none⟩ = some (.int .i64 ca0) := by rw [cell_of_row _ _ _ _ _ _ r0]; rfl
  have C1 := hid (show (w.alloc (.cells (triC ca0 ki pg (.slice sa a.length ca) vb s) 33)).cell? ⟨w.heap.size, 1, none⟩ = some (.int .i64 ki) by rw [cell_of_row _ _ _ _ _ _ r0]; rfl)
  have C2 := hid (show (w.alloc (.cells (triC ca0 ki pg (.slice sa a.length ca) vb s) 33)).cell? ⟨w.heap.size, 2, none⟩ = some (.int .i64 pg) by rw [cell_of_row _ _ _ _ _ _ r0]; rfl)
  have C3 := hid (show (w.alloc (.cells (triC ca0 ki pg (.slice sa a.length ca) vb s) 33)).cell? ⟨w.heap.size, 3, none⟩ = some (.slice sa a.length ca) by rw [cell_of_row _ _ _ _ _ _ r0]; rfl)
  have hA1 := hA.below B1 (Nat.le_refl _)
  have G1 := hGl.below B1 hGl.1
  have HG := hid (show w.heap.size < (w.alloc (.cells (triC ca0 ki pg (.slice sa a.length ca) vb s) 33)).heap.size by simp)
  have R0 := hid r0
  clear r0
  subst h0
  have KP := hid (fun (wz : World) (sp : Option Addr) (cp : Nat) (hz : Src wz sp cp a) => pack_any wz ki pg a a8 sp cp hz)
  have KQ := hid (fun (wz : World) (hz : Gl wz) (hs : Src wz sa ca a) => qPack_any wz hz ki pg a a8 sa ca hs)
  have HL := hid (show ansL 0 ki pg a s = (packF ki pg a).1 from rfl)
  have HN := hid (packF_len ki pg a)
  generalize packF ki pg a = P at *
  obtain ⟨L, E⟩ := P
  simp only at KP KQ HL HN
  rw [HL.out]
  go_enter Tryd.func8, Tryd.ntmps8
  go_wp2
  generalize w.alloc (.cells (triC 0 ki pg (.slice sa a.length ca) vb s) 33) = W1 at *
  generalize hg : w.heap.size = g at *
  have Hg := hid hg
  clear hg
  refine wp_region_noPanic ?_
  refine wp_region_held_drew (S := fun w' => Below W1.heap.size W1 w') (by kernel_rfl) (Below.refl _ _).drew (fun hHeld => ?_)
  refine wpAnyH_take (i := 0) (oi := { dst := some 23, op := Op.fieldAddr 33 (Operand.tmp 1) 1, type := 0, pos := "law.go:580", after := #[], guard := none }) (v := .pointer (some ⟨g, 1, none⟩)) rfl (by kernel_rfl) (by kernel_rfl) (by kernel_rfl) (fun _ _ _ h => h) (Or.inl ⟨by rfl, by intro w hS; go_simp⟩) hHeld ?_
  try simp only [Act.put, List.setIfInBounds_toArray, List.set_cons_zero, List.set_cons_succ]
  refine wpAnyH_take (i := 2) (oi := { dst := some 25, op := Op.fieldAddr 33 (Operand.tmp 1) 2, type := 0, pos := "law.go:580", after := #[], guard := none }) (v := .pointer (some ⟨g, 2, none⟩)) rfl (by kernel_rfl) (by kernel_rfl) (by kernel_rfl) (fun _ _ _ h => h) (Or.inl ⟨by rfl, by intro w hS; go_simp⟩) hHeld ?_
  try simp only [Act.put, List.setIfInBounds_toArray, List.set_cons_zero, List.set_cons_succ]
  refine wpAnyH_take (i := 4) (oi := { dst := some 27, op := Op.fieldAddr 33 (Operand.tmp 1) 3, type := 0, pos := "law.go:580", after := #[], guard := none }) (v := .pointer (some ⟨g, 3, none⟩)) rfl (by kernel_rfl) (by kernel_rfl) (by kernel_rfl) (fun _ _ _ h => h) (Or.inl ⟨by rfl, by intro w hS; go_simp⟩) hHeld ?_
  try simp only [Act.put, List.setIfInBounds_toArray, List.set_cons_zero, List.set_cons_succ]
  refine wpAnyH_take (i := 1) (oi := { dst := some 24, op := Op.load 3 (Operand.tmp 23), type := 3, pos := "law.go:580", after := #[{ on := 0, ground := Ground.data }], guard := none }) (v := .int .i64 ki) rfl (by kernel_rfl) (by kernel_rfl) (by kernel_rfl) (fun _ _ _ h => h) (Or.inl ⟨by rfl, by intro w hS; have hc := hS.cell (p := ⟨g, 1, none⟩) HG.out |>.trans C1.out; go_simp⟩) hHeld ?_
  try simp only [Act.put, List.setIfInBounds_toArray, List.set_cons_zero, List.set_cons_succ]
  refine wpAnyH_take (i := 3) (oi := { dst := some 26, op := Op.load 3 (Operand.tmp 25), type := 3, pos := "law.go:580", after := #[{ on := 2, ground := Ground.data }], guard := none }) (v := .int .i64 pg) rfl (by kernel_rfl) (by kernel_rfl) (by kernel_rfl) (fun _ _ _ h => h) (Or.inl ⟨by rfl, by intro w hS; have hc := hS.cell (p := ⟨g, 2, none⟩) HG.out |>.trans C2.out; go_simp⟩) hHeld ?_
  try simp only [Act.put, List.setIfInBounds_toArray, List.set_cons_zero, List.set_cons_succ]
  refine wpAnyH_take (i := 5) (oi := { dst := some 28, op := Op.load 29 (Operand.tmp 27), type := 29, pos := "law.go:580", after := #[{ on := 4, ground := Ground.data }], guard := none }) (v := .slice sa a.length ca) rfl (by kernel_rfl) (by kernel_rfl) (by kernel_rfl) (fun _ _ _ h => h) (Or.inl ⟨by rfl, by intro w hS; have hc := hS.cell (p := ⟨g, 3, none⟩) HG.out |>.trans C3.out; go_simp⟩) hHeld ?_
  try simp only [Act.put, List.setIfInBounds_toArray, List.set_cons_zero, List.set_cons_succ]
  refine wpAnyH_ready (rs := [6]) (by kernel_rfl) (by simp) ?_
  refine (AllReadyH.cons (o := { dst := some 29, op := Op.call { callee := Callee.value (Operand.func 13), args := #[Operand.tmp 28], argTypes := #[29] }, type := 29, pos := "law.go:580", after := #[{ on := 5, ground := Ground.data }], guard := none }) rfl (fun K hK => ?_) AllReadyH.nil)
  go_simp
  go_at_call 13
  refine (copied_any _ a _ _ (hA1.below hHeld (Nat.le_refl _)) (by omega)).mono ?_
  rintro e w6 ⟨v6, rfl, o6, hb6⟩
  obtain ⟨s6, c6, rfl, hs6, _⟩ := o6.form
  go_wp2_with fail
  refine hK.out _ _ (hHeld.trans (hb6.mono hHeld.size)) (fun hHeld2 => ?_)
  clear hK K hHeld
  have hHeld := hHeld2
  clear hHeld2
  try simp only [Act.put, List.setIfInBounds_toArray, List.set_cons_zero, List.set_cons_succ]
  refine wpAnyH_ready (rs := [7]) (by kernel_rfl) (by simp) ?_
  refine (AllReadyH.cons (o := { dst := some 30, op := Op.call { callee := Callee.value (Operand.func 11), args := #[Operand.tmp 24, Operand.tmp 26, Operand.tmp 29], argTypes := #[3, 3, 29] }, type := 40, pos := "law.go:580", after := #[{ on := 1, ground := Ground.data }, { on := 3, ground := Ground.data }, { on := 6, ground := Ground.data }, { on := 6, ground := Ground.chain }], guard := none }) rfl (fun K hK => ?_) AllReadyH.nil)
  go_simp
  go_at_call 11
  refine (KP.out _ _ _ hs6).mono ?_
  rintro e w7 ⟨v7, rfl, n7, hb7⟩
  go_wp2_with fail
  refine hK.out _ _ (hHeld.trans (hb7.mono hHeld.size)) (fun hHeld2 => ?_)
  clear hK K hHeld
  have hHeld := hHeld2
  clear hHeld2
  try simp only [Act.put, List.setIfInBounds_toArray, List.set_cons_zero, List.set_cons_succ]
  refine wpAnyH_take (i := 8) (oi := { dst := some 22, op := Op.move (Operand.tmp 30), type := 40, pos := "law.go:580", after := #[{ on := 7, ground := Ground.data }], guard := none }) (v := .tuple #[v7, .int .i64 E]) rfl (by kernel_rfl) (by kernel_rfl) (by kernel_rfl) (fun _ _ _ h => h) (Or.inl ⟨by rfl, by intro w hS; go_simp⟩) hHeld ?_
  try simp only [Act.put, List.setIfInBounds_toArray, List.set_cons_zero, List.set_cons_succ]
  refine wpAnyH_take (i := 9) (oi := { dst := some 31, op := Op.extract (Operand.tmp 22) 0, type := 29, pos := "law.go:580", after := #[{ on := 8, ground := Ground.data }], guard := none }) (v := v7) rfl (by kernel_rfl) (by kernel_rfl) (by kernel_rfl) (fun _ _ _ h => h) (Or.inl ⟨by rfl, by intro w hS; go_simp⟩) hHeld ?_
  try simp only [Act.put, List.setIfInBounds_toArray, List.set_cons_zero, List.set_cons_succ]
  refine wpAnyH_take (i := 10) (oi := { dst := some 32, op := Op.extract (Operand.tmp 22) 1, type := 39, pos := "law.go:580", after := #[{ on := 8, ground := Ground.data }, { on := 11, ground := Ground.gcOnly Departure.lateStores }], guard := none }) (v := .int .i64 E) rfl (by kernel_rfl) (by kernel_rfl) (by kernel_rfl) (fun _ _ _ h => h) (Or.inl ⟨by rfl, by intro w hS; go_simp⟩) hHeld ?_
  try simp only [Act.put, List.setIfInBounds_toArray, List.set_cons_zero, List.set_cons_succ]
  refine wpAnyH_take (i := 11) (oi := { dst := some 4, op := Op.assign (Operand.tmp 31), type := 29, pos := "law.go:580", after := #[{ on := 9, ground := Ground.data }, { on := 7, ground := Ground.chain }, { on := 0, ground := Ground.phase }, { on := 1, ground := Ground.phase }, { on := 2, ground := Ground.phase }, { on := 3, ground := Ground.phase }, { on := 4, ground := Ground.phase }, { on := 5, ground := Ground.phase }, { on := 6, ground := Ground.phase }, { on := 7, ground := Ground.phase }, { on := 8, ground := Ground.phase }, { on := 9, ground := Ground.phase }, { on := 10, ground := Ground.textOnly Departure.lateStores }], guard := none }) (v := v7) rfl (by kernel_rfl) (by kernel_rfl) (by kernel_rfl) (fun _ _ _ h => h) (Or.inl ⟨by rfl, by intro w hS; go_simp⟩) hHeld ?_
  try simp only [Act.put, List.setIfInBounds_toArray, List.set_cons_zero, List.set_cons_succ]
  refine wpAnyH_take (i := 12) (oi := { dst := some 5, op := Op.assign (Operand.tmp 32), type := 39, pos := "law.go:580", after := #[{ on := 10, ground := Ground.data }, { on := 11, ground := Ground.chain }, { on := 0, ground := Ground.phase }, { on := 1, ground := Ground.phase }, { on := 2, ground := Ground.phase }, { on := 3, ground := Ground.phase }, { on := 4, ground := Ground.phase }, { on := 5, ground := Ground.phase }, { on := 6, ground := Ground.phase }, { on := 7, ground := Ground.phase }, { on := 8, ground := Ground.phase }, { on := 9, ground := Ground.phase }, { on := 10, ground := Ground.phase }, { on := 11, ground := Ground.phase }], guard := none }) (v := .int .i64 E) rfl (by kernel_rfl) (by kernel_rfl) (by kernel_rfl) (fun _ _ _ h => h) (Or.inl ⟨by rfl, by intro w hS; go_simp⟩) hHeld ?_
  try simp only [Act.put, List.setIfInBounds_toArray, List.set_cons_zero, List.set_cons_succ]
  refine wpAnyH_done (by kernel_rfl) ?_ _
  refine NoPanic.normal ?_
  have hf := hHeld
  clear hHeld
  have d1 := (hf.cell (p := ⟨g, 1, none⟩) HG.out).trans C1.out
  have d2 := (hf.cell (p := ⟨g, 2, none⟩) HG.out).trans C2.out
  have d3 := (hf.cell (p := ⟨g, 3, none⟩) HG.out).trans C3.out
  have hz6 : W1.heap.size ≤ w6.heap.size := hb6.size
  have hA7 := hA1.below hf (Nat.le_refl _)
  have G7 := G1.below hf G1.1
  go_wp2_with fail
  refine (KQ.out _ G7 hA7).mono ?_
  rintro e w8 ⟨u8, rfl, o8, b8⟩
  have BB := hf.trans (b8.mono hf.size)
  go_wp2
  go_ret2
  have z1 := hf.size
  have z2 := HG.out
  obtain rfl := Hg.out
  exact ⟨_, _, rfl, own_up ((new_own n7 HN.out).below b8 (Nat.le_refl _)) (by omega), own_up o8 (by omega), B1.trans (BB.mono (by omega))⟩
set_option maxRecDepth 100000 in
set_option maxHeartbeats 2000000 in
theorem again1 (w : World) (hGl : Gl w) (ca0 ki pg : Int) (h0 : ca0 = 1) (a : List Int) (a8 : Byts a) (s : Sup) (sa : Option Addr) (ca : Nat) (hA : Src w sa ca a) (hlen : a.length ≤ 140737488352000) (vb : Value) :
    Calls Tryd.prog 8 #[.agg (triC ca0 ki pg (.slice sa a.length ca) vb s)] w fun e w' => ∃ v m, e = .returned (.tuple #[v, m]) ∧ Own w' w.heap.size v (ansL ca0 ki pg a s) ∧ Own w' w.heap.size m (ansL ca0 ki pg a s) ∧ Below w.heap.size w w' := by
  have B1 := below_new w (.cells (triC ca0 ki pg (.slice sa a.length ca) vb s) 33)
  have r0 := hnew w (.cells (triC ca0 ki pg (.slice sa a.length ca) vb s) 33)
  have c0 : (w.alloc (.cells (triC ca0 ki pg (.slice sa a.length ca) vb s) 33)).cell? ⟨w.heap.size, 0, none⟩ = some (.int .i64 ca0) := by rw [cell_of_row _ _ _ _ _ _ r0]; rfl
  have C1 := hid (show (w.alloc (.cells (triC ca0 ki pg (.slice sa a.length ca) vb s) 33)).cell? ⟨w.heap.size, 1, none⟩ = some (.int .i64 ki) by rw [cell_of_row _ _ _ _ _ _ r0]; rfl)
  have C2 := hid (show (w.alloc (.cells (triC ca0 ki pg (.slice sa a.length ca) vb s) 33)).cell? ⟨w.heap.size, 2, none⟩ = some (.int .i64 pg) by rw [cell_of_row _ _ _ _ _ _ r0]; rfl)
  have C3 := hid (show (w.alloc (.cells (triC ca0 ki pg (.slice sa a.length ca) vb s) 33)).cell? ⟨w.heap.size, 3, none⟩ = some (.slice sa a.length ca) by rw [cell_of_row _ _ _ _ _ _ r0]; rfl)
  have hA1 := hA.below B1 (Nat.le_refl _)
  have G1 := hGl.below B1 hGl.1
  have HG := hid (show w.heap.size < (w.alloc (.cells (triC ca0 ki pg (.slice sa a.length ca) vb s) 33)).heap.size by simp)
  have R0 := hid r0
  clear r0
  subst h0
  have KP := hid (fun (wz : World) (sp : Option Addr) (cp : Nat) (hz : Src wz sp cp a) => unpack_any wz pg a a8 sp cp hz)
  have KQ := hid (fun (wz : World) (hz : Gl wz) (hs : Src wz sa ca a) => qUnpack_any wz hz pg a a8 sa ca hs)
  have HL := hid (show ansL 1 ki pg a s = (unpackF pg a).2.1 from rfl)
  generalize unpackF pg a = P at *
  obtain ⟨K, L, E⟩ := P
  simp only at KP KQ HL
  rw [HL.out]
  go_enter Tryd.func8, Tryd.ntmps8
  go_wp2
  generalize w.alloc (.cells (triC 1 ki pg (.slice sa a.length ca) vb s) 33) = W1 at *
  generalize hg : w.heap.size = g at *
  have Hg := hid hg
  clear hg
  refine wp_region_noPanic ?_
  refine wp_region_held_drew (S := fun w' => Below W1.heap.size W1 w') (by kernel_rfl) (Below.refl _ _).drew (fun hHeld => ?_)
  refine wpAnyH_take (i := 0) (oi := { dst := some 48, op := Op.fieldAddr 33 (Operand.tmp 1) 2, type := 0, pos := "law.go:584", after := #[], guard := none }) (v := .pointer (some ⟨g, 2, none⟩)) rfl (by kernel_rfl) (by kernel_rfl) (by kernel_rfl) (fun _ _ _ h => h) (Or.inl ⟨by rfl, by intro w hS; go_simp⟩) hHeld ?_
  try simp only [Act.put, List.setIfInBounds_toArray, List.set_cons_zero, List.set_cons_succ]
  refine wpAnyH_take (i := 2) (oi := { dst := some 50, op := Op.fieldAddr 33 (Operand.tmp 1) 3, type := 0, pos := "law.go:584", after := #[], guard := none }) (v := .pointer (some ⟨g, 3, none⟩)) rfl (by kernel_rfl) (by kernel_rfl) (by kernel_rfl) (fun _ _ _ h => h) (Or.inl ⟨by rfl, by intro w hS; go_simp⟩) hHeld ?_
  try simp only [Act.put, List.setIfInBounds_toArray, List.set_cons_zero, List.set_cons_succ]
  refine wpAnyH_take (i := 1) (oi := { dst := some 49, op := Op.load 3 (Operand.tmp 48), type := 3, pos := "law.go:584", after := #[{ on := 0, ground := Ground.data }], guard := none }) (v := .int .i64 pg) rfl (by kernel_rfl) (by kernel_rfl) (by kernel_rfl) (fun _ _ _ h => h) (Or.inl ⟨by rfl, by intro w hS; have hc := hS.cell (p := ⟨g, 2, none⟩) HG.out |>.trans C2.out; go_simp⟩) hHeld ?_
  try simp only [Act.put, List.setIfInBounds_toArray, List.set_cons_zero, List.set_cons_succ]
  refine wpAnyH_take (i := 3) (oi := { dst := some 51, op := Op.load 29 (Operand.tmp 50), type := 29, pos := "law.go:584", after := #[{ on := 2, ground := Ground.data }], guard := none }) (v := .slice sa a.length ca) rfl (by kernel_rfl) (by kernel_rfl) (by kernel_rfl) (fun _ _ _ h => h) (Or.inl ⟨by rfl, by intro w hS; have hc := hS.cell (p := ⟨g, 3, none⟩) HG.out |>.trans C3.out; go_simp⟩) hHeld ?_
  try simp only [Act.put, List.setIfInBounds_toArray, List.set_cons_zero, List.set_cons_succ]
  refine wpAnyH_ready (rs := [4]) (by kernel_rfl) (by simp) ?_
  refine (AllReadyH.cons (o := { dst := some 52, op := Op.call { callee := Callee.value (Operand.func 13), args := #[Operand.tmp 51], argTypes := #[29] }, type := 29, pos := "law.go:584", after := #[{ on := 3, ground := Ground.data }], guard := none }) rfl (fun K hK => ?_) AllReadyH.nil)
  go_simp
  go_at_call 13
  refine (copied_any _ a _ _ (hA1.below hHeld (Nat.le_refl _)) (by omega)).mono ?_
  rintro e w6 ⟨v6, rfl, o6, hb6⟩
  obtain ⟨s6, c6, rfl, hs6, _⟩ := o6.form
  go_wp2_with fail
  refine hK.out _ _ (hHeld.trans (hb6.mono hHeld.size)) (fun hHeld2 => ?_)
  clear hK K hHeld
  have hHeld := hHeld2
  clear hHeld2
  try simp only [Act.put, List.setIfInBounds_toArray, List.set_cons_zero, List.set_cons_succ]
  refine wpAnyH_ready (rs := [5]) (by kernel_rfl) (by simp) ?_
  refine (AllReadyH.cons (o := { dst := some 53, op := Op.call { callee := Callee.value (Operand.func 15), args := #[Operand.tmp 49, Operand.tmp 52], argTypes := #[3, 29] }, type := 46, pos := "law.go:584", after := #[{ on := 1, ground := Ground.data }, { on := 4, ground := Ground.data }, { on := 4, ground := Ground.chain }], guard := none }) rfl (fun K hK => ?_) AllReadyH.nil)
  go_simp
  go_at_call 15
  refine (KP.out _ _ _ hs6).mono ?_
  rintro e w7 ⟨v7, rfl, n7, hb7⟩
  go_wp2_with fail
  refine hK.out _ _ (hHeld.trans (hb7.mono hHeld.size)) (fun hHeld2 => ?_)
  clear hK K hHeld
  have hHeld := hHeld2
  clear hHeld2
  try simp only [Act.put, List.setIfInBounds_toArray, List.set_cons_zero, List.set_cons_succ]
  refine wpAnyH_take (i := 6) (oi := { dst := some 47, op := Op.move (Operand.tmp 53), type := 46, pos := "law.go:584", after := #[{ on := 5, ground := Ground.data }], guard := none }) (v := .tuple #[.int .i64 K, v7, .int .i64 E]) rfl (by kernel_rfl) (by kernel_rfl) (by kernel_rfl) (fun _ _ _ h => h) (Or.inl ⟨by rfl, by intro w hS; go_simp⟩) hHeld ?_
  try simp only [Act.put, List.setIfInBounds_toArray, List.set_cons_zero, List.set_cons_succ]
  refine wpAnyH_take (i := 7) (oi := { dst := some 54, op := Op.extract (Operand.tmp 47) 0, type := 3, pos := "law.go:584", after := #[{ on := 6, ground := Ground.data }], guard := none }) (v := .int .i64 K) rfl (by kernel_rfl) (by kernel_rfl) (by kernel_rfl) (fun _ _ _ h => h) (Or.inl ⟨by rfl, by intro w hS; go_simp⟩) hHeld ?_
  try simp only [Act.put, List.setIfInBounds_toArray, List.set_cons_zero, List.set_cons_succ]
  refine wpAnyH_take (i := 8) (oi := { dst := some 55, op := Op.extract (Operand.tmp 47) 1, type := 29, pos := "law.go:584", after := #[{ on := 6, ground := Ground.data }, { on := 10, ground := Ground.gcOnly Departure.lateStores }], guard := none }) (v := v7) rfl (by kernel_rfl) (by kernel_rfl) (by kernel_rfl) (fun _ _ _ h => h) (Or.inl ⟨by rfl, by intro w hS; go_simp⟩) hHeld ?_
  try simp only [Act.put, List.setIfInBounds_toArray, List.set_cons_zero, List.set_cons_succ]
  refine wpAnyH_take (i := 9) (oi := { dst := some 56, op := Op.extract (Operand.tmp 47) 2, type := 39, pos := "law.go:584", after := #[{ on := 6, ground := Ground.data }, { on := 11, ground := Ground.gcOnly Departure.lateStores }], guard := none }) (v := .int .i64 E) rfl (by kernel_rfl) (by kernel_rfl) (by kernel_rfl) (fun _ _ _ h => h) (Or.inl ⟨by rfl, by intro w hS; go_simp⟩) hHeld ?_
  try simp only [Act.put, List.setIfInBounds_toArray, List.set_cons_zero, List.set_cons_succ]
  refine wpAnyH_take (i := 10) (oi := { dst := some 8, op := Op.assign (Operand.tmp 54), type := 3, pos := "law.go:584", after := #[{ on := 7, ground := Ground.data }, { on := 5, ground := Ground.chain }, { on := 0, ground := Ground.phase }, { on := 1, ground := Ground.phase }, { on := 2, ground := Ground.phase }, { on := 3, ground := Ground.phase }, { on := 4, ground := Ground.phase }, { on := 5, ground := Ground.phase }, { on := 6, ground := Ground.phase }, { on := 7, ground := Ground.phase }, { on := 8, ground := Ground.textOnly Departure.lateStores }, { on := 9, ground := Ground.textOnly Departure.lateStores }], guard := none }) (v := .int .i64 K) rfl (by kernel_rfl) (by kernel_rfl) (by kernel_rfl) (fun _ _ _ h => h) (Or.inl ⟨by rfl, by intro w hS; go_simp⟩) hHeld ?_
  try simp only [Act.put, List.setIfInBounds_toArray, List.set_cons_zero, List.set_cons_succ]
  refine wpAnyH_take (i := 11) (oi := { dst := some 9, op := Op.assign (Operand.tmp 55), type := 29, pos := "law.go:584", after := #[{ on := 8, ground := Ground.data }, { on := 10, ground := Ground.chain }, { on := 0, ground := Ground.phase }, { on := 1, ground := Ground.phase }, { on := 2, ground := Ground.phase }, { on := 3, ground := Ground.phase }, { on := 4, ground := Ground.phase }, { on := 5, ground := Ground.phase }, { on := 6, ground := Ground.phase }, { on := 7, ground := Ground.phase }, { on := 8, ground := Ground.phase }, { on := 9, ground := Ground.textOnly Departure.lateStores }, { on := 10, ground := Ground.phase }], guard := none }) (v := v7) rfl (by kernel_rfl) (by kernel_rfl) (by kernel_rfl) (fun _ _ _ h => h) (Or.inl ⟨by rfl, by intro w hS; go_simp⟩) hHeld ?_
  try simp only [Act.put, List.setIfInBounds_toArray, List.set_cons_zero, List.set_cons_succ]
  refine wpAnyH_take (i := 12) (oi := { dst := some 10, op := Op.assign (Operand.tmp 56), type := 39, pos := "law.go:584", after := #[{ on := 9, ground := Ground.data }, { on := 11, ground := Ground.chain }, { on := 0, ground := Ground.phase }, { on := 1, ground := Ground.phase }, { on := 2, ground := Ground.phase }, { on := 3, ground := Ground.phase }, { on := 4, ground := Ground.phase }, { on := 5, ground := Ground.phase }, { on := 6, ground := Ground.phase }, { on := 7, ground := Ground.phase }, { on := 8, ground := Ground.phase }, { on := 9, ground := Ground.phase }, { on := 10, ground := Ground.phase }, { on := 11, ground := Ground.phase }], guard := none }) (v := .int .i64 E) rfl (by kernel_rfl) (by kernel_rfl) (by kernel_rfl) (fun _ _ _ h => h) (Or.inl ⟨by rfl, by intro w hS; go_simp⟩) hHeld ?_
  try simp only [Act.put, List.setIfInBounds_toArray, List.set_cons_zero, List.set_cons_succ]
  refine wpAnyH_done (by kernel_rfl) ?_ _
  refine NoPanic.normal ?_
  have hf := hHeld
  clear hHeld
  have d2 := (hf.cell (p := ⟨g, 2, none⟩) HG.out).trans C2.out
  have d3 := (hf.cell (p := ⟨g, 3, none⟩) HG.out).trans C3.out
  have hz6 : W1.heap.size ≤ w6.heap.size := hb6.size
  have hA7 := hA1.below hf (Nat.le_refl _)
  have G7 := G1.below hf G1.1
  go_wp2_with fail
  refine (KQ.out _ G7 hA7).mono ?_
  rintro e w8 ⟨u8, rfl, o8, b8⟩
  have BB := hf.trans (b8.mono hf.size)
  go_wp2
  go_ret2
  have z1 := hf.size
  have z2 := HG.out
  obtain rfl := Hg.out
  exact ⟨_, _, rfl, own_up (n7.below b8 (Nat.le_refl _)) (by omega), own_up o8 (by omega), B1.trans (BB.mono (by omega))⟩
set_option maxRecDepth 100000 in
set_option maxHeartbeats 2000000 in
theorem again2 (w : World) (hGl : Gl w) (ca0 ki pg : Int) (h0 : ca0 = 2) (a : List Int) (a8 : Byts a) (s : Sup) (sa : Option Addr) (ca : Nat) (hA : Src w sa ca a) (hlen : a.length ≤ 140737488352000) (vb : Value) :
    Calls Tryd.prog 8 #[.agg (triC ca0 ki pg (.slice sa a.length ca) vb s)] w fun e w' => ∃ v m, e = .returned (.tuple #[v, m]) ∧ Own w' w.heap.size v (ansL ca0 ki pg a s) ∧ Own w' w.heap.size m (ansL ca0 ki pg a s) ∧ Below w.heap.size w w' := by
  have B1 := below_new w (.cells (triC ca0 ki pg (.slice sa a.length ca) vb s) 33)
  have r0 := hnew w (.cells (triC ca0 ki pg (.slice sa a.length ca) vb s) 33)
  have c0 : (w.alloc (.cells (triC ca0 ki pg (.slice sa a.length ca) vb s) 33)).cell? ⟨w.heap.size, 0, none⟩ = some (.int .i64 ca0) := by rw [cell_of_row _ _ _ _ _ _ r0]; rfl
  have C1 := hid (show (w.alloc (.cells (triC ca0 ki pg (.slice sa a.length ca) vb s) 33)).cell? ⟨w.heap.size, 1, none⟩ = some (.int .i64 ki) by rw [cell_of_row _ _ _ _ _ _ r0]; rfl)
  have C2 := hid (show (w.alloc (.cells (triC ca0 ki pg (.slice sa a.length ca) vb s) 33)).cell? ⟨w.heap.size, 2, none⟩ = some (.int .i64 pg) by rw [cell_of_row _ _ _ _ _ _ r0]; rfl)
  have C3 := hid (show (w.alloc (.cells (triC ca0 ki pg (.slice sa a.length ca) vb s) 33)).cell? ⟨w.heap.size, 3, none⟩ = some (.slice sa a.length ca) by rw [cell_of_row _ _ _ _ _ _ r0]; rfl)
  have hA1 := hA.below B1 (Nat.le_refl _)
  have G1 := hGl.below B1 hGl.1
  have HG := hid (show w.heap.size < (w.alloc (.cells (triC ca0 ki pg (.slice sa a.length ca) vb s) 33)).heap.size by simp)
  have R0 := hid r0
  clear r0
  subst h0
  have KP := hid (fun (wz : World) => packSuper_any wz s)
  have KQ := hid (fun (wz : World) (hz : Gl wz) => qPackSuper_any wz hz s)
  have HL := hid (show ansL 2 ki pg a s = (superF s).1 from rfl)
  have HN := hid (superF_len s)
  generalize superF s = P at *
  obtain ⟨L, E⟩ := P
  simp only at KP KQ HL HN
  rw [HL.out]
  have RS := hid (sup_range R0.out)
  have KSU := hid (show (Tryd.prog.info? 31).map (·.size) = some (supC s).toList.length by rw [size_super]; rfl)
  go_enter Tryd.func8, Tryd.ntmps8
  go_wp2_with (first
    | (refine wpList_load_mid_w (by rfl) 31 (.tmp 71) (by rfl) w.heap.size 5 (by rfl) (supC s).toList _ (by exact RS.out) Tryd.underlying31 rfl KSU.out ?_))
  refine (KP.out _).mono ?_
  rintro e w7 ⟨v7, rfl, n7, hf⟩
  have RS7 : w7.rangeAt w.heap.size 5 (supC s).toList := fun j v hv => (hf.cell (p := ⟨w.heap.size, 5 + j, none⟩) HG.out).trans (RS.out j v hv)
  have G7 := G1.below hf G1.1
  go_wp2_with (first
    | (refine wpList_load_mid_w (by rfl) 31 (.tmp 77) (by rfl) w.heap.size 5 (by rfl) (supC s).toList _ (by exact RS7) Tryd.underlying31 rfl KSU.out ?_))
  refine (KQ.out _ G7).mono ?_
  rintro e w8 ⟨u8, rfl, o8, b8⟩
  have BB := hf.trans (b8.mono hf.size)
  go_wp2
  go_ret2
  have z1 := hf.size
  have z2 := HG.out
  exact ⟨_, _, rfl, own_up ((new_own n7 HN.out).below b8 (Nat.le_refl _)) (by omega), own_up o8 (by omega), B1.trans (BB.mono (by omega))⟩
set_option maxRecDepth 100000 in
set_option maxHeartbeats 2000000 in
theorem again3 (w : World) (hGl : Gl w) (ca0 ki pg : Int) (h0 : ca0 ≠ 0) (h1 : ca0 ≠ 1) (h2 : ca0 ≠ 2) (a : List Int) (a8 : Byts a) (s : Sup) (sa : Option Addr) (ca : Nat) (hA : Src w sa ca a) (hlen : a.length ≤ 140737488352000) (vb : Value) :
    Calls Tryd.prog 8 #[.agg (triC ca0 ki pg (.slice sa a.length ca) vb s)] w fun e w' => ∃ v m, e = .returned (.tuple #[v, m]) ∧ Own w' w.heap.size v (ansL ca0 ki pg a s) ∧ Own w' w.heap.size m (ansL ca0 ki pg a s) ∧ Below w.heap.size w w' := by
  have B1 := below_new w (.cells (triC ca0 ki pg (.slice sa a.length ca) vb s) 33)
  have r0 := hnew w (.cells (triC ca0 ki pg (.slice sa a.length ca) vb s) 33)
  have c0 : (w.alloc (.cells (triC ca0 ki pg (.slice sa a.length ca) vb s) 33)).cell? ⟨w.heap.size, 0, none⟩ = some (.int .i64 ca0) := by rw [cell_of_row _ _ _ _ _ _ r0]; rfl
  have C1 := hid (show (w.alloc (.cells (triC ca0 ki pg (.slice sa a.length ca) vb s) 33)).cell? ⟨w.heap.size, 1, none⟩ = some (.int .i64 ki) by rw [cell_of_row _ _ _ _ _ _ r0]; rfl)
  have C2 := hid (show (w.alloc (.cells (triC ca0 ki pg (.slice sa a.length ca) vb s) 33)).cell? ⟨w.heap.size, 2, none⟩ = some (.int .i64 pg) by rw [cell_of_row _ _ _ _ _ _ r0]; rfl)
  have C3 := hid (show (w.alloc (.cells (triC ca0 ki pg (.slice sa a.length ca) vb s) 33)).cell? ⟨w.heap.size, 3, none⟩ = some (.slice sa a.length ca) by rw [cell_of_row _ _ _ _ _ _ r0]; rfl)
  have hA1 := hA.below B1 (Nat.le_refl _)
  have G1 := hGl.below B1 hGl.1
  have HG := hid (show w.heap.size < (w.alloc (.cells (triC ca0 ki pg (.slice sa a.length ca) vb s) 33)).heap.size by simp)
  have R0 := hid r0
  clear r0
  have HL := hid (show ansL ca0 ki pg a s = [] by unfold ansL; rw [if_neg h0, if_neg h1, if_neg h2])
  rw [HL.out]
  go_enter Tryd.func8, Tryd.ntmps8
  go_wp2
  go_ret2
  exact ⟨_, _, rfl, Own.nil _ _, Own.nil _ _, B1⟩
theorem again_any (w : World) (hGl : Gl w) (ca0 ki pg : Int) (a : List Int) (a8 : Byts a) (s : Sup) (sa : Option Addr) (ca : Nat) (hA : Src w sa ca a) (hlen : a.length ≤ 140737488352000) (vb : Value) :
    Calls Tryd.prog 8 #[.agg (triC ca0 ki pg (.slice sa a.length ca) vb s)] w fun e w' => ∃ v m, e = .returned (.tuple #[v, m]) ∧ Own w' w.heap.size v (ansL ca0 ki pg a s) ∧ Own w' w.heap.size m (ansL ca0 ki pg a s) ∧ Below w.heap.size w w' := by
  by_cases h0 : ca0 = 0
  · exact again0 w hGl ca0 ki pg h0 a a8 s sa ca hA hlen vb
  by_cases h1 : ca0 = 1
  · exact again1 w hGl ca0 ki pg h1 a a8 s sa ca hA hlen vb
  by_cases h2 : ca0 = 2
  · exact again2 w hGl ca0 ki pg h2 a a8 s sa ca hA hlen vb
  exact again3 w hGl ca0 ki pg h0 h1 h2 a a8 s sa ca hA hlen vb
end Go.Proofs.YtaoongjdneaccaaDoor
