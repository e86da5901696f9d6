import Derived.Test.YtgbimdfgapcdnaaGreatDoorSv3
namespace Go.Proofs.YtgbimdfgapcdnaaGreatDoor
set_option linter.unusedVariables false
set_option linter.unusedSimpArgs false
open Go.RowKit
attribute [local go_sem ↓] Go.wp_at_zero Go.wp_at_succ

/-- A healer whose first block is as new, or has its bits. -/
def HS (w : World) (h : Nat) : Prop := w.heap[h]? = some (hlO 0 0 (.map none)) ∨ ∃ m, w.heap[h]? = some (hlO 1 0 (.map (some m))) ∧ MB w m 1000
theorem do_any (w : World) (h p : Nat) (hs : HS w h) (hp : w.cell? ⟨p, 0, none⟩ = some (.pointer (some ⟨h, 0, none⟩))) (hph : p ≠ h) :
    Calls Tryz.prog 57 #[.pointer (some ⟨h, 1, none⟩), .func (.func 58) #[] #[.pointer (some ⟨p, 0, none⟩)]] w fun e w' => e = .returned (.tuple #[]) ∧ ∃ m, w'.heap[h]? = some (hlO 1 0 (.map (some m))) ∧ MB w' m 1000 ∧ Keeps h w w' := by
  rcases hs with hr | ⟨m, hr, hM⟩
  · obtain ⟨c0, c1, c2, c4, cf⟩ := hl_cell hr
    have r1 : (w.setCell ⟨h, 2, none⟩ (.int .i32 1)).heap[h]? = some (hlO 0 1 (.map none)) := (heap_setCell_same _ _ _ _ _ _ hr).trans rfl
    have p1 : (w.setCell ⟨h, 2, none⟩ (.int .i32 1)).cell? ⟨p, 0, none⟩ = some (.pointer (some ⟨h, 0, none⟩)) := by
      rw [World.cell?_setCell_other _ _ _ _ (fun e => hph (congrArg Addr.block e).symm)]; exact hp
    refine (sv_do h 1 ⟨p, 0, none⟩ w c1 c2 (cf _) (cf _) _ (sv_fill _ h p 0 1 r1 p1 hph) ?_).mono ?_
    · rintro w2 ⟨m, hr2, hM, hK⟩
      obtain ⟨d0, d1, d2, d4, df⟩ := hl_cell hr2
      exact ⟨⟨_, d1⟩, d2, df _, df _⟩
    · rintro e w' ⟨rfl, w2, ⟨m, hr2, hM, hK⟩, rfl⟩
      have r3 : w2.drew.heap[h]? = some (hlO 0 1 (.map (some m))) := hr2
      have r4 : (w2.drew.setCell ⟨h, 1, none⟩ (.int .u32 1)).heap[h]? = some (hlO 1 1 (.map (some m))) := (heap_setCell_same _ _ _ _ _ _ r3).trans rfl
      have kk : Keeps h w w2.drew := ((Keeps.refl h w).setCell 2 (.int .i32 1)).trans hK.drew
      have r5 : ((w2.drew.setCell ⟨h, 1, none⟩ (.int .u32 1)).setCell ⟨h, 2, none⟩ (.int .i32 0)).heap[h]? = some (hlO 1 0 (.map (some m))) := (heap_setCell_same _ _ _ _ _ _ r4).trans rfl
      refine ⟨rfl, m, r5, ?_, (kk.setCell _ _).setCell _ _⟩
      have hne := hM.ne_row hr2
      exact hM.of_heap ((heap_setCell_other _ _ _ _ hne).trans (heap_setCell_other _ _ _ _ hne))
  · obtain ⟨c0, c1, c2, c4, cf⟩ := hl_cell hr
    refine (sv_done ⟨h, 1, none⟩ _ w c1).mono ?_
    rintro e w' ⟨rfl, rfl⟩
    exact ⟨rfl, m, hr, hM, Keeps.refl _ _⟩
/-- What spoilt reads. -/
structure SP (w : World) (h p b o m : Nat) : Prop where
  cp : w.cell? ⟨p, 0, none⟩ = some (.pointer (some ⟨h, 0, none⟩))
  hr : w.heap[h]? = some (hlO 1 0 (.map (some m)))
  mb : MB w m 1000
  hb : b < w.heap.size
  pb : p < w.heap.size
  zz : ∀ j, j < 256 → w.cell? ⟨b, o + j, none⟩ = some (.int .u8 0)
theorem SP.below {w w1 : World} {h p b o m : Nat} (s : SP w h p b o m) (hB : Below w.heap.size w w1) : SP w1 h p b o m :=
  ⟨(hB.cell (p := ⟨p, 0, none⟩) s.pb).trans s.cp, (hB.block h (hlt s.hr)).trans s.hr, s.mb.below hB, Nat.lt_of_lt_of_le s.hb hB.size, Nat.lt_of_lt_of_le s.pb hB.size, fun j hj => (hB.cell (p := ⟨b, o + j, none⟩) s.hb).trans (s.zz j hj)⟩
theorem SP.c0 {w : World} {h p b o m : Nat} (s : SP w h p b o m) : w.cell? ⟨h, 0, none⟩ = some (.int .i64 60) := (hl_cell s.hr).1
theorem SP.c4 {w : World} {h p b o m : Nat} (s : SP w h p b o m) : w.cell? ⟨h, 4, none⟩ = some (.map (some m)) := (hl_cell s.hr).2.2.2.1
theorem SP.src {w : World} {h p b o m : Nat} (s : SP w h p b o m) : Src w (some ⟨b, o, none⟩) 256 (List.replicate 60 0) :=
  ⟨by simp, by simp [maxLen], b, o, fun _ => s.hb, fun _ => rfl, fun j hj => by
    rw [List.length_replicate] at hj
    rw [s.zz j (by omega), List.getD_eq_getElem?_getD, List.getElem?_replicate, if_pos hj]; rfl⟩
theorem sum_60 (w : World) (h p b o m : Nat) (s : SP w h p b o m) :
    Calls Tryz.prog 54 #[.slice (some ⟨b, o, none⟩) 60 256] w fun e w' => ∃ d : Nat, d < 4294967296 ∧ e = .returned (.int .u32 (d : Int)) ∧ Below w.heap.size w w' := by
  have hb8 : Byts (List.replicate 60 (0 : Int)) := fun y hy => by have := List.eq_of_mem_replicate hy; omega
  refine (sum_any w (List.replicate 60 0) hb8 _ _ s.src).mono fun e w' q => ⟨_, updF_lt (by decide) hb8, q⟩
theorem step_mb {w : World} {ops : Array Oper} {o : Oper} {a : Act} {K : Act → World → Prop} {Q : Exit → Act → World → Prop} {E : Prop} (hgd : o.guard = none) (m x : Operand) (hop : o.op = Op.lookup 65 m x true)
    (b n : Nat) (hm : a.eval m = .map (some b)) (hown : MB w b n) (k : Int) (hx : a.eval x = .int .u32 k) (hk : (Lit.int .u32 k).wf = true)
    (h : ∀ (c : Int) (f : Bool), 0 ≤ c → c < 512 → K (a.put o.dst (.tuple #[.int .i64 c, .bool f])) w) :
    if Region.wanted o (yielded ops a.tmps) = true then Oper.wp Tryz.prog o a w K Q else E := by
  have hw : Region.wanted o (yielded ops a.tmps) = true := by simp [Region.wanted, hgd]
  rw [if_pos hw]
  obtain ⟨M, hM⟩ := hown
  have hz : (zeroValue 3).run Tryz.prog w = .ok (.int .i64 0) w := by kernel_rfl
  obtain ⟨v, ps, hrun, hv⟩ := hM.look_ok keyed32 Tryz.underlying65 hz (inR_mk (by omega) (by omega)) (Maps.keyOf_int_mk Tryz.underlying56 hk)
  obtain ⟨c, rfl, h0, h1⟩ := inR_inv hv
  unfold Oper.wp
  simp [execOp, hop, hm, hx, hrun, Result.andThen]
  exact h _ _ h0 h1
set_option maxRecDepth 100000 in
set_option maxHeartbeats 1000000 in
theorem spoilt_any (w : World) (h b o : Nat) (hs : HS w h) (hb : b < w.heap.size) (hbh : b ≠ h) (hz : ∀ j, j < 256 → w.cell? ⟨b, o + j, none⟩ = some (.int .u8 0)) :
    Calls Tryz.prog 39 #[.pointer (some ⟨h, 0, none⟩), .slice (some ⟨b, o, none⟩) 256 256] w fun e w' => ∃ (c : Int) (f : Bool), e = .returned (.tuple #[.int .i64 c, .bool f]) ∧ (0 ≤ c ∧ c < 512) ∧ HS w' h ∧ Keeps h w w' := by
  have hhl : h < w.heap.size := by rcases hs with q | ⟨m, q, _⟩ <;> exact hlt q
  have B1 : Below w.heap.size w (w.alloc (.cells #[.pointer (some ⟨h, 0, none⟩)] 95)) := (Below.refl _ w).alloc (Nat.le_refl _) _
  have hs1 : HS (w.alloc (.cells #[.pointer (some ⟨h, 0, none⟩)] 95)) h := by
    rcases hs with q | ⟨m, q, hM⟩
    · exact Or.inl ((B1.block h hhl).trans q)
    · exact Or.inr ⟨m, (B1.block h hhl).trans q, hM.below B1⟩
  have p1 : (w.alloc (.cells #[.pointer (some ⟨h, 0, none⟩)] 95)).cell? ⟨w.heap.size, 0, none⟩ = some (.pointer (some ⟨h, 0, none⟩)) := by rw [cell_of_row _ _ _ _ _ _ (hnew w _)]; rfl
  have HD := hid (do_any _ h w.heap.size hs1 p1 (by omega))
  have s1 : w.heap.size < (w.alloc (.cells #[.pointer (some ⟨h, 0, none⟩)] 95)).heap.size := by rw [World.size_alloc]; omega
  have K1 : Keeps h w (w.alloc (.cells #[.pointer (some ⟨h, 0, none⟩)] 95)) := Keeps.of_below B1
  have HX := hid (And.intro hs1 (And.intro s1 (And.intro K1 (And.intro hb (And.intro hbh (And.intro hz (And.intro B1 (And.intro hhl p1))))))))
  have hmf : ∀ (fn : Fn) (first cap : Array Value) (w : World), (Instr.makeFunc fn first cap).run Tryz.prog w = .ok (.func fn first cap) w := fun _ _ _ _ => rfl
  clear hs1 s1 K1 hb hbh hz B1 hs
  go_enter Tryz.func39, Tryz.ntmps39
  go_wp2_with fail
  refine HD.out.mono ?_
  rintro e w2 ⟨rfl, m, hr2, hM2, hK2⟩
  obtain ⟨hs1, s1, K1, hb, hbh, hz, B1, hhl, p1⟩ := HX.out
  have hp2 : w2.cell? ⟨w.heap.size, 0, none⟩ = some (.pointer (some ⟨h, 0, none⟩)) := by
    rw [cell_of_row _ _ _ _ _ _ (hK2.heap (hnew w _) (by omega))]; rfl
  have sp : SP w2 h w.heap.size b o m := by
    refine ⟨hp2, hr2, hM2, Nat.lt_of_lt_of_le (by omega) hK2.size, Nat.lt_of_lt_of_le s1 hK2.size, fun j hj => ?_⟩
    have := hz j hj
    unfold World.cell? at this ⊢
    rw [hK2.block b (by omega) hbh, B1.block b hb]; exact this
  have KK : Keeps h w w2 := K1.trans hK2
  have HK := hid KK
  generalize w.heap.size = p at *
  clear HD HX hs1 s1 K1 hb hbh hz B1 hhl p1 hp2 hr2 hM2 hK2 KK
  go_wp2
  refine wp_region_noPanic ?_
  refine wp_region_held_drew (S := fun w' => SP w' h p b o m) (by kernel_rfl) (sp.below (⟨rfl, rfl, rfl, Nat.le_refl _, fun _ _ => rfl⟩ : Below w2.heap.size w2 w2.drew)) (fun hHeld => ?_)
  refine wpAnyH_take (i := 0) (oi := { dst := some 14, op := Op.load 95 (Operand.tmp 2), type := 95, pos := "heal.go:79", after := #[], guard := none }) (v := .pointer (some ⟨h, 0, none⟩)) rfl (by kernel_rfl) (by kernel_rfl) (by kernel_rfl) (fun _ _ _ h => h) (Or.inl ⟨by rfl, by intro w hS; have hc := hS.cp; go_simp⟩) hHeld ?_
  try simp only [Act.put, List.setIfInBounds_toArray, List.set_cons_zero, List.set_cons_succ]
  refine wpAnyH_take (i := 4) (oi := { dst := some 18, op := Op.move (Operand.tmp 1), type := 22, pos := "heal.go:79", after := #[], guard := none }) (v := .slice (some ⟨b, o, none⟩) 256 256) rfl (by kernel_rfl) (by kernel_rfl) (by kernel_rfl) (fun _ _ _ h => h) (Or.inl ⟨by rfl, by intro w hS; go_simp⟩) hHeld ?_
  try simp only [Act.put, List.setIfInBounds_toArray, List.set_cons_zero, List.set_cons_succ]
  refine wpAnyH_take (i := 5) (oi := { dst := some 19, op := Op.load 95 (Operand.tmp 2), type := 95, pos := "heal.go:79", after := #[], guard := none }) (v := .pointer (some ⟨h, 0, none⟩)) rfl (by kernel_rfl) (by kernel_rfl) (by kernel_rfl) (fun _ _ _ h => h) (Or.inl ⟨by rfl, by intro w hS; have hc := hS.cp; go_simp⟩) hHeld ?_
  try simp only [Act.put, List.setIfInBounds_toArray, List.set_cons_zero, List.set_cons_succ]
  refine wpAnyH_take (i := 11) (oi := { dst := some 25, op := Op.move (Operand.tmp 1), type := 22, pos := "heal.go:79", after := #[], guard := none }) (v := .slice (some ⟨b, o, none⟩) 256 256) rfl (by kernel_rfl) (by kernel_rfl) (by kernel_rfl) (fun _ _ _ h => h) (Or.inl ⟨by rfl, by intro w hS; go_simp⟩) hHeld ?_
  try simp only [Act.put, List.setIfInBounds_toArray, List.set_cons_zero, List.set_cons_succ]
  refine wpAnyH_take (i := 12) (oi := { dst := some 26, op := Op.load 95 (Operand.tmp 2), type := 95, pos := "heal.go:79", after := #[], guard := none }) (v := .pointer (some ⟨h, 0, none⟩)) rfl (by kernel_rfl) (by kernel_rfl) (by kernel_rfl) (fun _ _ _ h => h) (Or.inl ⟨by rfl, by intro w hS; have hc := hS.cp; go_simp⟩) hHeld ?_
  try simp only [Act.put, List.setIfInBounds_toArray, List.set_cons_zero, List.set_cons_succ]
  refine wpAnyH_take (i := 1) (oi := { dst := some 15, op := Op.nilCheck (Operand.tmp 14), type := 0, pos := "heal.go:79", after := #[{ on := 0, ground := Ground.data }], guard := none }) (v := .pointer (some ⟨h, 0, none⟩)) rfl (by kernel_rfl) (by kernel_rfl) (by kernel_rfl) (fun _ _ _ h => h) (Or.inl ⟨by rfl, by intro w hS; go_simp⟩) hHeld ?_
  try simp only [Act.put, List.setIfInBounds_toArray, List.set_cons_zero, List.set_cons_succ]
  refine wpAnyH_take (i := 6) (oi := { dst := some 20, op := Op.nilCheck (Operand.tmp 19), type := 0, pos := "heal.go:79", after := #[{ on := 5, ground := Ground.data }], guard := none }) (v := .pointer (some ⟨h, 0, none⟩)) rfl (by kernel_rfl) (by kernel_rfl) (by kernel_rfl) (fun _ _ _ h => h) (Or.inl ⟨by rfl, by intro w hS; go_simp⟩) hHeld ?_
  try simp only [Act.put, List.setIfInBounds_toArray, List.set_cons_zero, List.set_cons_succ]
  refine wpAnyH_take (i := 13) (oi := { dst := some 27, op := Op.nilCheck (Operand.tmp 26), type := 0, pos := "heal.go:79", after := #[{ on := 12, ground := Ground.data }], guard := none }) (v := .pointer (some ⟨h, 0, none⟩)) rfl (by kernel_rfl) (by kernel_rfl) (by kernel_rfl) (fun _ _ _ h => h) (Or.inl ⟨by rfl, by intro w hS; go_simp⟩) hHeld ?_
  try simp only [Act.put, List.setIfInBounds_toArray, List.set_cons_zero, List.set_cons_succ]
  refine wpAnyH_take (i := 2) (oi := { dst := some 16, op := Op.fieldAddr 67 (Operand.tmp 15) 2, type := 0, pos := "heal.go:79", after := #[{ on := 1, ground := Ground.data }], guard := none }) (v := .pointer (some ⟨h, 4, none⟩)) rfl (by kernel_rfl) (by kernel_rfl) (by kernel_rfl) (fun _ _ _ h => h) (Or.inl ⟨by rfl, by intro w hS; go_simp⟩) hHeld ?_
  try simp only [Act.put, List.setIfInBounds_toArray, List.set_cons_zero, List.set_cons_succ]
  refine wpAnyH_take (i := 7) (oi := { dst := some 21, op := Op.fieldAddr 67 (Operand.tmp 20) 0, type := 0, pos := "heal.go:79", after := #[{ on := 6, ground := Ground.data }], guard := none }) (v := .pointer (some ⟨h, 0, none⟩)) rfl (by kernel_rfl) (by kernel_rfl) (by kernel_rfl) (fun _ _ _ h => h) (Or.inl ⟨by rfl, by intro w hS; go_simp⟩) hHeld ?_
  try simp only [Act.put, List.setIfInBounds_toArray, List.set_cons_zero, List.set_cons_succ]
  refine wpAnyH_take (i := 14) (oi := { dst := some 28, op := Op.fieldAddr 67 (Operand.tmp 27) 0, type := 0, pos := "heal.go:79", after := #[{ on := 13, ground := Ground.data }], guard := none }) (v := .pointer (some ⟨h, 0, none⟩)) rfl (by kernel_rfl) (by kernel_rfl) (by kernel_rfl) (fun _ _ _ h => h) (Or.inl ⟨by rfl, by intro w hS; go_simp⟩) hHeld ?_
  try simp only [Act.put, List.setIfInBounds_toArray, List.set_cons_zero, List.set_cons_succ]
  refine wpAnyH_take (i := 3) (oi := { dst := some 17, op := Op.load 65 (Operand.tmp 16), type := 65, pos := "heal.go:79", after := #[{ on := 2, ground := Ground.data }], guard := none }) (v := .map (some m)) rfl (by kernel_rfl) (by kernel_rfl) (by kernel_rfl) (fun _ _ _ h => h) (Or.inl ⟨by rfl, by intro w hS; have hc := hS.c4; go_simp⟩) hHeld ?_
  try simp only [Act.put, List.setIfInBounds_toArray, List.set_cons_zero, List.set_cons_succ]
  refine wpAnyH_take (i := 8) (oi := { dst := some 22, op := Op.load 3 (Operand.tmp 21), type := 3, pos := "heal.go:79", after := #[{ on := 7, ground := Ground.data }], guard := none }) (v := .int .i64 60) rfl (by kernel_rfl) (by kernel_rfl) (by kernel_rfl) (fun _ _ _ h => h) (Or.inl ⟨by rfl, by intro w hS; have hc := hS.c0; go_simp⟩) hHeld ?_
  try simp only [Act.put, List.setIfInBounds_toArray, List.set_cons_zero, List.set_cons_succ]
  refine wpAnyH_take (i := 15) (oi := { dst := some 29, op := Op.load 3 (Operand.tmp 28), type := 3, pos := "heal.go:79", after := #[{ on := 14, ground := Ground.data }], guard := none }) (v := .int .i64 60) rfl (by kernel_rfl) (by kernel_rfl) (by kernel_rfl) (fun _ _ _ h => h) (Or.inl ⟨by rfl, by intro w hS; have hc := hS.c0; go_simp⟩) hHeld ?_
  try simp only [Act.put, List.setIfInBounds_toArray, List.set_cons_zero, List.set_cons_succ]
  refine wpAnyH_take (i := 9) (oi := { dst := some 23, op := Op.slice 22 (Operand.tmp 18) none (some (Operand.tmp 22)) none, type := 22, pos := "heal.go:79", after := #[{ on := 4, ground := Ground.data }, { on := 8, ground := Ground.data }], guard := none }) (v := .slice (some ⟨b, o, none⟩) 60 256) rfl (by kernel_rfl) (by kernel_rfl) (by kernel_rfl) (fun _ _ _ h => h) (Or.inl ⟨by rfl, by intro w hS; go_simp⟩) hHeld ?_
  try simp only [Act.put, List.setIfInBounds_toArray, List.set_cons_zero, List.set_cons_succ]
  refine wpAnyH_take (i := 16) (oi := { dst := some 30, op := Op.slice 22 (Operand.tmp 25) (some (Operand.tmp 29)) none none, type := 22, pos := "heal.go:79", after := #[{ on := 11, ground := Ground.data }, { on := 15, ground := Ground.data }], guard := none }) (v := .slice (some ⟨b, o + 60, none⟩) 196 196) rfl (by kernel_rfl) (by kernel_rfl) (by kernel_rfl) (fun _ _ _ h => h) (Or.inl ⟨by rfl, by intro w hS; go_simp⟩) hHeld ?_
  try simp only [Act.put, List.setIfInBounds_toArray, List.set_cons_zero, List.set_cons_succ]
  refine wpAnyH_ready (rs := [10]) (by kernel_rfl) (by simp) ?_
  refine (AllReadyH.cons (o := { dst := some 24, op := Op.call { callee := Callee.value (Operand.func 54), args := #[Operand.tmp 23], argTypes := #[22] }, type := 56, pos := "heal.go:79", after := #[{ on := 9, ground := Ground.data }], guard := none }) rfl (fun K hK => ?_) AllReadyH.nil)
  go_simp
  go_at_call 54
  refine (sum_60 _ _ _ _ _ _ hHeld).mono ?_
  rintro e w4 ⟨d, hd, rfl, hB⟩
  have HK2 := hid (HK.out.trans (Keeps.of_below ((⟨rfl, rfl, rfl, Nat.le_refl _, fun _ _ => rfl⟩ : Below w2.heap.size w2 w2.drew).trans hB)))
  go_wp2_with fail
  refine hK.out _ _ (hHeld.below hB) (fun hHeld2 => ?_)
  clear hK K hHeld
  have hHeld := hHeld2
  clear hHeld2
  clear hB
  try simp only [Act.put, List.setIfInBounds_toArray, List.set_cons_zero, List.set_cons_succ]
  refine wpAnyH_ready (rs := [17]) (by kernel_rfl) (by simp) ?_
  refine (AllReadyH.cons (o := { dst := some 31, op := Op.call { callee := Callee.value (Operand.func 60), args := #[Operand.tmp 30], argTypes := #[22] }, type := 56, pos := "heal.go:79", after := #[{ on := 16, ground := Ground.data }, { on := 10, ground := Ground.chain }], guard := none }) rfl (fun K hK => ?_) AllReadyH.nil)
  go_simp
  go_at_call 60
  refine (stated_0 _ _ _ _ _ (by omega) (hHeld.zz 60 (by omega)) (hHeld.zz 61 (by omega)) (hHeld.zz 62 (by omega)) (hHeld.zz 63 (by omega))).mono ?_
  rintro e w5 ⟨rfl, hB⟩
  have HK3 := hid (HK2.out.trans (Keeps.of_below hB))
  go_wp2_with fail
  refine hK.out _ _ (hHeld.below hB) (fun hHeld2 => ?_)
  clear hK K hHeld
  have hHeld := hHeld2
  clear hHeld2
  clear hB
  obtain ⟨d9, hd9, hx9⟩ := xor_nat d 0
  have hx9 : bits .xor .u32 (d : Int) 0 = (d9 : Int) := hx9
  try simp only [Act.put, List.setIfInBounds_toArray, List.set_cons_zero, List.set_cons_succ]
  refine wpAnyH_take (i := 18) (oi := { dst := some 32, op := Op.binOp BinOp.xor 56 (Operand.tmp 24) (Operand.tmp 31) 56, type := 56, pos := "heal.go:79", after := #[{ on := 10, ground := Ground.data }, { on := 17, ground := Ground.data }], guard := none }) (v := .int .u32 (d9 : Int)) rfl (by kernel_rfl) (by kernel_rfl) (by kernel_rfl) (fun _ _ _ h => h) (Or.inl ⟨by rfl, by intro w hS; go_simp⟩) hHeld ?_
  try simp only [Act.put, List.setIfInBounds_toArray, List.set_cons_zero, List.set_cons_succ]
  refine wpAnyH_ready (rs := [19]) (by kernel_rfl) (by simp) ?_
  refine (AllReadyH.cons (o := { dst := some 33, op := Op.lookup 65 (Operand.tmp 17) (Operand.tmp 32) true, type := 96, pos := "heal.go:79", after := #[{ on := 3, ground := Ground.data }, { on := 18, ground := Ground.data }], guard := none }) rfl (fun K hK => ?_) AllReadyH.nil)
  refine step_mb (by rfl) _ _ rfl m 1000 rfl hHeld.mb (d9 : Int) rfl (WalkArith.wf_u32 (by omega)) ?_
  intro c ff hc0 hc1
  refine hK.out _ _ (hHeld) (fun hHeld2 => ?_)
  clear hK K hHeld
  have hHeld := hHeld2
  clear hHeld2
  try simp only [Act.put, List.setIfInBounds_toArray, List.set_cons_zero, List.set_cons_succ]
  refine wpAnyH_take (i := 20) (oi := { dst := some 13, op := Op.move (Operand.tmp 33), type := 96, pos := "heal.go:79", after := #[{ on := 19, ground := Ground.data }], guard := none }) (v := .tuple #[.int .i64 c, .bool ff]) rfl (by kernel_rfl) (by kernel_rfl) (by kernel_rfl) (fun _ _ _ h => h) (Or.inl ⟨by rfl, by intro w hS; go_simp⟩) hHeld ?_
  try simp only [Act.put, List.setIfInBounds_toArray, List.set_cons_zero, List.set_cons_succ]
  refine wpAnyH_take (i := 21) (oi := { dst := some 34, op := Op.extract (Operand.tmp 13) 0, type := 3, pos := "heal.go:79", after := #[{ on := 20, ground := Ground.data }], guard := none }) (v := .int .i64 c) rfl (by kernel_rfl) (by kernel_rfl) (by kernel_rfl) (fun _ _ _ h => h) (Or.inl ⟨by rfl, by intro w hS; go_simp⟩) hHeld ?_
  try simp only [Act.put, List.setIfInBounds_toArray, List.set_cons_zero, List.set_cons_succ]
  refine wpAnyH_take (i := 22) (oi := { dst := some 35, op := Op.extract (Operand.tmp 13) 1, type := 4, pos := "heal.go:79", after := #[{ on := 20, ground := Ground.data }, { on := 23, ground := Ground.gcOnly Departure.lateStores }], guard := none }) (v := .bool ff) rfl (by kernel_rfl) (by kernel_rfl) (by kernel_rfl) (fun _ _ _ h => h) (Or.inl ⟨by rfl, by intro w hS; go_simp⟩) hHeld ?_
  try simp only [Act.put, List.setIfInBounds_toArray, List.set_cons_zero, List.set_cons_succ]
  refine wpAnyH_take (i := 23) (oi := { dst := some 6, op := Op.assign (Operand.tmp 34), type := 3, pos := "heal.go:79", after := #[{ on := 21, ground := Ground.data }, { on := 17, ground := Ground.chain }, { on := 0, ground := Ground.phase }, { on := 1, ground := Ground.phase }, { on := 2, ground := Ground.phase }, { on := 3, ground := Ground.phase }, { on := 4, ground := Ground.phase }, { on := 5, ground := Ground.phase }, { on := 6, ground := Ground.phase }, { on := 7, ground := Ground.phase }, { on := 8, ground := Ground.phase }, { on := 9, ground := Ground.phase }, { on := 10, ground := Ground.phase }, { on := 11, ground := Ground.phase }, { on := 12, ground := Ground.phase }, { on := 13, ground := Ground.phase }, { on := 14, ground := Ground.phase }, { on := 15, ground := Ground.phase }, { on := 16, ground := Ground.phase }, { on := 17, ground := Ground.phase }, { on := 18, ground := Ground.phase }, { on := 19, ground := Ground.phase }, { on := 20, ground := Ground.phase }, { on := 21, ground := Ground.phase }, { on := 22, ground := Ground.textOnly Departure.lateStores }], guard := none }) (v := .int .i64 c) rfl (by kernel_rfl) (by kernel_rfl) (by kernel_rfl) (fun _ _ _ h => h) (Or.inl ⟨by rfl, by intro w hS; go_simp⟩) hHeld ?_
  try simp only [Act.put, List.setIfInBounds_toArray, List.set_cons_zero, List.set_cons_succ]
  refine wpAnyH_take (i := 24) (oi := { dst := some 7, op := Op.assign (Operand.tmp 35), type := 4, pos := "heal.go:79", after := #[{ on := 22, ground := Ground.data }, { on := 23, ground := Ground.chain }, { on := 0, ground := Ground.phase }, { on := 1, ground := Ground.phase }, { on := 2, ground := Ground.phase }, { on := 3, ground := Ground.phase }, { on := 4, ground := Ground.phase }, { on := 5, ground := Ground.phase }, { on := 6, ground := Ground.phase }, { on := 7, ground := Ground.phase }, { on := 8, ground := Ground.phase }, { on := 9, ground := Ground.phase }, { on := 10, ground := Ground.phase }, { on := 11, ground := Ground.phase }, { on := 12, ground := Ground.phase }, { on := 13, ground := Ground.phase }, { on := 14, ground := Ground.phase }, { on := 15, ground := Ground.phase }, { on := 16, ground := Ground.phase }, { on := 17, ground := Ground.phase }, { on := 18, ground := Ground.phase }, { on := 19, ground := Ground.phase }, { on := 20, ground := Ground.phase }, { on := 21, ground := Ground.phase }, { on := 22, ground := Ground.phase }, { on := 23, ground := Ground.phase }], guard := none }) (v := .bool ff) rfl (by kernel_rfl) (by kernel_rfl) (by kernel_rfl) (fun _ _ _ h => h) (Or.inl ⟨by rfl, by intro w hS; go_simp⟩) hHeld ?_
  try simp only [Act.put, List.setIfInBounds_toArray, List.set_cons_zero, List.set_cons_succ]
  refine wpAnyH_done (by kernel_rfl) ?_ _
  refine NoPanic.normal ?_
  go_wp2
  go_ret2
  exact ⟨c, ff, rfl, ⟨hc0, hc1⟩, Or.inr ⟨m, hHeld.hr, hHeld.mb⟩, HK3.out⟩
end Go.Proofs.YtgbimdfgapcdnaaGreatDoor
