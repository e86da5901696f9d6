import Derived.Test.YtbgjnihkiolmlaaG22
namespace Go.Proofs.Ytbgjnihkiolmlaa
set_option linter.unusedVariables false
set_option linter.unusedSimpArgs false
open Go.RowKit
attribute [local go_sem ↓] Go.wp_at_zero Go.wp_at_succ


theorem Cr.lv {D : DS} {B : Bk} {n c : Nat} (h : Cr D B n c) (hc : c ≤ 1000) (fs : List Int) (s2 o : Sup) (m : Nat) (hg : Good s2 o (pgO (D.crashed fs).img 0) (pgO (D.crashed fs).img 1)) (hv : validS s2 = true) (hp : s2.pg = (n : Int)) (hm : s2.ma = (m : Int)) (hmn : m ≤ n) (hml : m - 2 ≤ B.Ls.length) (hpg : Pgs (D.crashed fs) B m) (hge : s2.ge ≤ B.gn + 1) (hok : DsOk { D.crashed fs with reads := (D.crashed fs).reads + 2 + ((m - 2 : Nat) : Int), epoch := (D.crashed fs).epoch + 1 }) :
    Lv { D.crashed fs with reads := (D.crashed fs).reads + 2 + ((m - 2 : Nat) : Int), epoch := (D.crashed fs).epoch + 1 } s2 m (D.epoch + 1 + 1) { B with mrk := s2.ma, gn := s2.ge, hd := s2.hd, im := 0 } n (c + 1) := by
  have hcn := h.cnt
  have hsm := h.small
  have hgn := h.ge
  refine ⟨hok, (crashed_np h.ok fs).trans h.np, h.small, rfl, rfl, hp, hv, ⟨o, hg⟩, by push_cast; omega, ⟨rfl, rfl, rfl, rfl⟩, ⟨by omega, hmn⟩, (fun o ho => by cases ho), ⟨h.len.1, hml, h.len.2⟩, hpg, ?_⟩
  refine ⟨by show ([] : List OW).length ≤ _; simp, ?_, ?_, ?_, ?_⟩
  · show D.reads + 2 + ((m - 2 : Nat) : Int) ≤ _; push_cast; omega
  · show D.writes ≤ _; push_cast; omega
  · show D.syncs ≤ _; push_cast; omega
  · show D.epoch + 1 + 1 ≤ _; push_cast; omega
set_option maxRecDepth 100000 in
set_option maxHeartbeats 2000000 in
theorem again_a (w : World) (base : Nat) (F : List Nat) (p : Nat) (D : DS) (h : DA w base F p D) (hbw : base ≤ w.heap.size) (G : List Nat) (gb : Nat) (B : Bk) (hb : BA w base G gb B) (hap : Apart F G) (n c : Nat) (hcr : Cr D B n c) (hc : c ≤ 1000) (fs : List Int) (hfb : Bts fs) (sp : Option Addr) (cap : Nat) (hS : Src w sp cap fs) (hsb : ∀ a, 0 < fs.length → sp = some a → a.block ∉ F)
    (s2 o : Sup) (m : Nat) (hg : Good s2 o (pgO (D.crashed fs).img 0) (pgO (D.crashed fs).img 1)) (hv : validS s2 = true) (hp : s2.pg = (n : Int)) (hm : s2.ma = (m : Int)) (hmn : m ≤ n) (hml : m - 2 ≤ B.Ls.length) (hpg : Pgs (D.crashed fs) B m) (hE : s2.ge = B.gn ∧ s2.ma = B.mrk ∧ s2.hd = B.hd) (hI : ¬ 0 < B.im) :
    Calls Try.prog 30 #[.pointer (some ⟨gb, 0, none⟩), .pointer (some ⟨p, 0, none⟩), .slice sp fs.length cap] w fun e w' => ∃ (g : Nat) (D' : DS) (s' : Sup) (nx' : Nat) (ep' : Int) (B' : Bk) (F' : List Nat), e = .returned (.pointer (some ⟨g, 0, none⟩)) ∧ w.heap.size ≤ g ∧ DA w' base F' p D' ∧ FK w' g p s' nx' ep' ∧ BA w' base G gb B' ∧ Apart F' G ∧ Fr (F ++ G) w w' ∧ Gr w F F' ∧ Lv D' s' nx' ep' B' n (c + 1) ∧ D'.armed = 0 ∧ B.mrk ≤ s'.ma ∧ (∀ q : Nat, 2 ≤ q → (q : Int) < B.mrk → pgO D'.img q = pgO D.img q) := by
  have hcn := hcr.cnt
  have hgn := hcr.ge
  have hnp : D.np = n := hcr.np
  have hnpc : (D.crashed fs).np = n := (crashed_np hcr.ok fs).trans hnp
  have hvv := (validS_iff s2).1 hv
  have hm2 : 2 ≤ m := by omega
  have HCR := hid (Crash_any w base F p D h (by omega) fs hfb sp cap hS hsb)
  have HD := hid h
  have HBB := hid hb
  have HAP := hid hap
  have hge1 : s2.ge ≤ B.gn + 1 := by omega
  have HOP := hid (fun (w1 : World) (F1 : List Nat) (h1 : DA w1 base F1 p (D.crashed fs)) => Open_ok w1 base F1 p (D.crashed fs) h1 rfl (by show D.reads < _; omega) (by show D.epoch + 1 < _; omega) s2 (hg.chooses rfl) (by rw [hnpc]; exact hp))
  have HLV := hid (fun (hok : DsOk { D.crashed fs with reads := (D.crashed fs).reads + 2 + ((m - 2 : Nat) : Int), epoch := (D.crashed fs).epoch + 1 }) => hcr.lv hc fs s2 o m hg hv hp hm hmn hml hpg hge1 hok)
  have HHOF := hid (fun (w4 : World) (F4 : List Nat) (g : Nat) (h4 : DA w4 base F4 p { D.crashed fs with reads := (D.crashed fs).reads + 2, epoch := (D.crashed fs).epoch + 1 }) (k4 : FK w4 g p s2 (m : Int) (D.epoch + 1 + 1)) (b4 : BA w4 base G gb B) (a4 : Apart F4 G) => holds_in w4 base F4 p _ h4 g s2 (m : Int) (D.epoch + 1 + 1) k4 (show liveF _ _ = 0 by unfold liveF; rw [if_neg (fun q => q rfl)]; exact if_pos rfl) G gb B b4 a4 hcr.len.1 m ⟨hm2, hml, Int.le_refl _, by show m ≤ (D.crashed fs).np; omega⟩ hpg (by show D.reads + 2 + (m : Int) < _; have := hcr.small; omega))
  have HM := hid hm
  have HKM := hid (show B.mrk ≤ s2.ma from by omega)
  have HKQ := hid (show ∀ q : Nat, 2 ≤ q → (q : Int) < B.mrk → pgO (D.crashed fs).img q = pgO D.img q from fun q h2 hq => hcr.keep fs q h2 hq (by have := HKM.out; omega))
  have EE := hid (show s2.ge = B.gn ∧ s2.ma = B.mrk ∧ s2.hd = B.hd from hE)
  have E6 := hid (show (s2.ge == s2.ge) = true by simp)
  have EG := hid (show IntKind.i64.wrap (s2.ge + 1) = s2.ge + 1 by rw [IntKind.wrap_i64]; omega)
  have E713 := hid (show (s2.ge == s2.ge + 1) = false by simp; omega)
  have E74 := hid (show ¬ 0 < B.im from hI)
  clear h hb hap hS hsb hcr hg hv hp hmn hml hpg hcn hnp hnpc hvv hE hI hm hge1 hgn
  go_enter Try.func30, Try.ntmps30
  go_wp2_with fail
  refine HCR.out.mono ?_
  rintro e w1 ⟨rfl, F1, q1, q2, q3⟩
  have HFR1 := hid q2
  have HGR1 := hid q3
  have HD1 := hid q1
  have HAP1 := hid (show Apart F1 G from HAP.out.step (fun k hk => (HBB.out.lt k hk).2) q3)
  have HBA1 := hid (HBB.out.other q2 HAP.out)
  have HOP1 := hid (HOP.out w1 F1 q1)
  clear q1 q2 q3 HCR HOP
  go_wp2_with fail
  refine HOP1.out.mono ?_
  rintro e w2 ⟨g, rfl, hg2, hK2, hD2, hF2⟩
  rw [show (D.crashed fs).epoch + 1 = D.epoch + 1 + 1 from rfl, HM.out] at hK2
  have HBA2 := hid (HBA1.out.other hF2 HAP1.out)
  have HFR2 := hid (HFR1.out.trans hF2 HGR1.out)
  have HD2 := hid hD2
  have HK2 := hid hK2
  have HG2 := hid (Nat.le_trans HFR1.out.size hg2)
  have HSU := hid (FSuper_any w2 g p s2 (m : Int) (D.epoch + 1 + 1) hK2)
  clear hg2 hK2 hD2 hF2 HOP1
  go_wp2_with (first
    | (go_at_call 17; refine HSU.out.mono ?_; rintro e w3 ⟨rfl, hb3⟩; have HB3 := hid hb3; clear hb3)
    | (refine wpList_store_row (by rfl) 37 (.tmp 9) (.tmp 27) (by rfl) w3.heap.size (supC s2) (by rfl) (by rfl) 37 _ (by exact hnew _ _) (supN s2) (supZ s2) (supO s2) ?_; rw [setRow_alloc]; have r9 := hnew w3 (.cells (supC s2) 37); have b4 := below_new w3 (.cells (supC s2) 37); generalize hw4 : w3.alloc (.cells (supC s2) 37) = w4 at *; generalize hG9 : w3.heap.size = G9 at *))
  rw [← hG9] at b4
  have hb24 : Below w2.heap.size w2 w4 := HB3.out.trans (b4.mono HB3.out.size)
  obtain ⟨F4, hF4⟩ : ∃ F4, F4 = F1 := ⟨_, rfl⟩
  rw [← hF4] at HD2 HAP1 HGR1
  have HBA4 := hid (HBA2.out.below hb24)
  have HD4 := hid (HD2.out.below hb24)
  have HK4 := hid (HK2.out.below hb24)
  have HFR4 := hid (HFR2.out.tail (F' := F) hb24)
  have HAP4 := hid HAP1.out
  have R9 := hid r9
  have HHO := hid (HHOF.out w4.drew.drew.drew F4 g HD4.out.drew.drew.drew HK4.out.drew.drew.drew (HBA4.out.of_heap (Nat.le_refl _) (fun k hk => rfl)) HAP4.out)
  have HX10 := hid (fun (w5 : World) (hF5 : Fr F4 w4.drew.drew.drew w5) => (show w5.cell? ⟨G9, 2, none⟩ = some (.int .i64 (m : Int)) from by
    have q := hF5.keep (show w4.drew.drew.drew.heap[G9]? = _ from R9.out) (HD4.out.not_in R9.out (by decide) (by decide) (by decide))
    rw [cell_sup2 q, HM.out]))
  have HNX := hid (fun (w5 : World) (hF5 : Fr F4 w4.drew.drew.drew w5) => FNext_any w5 g p s2 (m : Int) (D.epoch + 1 + 1) (HK4.out.drew.drew.drew.other HD4.out.drew.drew.drew hF5))
  have HEND := hid (fun (w5 : World) (hD5 : DA w5 base F4 p { D.crashed fs with reads := (D.crashed fs).reads + 2 + ((m - 2 : Nat) : Int), epoch := (D.crashed fs).epoch + 1 }) (hK5 : FK w5 g p s2 (m : Int) (D.epoch + 1 + 1)) (hB5 : BA w5 base G gb B) (hF5 : Fr F4 w4.drew.drew.drew w5) (hgF : gb ∉ F4) (hgg : gb ≠ g) =>
    (show ∃ (g' : Nat) (D' : DS) (s' : Sup) (nx' : Nat) (ep' : Int) (B' : Bk) (F' : List Nat), Ending.returned (Value.pointer (some ⟨g, 0, none⟩)) = Ending.returned (Value.pointer (some ⟨g', 0, none⟩)) ∧ w.heap.size ≤ g' ∧ DA ((((w5.setCell ⟨gb, 2, none⟩ (.int .i64 s2.ma)).setCell ⟨gb, 4, none⟩ (.int .i64 s2.hd)).setCell ⟨gb, 3, none⟩ (.int .i64 s2.ge)).setCell ⟨gb, 5, none⟩ (.int .i64 0)) base F' p D' ∧ FK ((((w5.setCell ⟨gb, 2, none⟩ (.int .i64 s2.ma)).setCell ⟨gb, 4, none⟩ (.int .i64 s2.hd)).setCell ⟨gb, 3, none⟩ (.int .i64 s2.ge)).setCell ⟨gb, 5, none⟩ (.int .i64 0)) g' p s' nx' ep' ∧ BA ((((w5.setCell ⟨gb, 2, none⟩ (.int .i64 s2.ma)).setCell ⟨gb, 4, none⟩ (.int .i64 s2.hd)).setCell ⟨gb, 3, none⟩ (.int .i64 s2.ge)).setCell ⟨gb, 5, none⟩ (.int .i64 0)) base G gb B' ∧ Apart F' G ∧ Fr (F ++ G) w ((((w5.setCell ⟨gb, 2, none⟩ (.int .i64 s2.ma)).setCell ⟨gb, 4, none⟩ (.int .i64 s2.hd)).setCell ⟨gb, 3, none⟩ (.int .i64 s2.ge)).setCell ⟨gb, 5, none⟩ (.int .i64 0)) ∧ Gr w F F' ∧ Lv D' s' nx' ep' B' n (c + 1) ∧ D'.armed = 0 ∧ B.mrk ≤ s'.ma ∧ (∀ q : Nat, 2 ≤ q → (q : Int) < B.mrk → pgO D'.img q = pgO D.img q) from by
      have hmG : gb ∈ F ++ G := List.mem_append_right _ hB5.gbG
      have fr5 : Fr (F ++ G) w w5 := (HFR4.out.mono (fun k hk => List.mem_append_left _ hk)).drew.drew.drew.trans hF5 (fun k hk => (HGR1.out k hk).imp (fun q => List.mem_append_left _ q) id)
      refine ⟨g, _, s2, m, D.epoch + 1 + 1, { B with mrk := s2.ma, gn := s2.ge, hd := s2.hd, im := 0 }, F4, rfl, HG2.out, (((hD5.setCellN hgF 2 _).setCellN hgF 4 _).setCellN hgF 3 _).setCellN hgF 5 _, ?_, (((hB5.setM _).setH _).setG _).setI _, HAP4.out, (((fr5.setCell hmG 2 _).setCell hmG 4 _).setCell hmG 3 _).setCell hmG 5 _, HGR1.out, HLV.out hD5.ok, rfl, HKM.out, HKQ.out⟩
      show ((((w5.setCell ⟨gb, 2, none⟩ _).setCell ⟨gb, 4, none⟩ _).setCell ⟨gb, 3, none⟩ _).setCell ⟨gb, 5, none⟩ _).heap[g]? = _
      rw [heap_setCell_other _ ⟨gb, 5, none⟩ g _ (fun e => hgg e.symm), heap_setCell_other _ ⟨gb, 3, none⟩ g _ (fun e => hgg e.symm), heap_setCell_other _ ⟨gb, 4, none⟩ g _ (fun e => hgg e.symm), heap_setCell_other _ ⟨gb, 2, none⟩ g _ (fun e => hgg e.symm)]
      exact hK5))
  have X6 : Hid (w4.drew.cell? ⟨G9, 1, none⟩ = some (.int .i64 s2.ge) ∧ w4.drew.cell? ⟨G9, 2, none⟩ = some (.int .i64 (m : Int)) ∧ w4.drew.cell? ⟨G9, 3, none⟩ = some (.int .i64 s2.hd) ∧ w4.drew.cell? ⟨gb, 2, none⟩ = some (.int .i64 (m : Int)) ∧ w4.drew.cell? ⟨gb, 3, none⟩ = some (.int .i64 s2.ge) ∧ w4.drew.cell? ⟨gb, 4, none⟩ = some (.int .i64 s2.hd) ∧ w4.drew.cell? ⟨gb, 5, none⟩ = some (.int .i64 B.im) ∧ w4.drew.cell? ⟨gb, 6, none⟩ = some (.int .i64 B.ih)) := hid (by
    obtain ⟨b2, b3, b4, b5, b6, _⟩ := HBA4.out.cell
    refine ⟨?_, ?_, ?_, ?_, ?_, ?_, ?_, ?_⟩
    · show w4.cell? _ = _; rw [cell_sup1 R9.out]; try first | rfl | rw [EE.out.1]
    · show w4.cell? _ = _; rw [cell_sup2 R9.out, HM.out]
    · show w4.cell? _ = _; rw [cell_sup3 R9.out]; try first | rfl | rw [EE.out.2.2]
    · show w4.cell? _ = _; rw [b2]; try first | rfl | rw [← EE.out.2.1, HM.out]
    · show w4.cell? _ = _; rw [b3]; try first | rfl | rw [← EE.out.1]
    · show w4.cell? _ = _; rw [b4]; try first | rfl | rw [← EE.out.2.2]
    · show w4.cell? _ = _; rw [b5]; try first | rfl | rw [← EE.out.2.1, HM.out]
    · show w4.cell? _ = _; rw [b6])
  clear r9 b4 hb24 HHOF HLV HFR1 HBA1 HFR2 HD2 HK2 HSU HB3 hw4 HGR1 HAP1 HBA2 HAP HBB HD HD1
  go_wp2
  refine wp_region_noPanic ?_
  refine wp_region_held_drew (S := fun w' => w'.cell? ⟨G9, 1, none⟩ = some (.int .i64 s2.ge) ∧ w'.cell? ⟨G9, 2, none⟩ = some (.int .i64 (m : Int)) ∧ w'.cell? ⟨G9, 3, none⟩ = some (.int .i64 s2.hd) ∧ w'.cell? ⟨gb, 2, none⟩ = some (.int .i64 (m : Int)) ∧ w'.cell? ⟨gb, 3, none⟩ = some (.int .i64 s2.ge) ∧ w'.cell? ⟨gb, 4, none⟩ = some (.int .i64 s2.hd) ∧ w'.cell? ⟨gb, 5, none⟩ = some (.int .i64 B.im) ∧ w'.cell? ⟨gb, 6, none⟩ = some (.int .i64 B.ih)) (by kernel_rfl) X6.out (fun hHeld => ?_)
  refine wpAnyH_take (i := 0) (oi := { dst := some 28, op := Op.fieldAddr 37 (Operand.tmp 9) 1, type := 0, pos := "outright.go:133", after := #[], guard := none }) (v := .pointer (some ⟨G9, 1, none⟩)) rfl (by kernel_rfl) (by kernel_rfl) (by kernel_rfl) (fun _ _ _ h => h) (Or.inl ⟨by rfl, by intro w hS; go_simp⟩) hHeld ?_
  try simp only [Act.put, List.setIfInBounds_toArray, List.set_cons_zero, List.set_cons_succ]
  refine wpAnyH_take (i := 2) (oi := { dst := some 30, op := Op.move (Operand.tmp 0), type := 44, pos := "outright.go:133", after := #[], guard := none }) (v := .pointer (some ⟨gb, 0, none⟩)) rfl (by kernel_rfl) (by kernel_rfl) (by kernel_rfl) (fun _ _ _ h => h) (Or.inl ⟨by rfl, by intro w hS; go_simp⟩) hHeld ?_
  try simp only [Act.put, List.setIfInBounds_toArray, List.set_cons_zero, List.set_cons_succ]
  refine wpAnyH_take (i := 1) (oi := { dst := some 29, op := Op.load 3 (Operand.tmp 28), type := 3, pos := "outright.go:133", after := #[{ on := 0, ground := Ground.data }], guard := none }) (v := .int .i64 s2.ge) rfl (by kernel_rfl) (by kernel_rfl) (by kernel_rfl) (fun _ _ _ h => h) (Or.inl ⟨by rfl, by intro w hS; have hc := hS.1; go_simp⟩) hHeld ?_
  try simp only [Act.put, List.setIfInBounds_toArray, List.set_cons_zero, List.set_cons_succ]
  refine wpAnyH_take (i := 3) (oi := { dst := some 31, op := Op.nilCheck (Operand.tmp 30), type := 0, pos := "outright.go:133", after := #[{ on := 2, ground := Ground.data }], guard := none }) (v := .pointer (some ⟨gb, 0, none⟩)) rfl (by kernel_rfl) (by kernel_rfl) (by kernel_rfl) (fun _ _ _ h => h) (Or.inl ⟨by rfl, by intro w hS; go_simp⟩) hHeld ?_
  try simp only [Act.put, List.setIfInBounds_toArray, List.set_cons_zero, List.set_cons_succ]
  refine wpAnyH_take (i := 4) (oi := { dst := some 32, op := Op.fieldAddr 48 (Operand.tmp 31) 3, type := 0, pos := "outright.go:133", after := #[{ on := 3, ground := Ground.data }], guard := none }) (v := .pointer (some ⟨gb, 3, none⟩)) rfl (by kernel_rfl) (by kernel_rfl) (by kernel_rfl) (fun _ _ _ h => h) (Or.inl ⟨by rfl, by intro w hS; go_simp⟩) hHeld ?_
  try simp only [Act.put, List.setIfInBounds_toArray, List.set_cons_zero, List.set_cons_succ]
  refine wpAnyH_take (i := 5) (oi := { dst := some 33, op := Op.load 3 (Operand.tmp 32), type := 3, pos := "outright.go:133", after := #[{ on := 4, ground := Ground.data }], guard := none }) (v := .int .i64 s2.ge) rfl (by kernel_rfl) (by kernel_rfl) (by kernel_rfl) (fun _ _ _ h => h) (Or.inl ⟨by rfl, by intro w hS; have hc := hS.2.2.2.2.1; go_simp⟩) hHeld ?_
  try simp only [Act.put, List.setIfInBounds_toArray, List.set_cons_zero, List.set_cons_succ]
  refine wpAnyH_take (i := 6) (oi := { dst := some 34, op := Op.binOp BinOp.eql 3 (Operand.tmp 29) (Operand.tmp 33) 3, type := 4, pos := "outright.go:133", after := #[{ on := 1, ground := Ground.data }, { on := 5, ground := Ground.data }], guard := none }) (v := .bool true) rfl (by kernel_rfl) (by kernel_rfl) (by kernel_rfl) (fun _ _ _ h => h) (Or.inl ⟨by rfl, by intro w hS; (have he := E6.out; go_simp)⟩) hHeld ?_
  try simp only [Act.put, List.setIfInBounds_toArray, List.set_cons_zero, List.set_cons_succ]
  refine wpAnyH_take (i := 7) (oi := { dst := some 35, op := Op.move (Operand.tmp 34), type := 4, pos := "outright.go:133", after := #[{ on := 6, ground := Ground.data }], guard := none }) (v := .bool true) rfl (by kernel_rfl) (by kernel_rfl) (by kernel_rfl) (fun _ _ _ h => h) (Or.inl ⟨by rfl, by intro w hS; go_simp⟩) hHeld ?_
  try simp only [Act.put, List.setIfInBounds_toArray, List.set_cons_zero, List.set_cons_succ]
  refine wpAnyH_take (i := 8) (oi := { dst := some 36, op := Op.fieldAddr 37 (Operand.tmp 9) 2, type := 0, pos := "outright.go:133", after := #[{ on := 7, ground := Ground.guard }], guard := some (7, true) }) (v := .pointer (some ⟨G9, 2, none⟩)) rfl (by kernel_rfl) (by kernel_rfl) (by kernel_rfl) (fun _ _ _ h => h) (Or.inl ⟨by rfl, by intro w hS; go_simp⟩) hHeld ?_
  try simp only [Act.put, List.setIfInBounds_toArray, List.set_cons_zero, List.set_cons_succ]
  refine wpAnyH_take (i := 10) (oi := { dst := some 38, op := Op.move (Operand.tmp 0), type := 44, pos := "outright.go:133", after := #[{ on := 7, ground := Ground.guard }], guard := some (7, true) }) (v := .pointer (some ⟨gb, 0, none⟩)) rfl (by kernel_rfl) (by kernel_rfl) (by kernel_rfl) (fun _ _ _ h => h) (Or.inl ⟨by rfl, by intro w hS; go_simp⟩) hHeld ?_
  try simp only [Act.put, List.setIfInBounds_toArray, List.set_cons_zero, List.set_cons_succ]
  refine wpAnyH_take (i := 9) (oi := { dst := some 37, op := Op.load 3 (Operand.tmp 36), type := 3, pos := "outright.go:133", after := #[{ on := 8, ground := Ground.data }, { on := 7, ground := Ground.guard }], guard := some (7, true) }) (v := .int .i64 (m : Int)) rfl (by kernel_rfl) (by kernel_rfl) (by kernel_rfl) (fun _ _ _ h => h) (Or.inl ⟨by rfl, by intro w hS; have hc := hS.2.1; go_simp⟩) hHeld ?_
  try simp only [Act.put, List.setIfInBounds_toArray, List.set_cons_zero, List.set_cons_succ]
  refine wpAnyH_take (i := 11) (oi := { dst := some 39, op := Op.nilCheck (Operand.tmp 38), type := 0, pos := "outright.go:133", after := #[{ on := 10, ground := Ground.data }, { on := 7, ground := Ground.guard }], guard := some (7, true) }) (v := .pointer (some ⟨gb, 0, none⟩)) rfl (by kernel_rfl) (by kernel_rfl) (by kernel_rfl) (fun _ _ _ h => h) (Or.inl ⟨by rfl, by intro w hS; go_simp⟩) hHeld ?_
  try simp only [Act.put, List.setIfInBounds_toArray, List.set_cons_zero, List.set_cons_succ]
  refine wpAnyH_take (i := 12) (oi := { dst := some 40, op := Op.fieldAddr 48 (Operand.tmp 39) 2, type := 0, pos := "outright.go:133", after := #[{ on := 11, ground := Ground.data }, { on := 7, ground := Ground.guard }], guard := some (7, true) }) (v := .pointer (some ⟨gb, 2, none⟩)) rfl (by kernel_rfl) (by kernel_rfl) (by kernel_rfl) (fun _ _ _ h => h) (Or.inl ⟨by rfl, by intro w hS; go_simp⟩) hHeld ?_
  try simp only [Act.put, List.setIfInBounds_toArray, List.set_cons_zero, List.set_cons_succ]
  refine wpAnyH_take (i := 13) (oi := { dst := some 41, op := Op.load 3 (Operand.tmp 40), type := 3, pos := "outright.go:133", after := #[{ on := 12, ground := Ground.data }, { on := 7, ground := Ground.guard }], guard := some (7, true) }) (v := .int .i64 (m : Int)) rfl (by kernel_rfl) (by kernel_rfl) (by kernel_rfl) (fun _ _ _ h => h) (Or.inl ⟨by rfl, by intro w hS; have hc := hS.2.2.2.1; go_simp⟩) hHeld ?_
  try simp only [Act.put, List.setIfInBounds_toArray, List.set_cons_zero, List.set_cons_succ]
  refine wpAnyH_take (i := 14) (oi := { dst := some 42, op := Op.binOp BinOp.eql 3 (Operand.tmp 37) (Operand.tmp 41) 3, type := 4, pos := "outright.go:133", after := #[{ on := 9, ground := Ground.data }, { on := 13, ground := Ground.data }, { on := 7, ground := Ground.guard }], guard := some (7, true) }) (v := .bool true) rfl (by kernel_rfl) (by kernel_rfl) (by kernel_rfl) (fun _ _ _ h => h) (Or.inl ⟨by rfl, by intro w hS; go_simp⟩) hHeld ?_
  try simp only [Act.put, List.setIfInBounds_toArray, List.set_cons_zero, List.set_cons_succ]
  refine wpAnyH_take (i := 15) (oi := { dst := some 43, op := Op.pick (Operand.tmp 35) (Operand.tmp 42) (Operand.const (Value.bool false)), type := 4, pos := "outright.go:133", after := #[{ on := 7, ground := Ground.data }, { on := 14, ground := Ground.data }], guard := none }) (v := .bool true) rfl (by kernel_rfl) (by kernel_rfl) (by kernel_rfl) (fun _ _ _ h => h) (Or.inl ⟨by rfl, by intro w hS; go_simp⟩) hHeld ?_
  try simp only [Act.put, List.setIfInBounds_toArray, List.set_cons_zero, List.set_cons_succ]
  refine wpAnyH_take (i := 16) (oi := { dst := some 44, op := Op.move (Operand.tmp 43), type := 4, pos := "outright.go:133", after := #[{ on := 15, ground := Ground.data }, { on := 7, ground := Ground.chain }], guard := none }) (v := .bool true) rfl (by kernel_rfl) (by kernel_rfl) (by kernel_rfl) (fun _ _ _ h => h) (Or.inl ⟨by rfl, by intro w hS; go_simp⟩) hHeld ?_
  try simp only [Act.put, List.setIfInBounds_toArray, List.set_cons_zero, List.set_cons_succ]
  refine wpAnyH_take (i := 17) (oi := { dst := some 45, op := Op.fieldAddr 37 (Operand.tmp 9) 3, type := 0, pos := "outright.go:133", after := #[{ on := 16, ground := Ground.guard }], guard := some (16, true) }) (v := .pointer (some ⟨G9, 3, none⟩)) rfl (by kernel_rfl) (by kernel_rfl) (by kernel_rfl) (fun _ _ _ h => h) (Or.inl ⟨by rfl, by intro w hS; go_simp⟩) hHeld ?_
  try simp only [Act.put, List.setIfInBounds_toArray, List.set_cons_zero, List.set_cons_succ]
  refine wpAnyH_take (i := 19) (oi := { dst := some 47, op := Op.move (Operand.tmp 0), type := 44, pos := "outright.go:133", after := #[{ on := 16, ground := Ground.guard }], guard := some (16, true) }) (v := .pointer (some ⟨gb, 0, none⟩)) rfl (by kernel_rfl) (by kernel_rfl) (by kernel_rfl) (fun _ _ _ h => h) (Or.inl ⟨by rfl, by intro w hS; go_simp⟩) hHeld ?_
  try simp only [Act.put, List.setIfInBounds_toArray, List.set_cons_zero, List.set_cons_succ]
  refine wpAnyH_take (i := 18) (oi := { dst := some 46, op := Op.load 3 (Operand.tmp 45), type := 3, pos := "outright.go:133", after := #[{ on := 17, ground := Ground.data }, { on := 16, ground := Ground.guard }], guard := some (16, true) }) (v := .int .i64 s2.hd) rfl (by kernel_rfl) (by kernel_rfl) (by kernel_rfl) (fun _ _ _ h => h) (Or.inl ⟨by rfl, by intro w hS; have hc := hS.2.2.1; go_simp⟩) hHeld ?_
  try simp only [Act.put, List.setIfInBounds_toArray, List.set_cons_zero, List.set_cons_succ]
  refine wpAnyH_take (i := 20) (oi := { dst := some 48, op := Op.nilCheck (Operand.tmp 47), type := 0, pos := "outright.go:133", after := #[{ on := 19, ground := Ground.data }, { on := 16, ground := Ground.guard }], guard := some (16, true) }) (v := .pointer (some ⟨gb, 0, none⟩)) rfl (by kernel_rfl) (by kernel_rfl) (by kernel_rfl) (fun _ _ _ h => h) (Or.inl ⟨by rfl, by intro w hS; go_simp⟩) hHeld ?_
  try simp only [Act.put, List.setIfInBounds_toArray, List.set_cons_zero, List.set_cons_succ]
  refine wpAnyH_take (i := 21) (oi := { dst := some 49, op := Op.fieldAddr 48 (Operand.tmp 48) 4, type := 0, pos := "outright.go:133", after := #[{ on := 20, ground := Ground.data }, { on := 16, ground := Ground.guard }], guard := some (16, true) }) (v := .pointer (some ⟨gb, 4, none⟩)) rfl (by kernel_rfl) (by kernel_rfl) (by kernel_rfl) (fun _ _ _ h => h) (Or.inl ⟨by rfl, by intro w hS; go_simp⟩) hHeld ?_
  try simp only [Act.put, List.setIfInBounds_toArray, List.set_cons_zero, List.set_cons_succ]
  refine wpAnyH_take (i := 22) (oi := { dst := some 50, op := Op.load 3 (Operand.tmp 49), type := 3, pos := "outright.go:133", after := #[{ on := 21, ground := Ground.data }, { on := 16, ground := Ground.guard }], guard := some (16, true) }) (v := .int .i64 s2.hd) rfl (by kernel_rfl) (by kernel_rfl) (by kernel_rfl) (fun _ _ _ h => h) (Or.inl ⟨by rfl, by intro w hS; have hc := hS.2.2.2.2.2.1; go_simp⟩) hHeld ?_
  try simp only [Act.put, List.setIfInBounds_toArray, List.set_cons_zero, List.set_cons_succ]
  refine wpAnyH_take (i := 23) (oi := { dst := some 51, op := Op.binOp BinOp.eql 3 (Operand.tmp 46) (Operand.tmp 50) 3, type := 4, pos := "outright.go:133", after := #[{ on := 18, ground := Ground.data }, { on := 22, ground := Ground.data }, { on := 16, ground := Ground.guard }], guard := some (16, true) }) (v := .bool true) rfl (by kernel_rfl) (by kernel_rfl) (by kernel_rfl) (fun _ _ _ h => h) (Or.inl ⟨by rfl, by intro w hS; go_simp⟩) hHeld ?_
  try simp only [Act.put, List.setIfInBounds_toArray, List.set_cons_zero, List.set_cons_succ]
  refine wpAnyH_take (i := 24) (oi := { dst := some 52, op := Op.pick (Operand.tmp 44) (Operand.tmp 51) (Operand.const (Value.bool false)), type := 4, pos := "outright.go:133", after := #[{ on := 16, ground := Ground.data }, { on := 23, ground := Ground.data }], guard := none }) (v := .bool true) rfl (by kernel_rfl) (by kernel_rfl) (by kernel_rfl) (fun _ _ _ h => h) (Or.inl ⟨by rfl, by intro w hS; go_simp⟩) hHeld ?_
  try simp only [Act.put, List.setIfInBounds_toArray, List.set_cons_zero, List.set_cons_succ]
  refine wpAnyH_take (i := 25) (oi := { dst := some 10, op := Op.assign (Operand.tmp 52), type := 4, pos := "outright.go:133", after := #[{ on := 24, ground := Ground.data }, { on := 16, ground := Ground.chain }, { on := 0, ground := Ground.phase }, { on := 1, ground := Ground.phase }, { on := 2, ground := Ground.phase }, { on := 3, ground := Ground.phase }, { on := 4, ground := Ground.phase }, { on := 5, ground := Ground.phase }, { on := 6, ground := Ground.phase }, { on := 7, ground := Ground.phase }, { on := 8, ground := Ground.phase }, { on := 9, ground := Ground.phase }, { on := 10, ground := Ground.phase }, { on := 11, ground := Ground.phase }, { on := 12, ground := Ground.phase }, { on := 13, ground := Ground.phase }, { on := 14, ground := Ground.phase }, { on := 15, ground := Ground.phase }, { on := 16, ground := Ground.phase }, { on := 17, ground := Ground.phase }, { on := 18, ground := Ground.phase }, { on := 19, ground := Ground.phase }, { on := 20, ground := Ground.phase }, { on := 21, ground := Ground.phase }, { on := 22, ground := Ground.phase }, { on := 23, ground := Ground.phase }, { on := 24, ground := Ground.phase }], guard := none }) (v := .bool true) rfl (by kernel_rfl) (by kernel_rfl) (by kernel_rfl) (fun _ _ _ h => h) (Or.inl ⟨by rfl, by intro w hS; go_simp⟩) hHeld ?_
  try simp only [Act.put, List.setIfInBounds_toArray, List.set_cons_zero, List.set_cons_succ]
  refine wpAnyH_done (by kernel_rfl) ?_ _
  refine NoPanic.normal ?_
  go_wp2
  have X7 := hid hHeld
  clear hHeld X6
  refine wp_region_noPanic ?_
  refine wp_region_held_drew (S := fun w' => w'.cell? ⟨G9, 1, none⟩ = some (.int .i64 s2.ge) ∧ w'.cell? ⟨G9, 2, none⟩ = some (.int .i64 (m : Int)) ∧ w'.cell? ⟨G9, 3, none⟩ = some (.int .i64 s2.hd) ∧ w'.cell? ⟨gb, 2, none⟩ = some (.int .i64 (m : Int)) ∧ w'.cell? ⟨gb, 3, none⟩ = some (.int .i64 s2.ge) ∧ w'.cell? ⟨gb, 4, none⟩ = some (.int .i64 s2.hd) ∧ w'.cell? ⟨gb, 5, none⟩ = some (.int .i64 B.im) ∧ w'.cell? ⟨gb, 6, none⟩ = some (.int .i64 B.ih)) (by kernel_rfl) X7.out (fun hHeld => ?_)
  refine wpAnyH_take (i := 0) (oi := { dst := some 53, op := Op.move (Operand.tmp 0), type := 44, pos := "outright.go:134", after := #[], guard := none }) (v := .pointer (some ⟨gb, 0, none⟩)) rfl (by kernel_rfl) (by kernel_rfl) (by kernel_rfl) (fun _ _ _ h => h) (Or.inl ⟨by rfl, by intro w hS; go_simp⟩) hHeld ?_
  try simp only [Act.put, List.setIfInBounds_toArray, List.set_cons_zero, List.set_cons_succ]
  refine wpAnyH_take (i := 1) (oi := { dst := some 54, op := Op.nilCheck (Operand.tmp 53), type := 0, pos := "outright.go:134", after := #[{ on := 0, ground := Ground.data }], guard := none }) (v := .pointer (some ⟨gb, 0, none⟩)) rfl (by kernel_rfl) (by kernel_rfl) (by kernel_rfl) (fun _ _ _ h => h) (Or.inl ⟨by rfl, by intro w hS; go_simp⟩) hHeld ?_
  try simp only [Act.put, List.setIfInBounds_toArray, List.set_cons_zero, List.set_cons_succ]
  refine wpAnyH_take (i := 2) (oi := { dst := some 55, op := Op.fieldAddr 48 (Operand.tmp 54) 5, type := 0, pos := "outright.go:134", after := #[{ on := 1, ground := Ground.data }], guard := none }) (v := .pointer (some ⟨gb, 5, none⟩)) rfl (by kernel_rfl) (by kernel_rfl) (by kernel_rfl) (fun _ _ _ h => h) (Or.inl ⟨by rfl, by intro w hS; go_simp⟩) hHeld ?_
  try simp only [Act.put, List.setIfInBounds_toArray, List.set_cons_zero, List.set_cons_succ]
  refine wpAnyH_take (i := 3) (oi := { dst := some 56, op := Op.load 3 (Operand.tmp 55), type := 3, pos := "outright.go:134", after := #[{ on := 2, ground := Ground.data }], guard := none }) (v := .int .i64 B.im) rfl (by kernel_rfl) (by kernel_rfl) (by kernel_rfl) (fun _ _ _ h => h) (Or.inl ⟨by rfl, by intro w hS; have hc := hS.2.2.2.2.2.2.1; go_simp⟩) hHeld ?_
  try simp only [Act.put, List.setIfInBounds_toArray, List.set_cons_zero, List.set_cons_succ]
  refine wpAnyH_take (i := 4) (oi := { dst := some 57, op := Op.binOp BinOp.gtr 3 (Operand.tmp 56) (Operand.const (Value.int IntKind.i64 0)) 3, type := 4, pos := "outright.go:134", after := #[{ on := 3, ground := Ground.data }], guard := none }) (v := .bool false) rfl (by kernel_rfl) (by kernel_rfl) (by kernel_rfl) (fun _ _ _ h => h) (Or.inl ⟨by rfl, by intro w hS; (have he := E74.out; go_simp)⟩) hHeld ?_
  try simp only [Act.put, List.setIfInBounds_toArray, List.set_cons_zero, List.set_cons_succ]
  refine wpAnyH_take (i := 5) (oi := { dst := some 58, op := Op.move (Operand.tmp 57), type := 4, pos := "outright.go:134", after := #[{ on := 4, ground := Ground.data }], guard := none }) (v := .bool false) rfl (by kernel_rfl) (by kernel_rfl) (by kernel_rfl) (fun _ _ _ h => h) (Or.inl ⟨by rfl, by intro w hS; go_simp⟩) hHeld ?_
  try simp only [Act.put, List.setIfInBounds_toArray, List.set_cons_zero, List.set_cons_succ]
  refine wpAnyH_take (i := 6) (oi := { dst := some 59, op := Op.fieldAddr 37 (Operand.tmp 9) 1, type := 0, pos := "outright.go:134", after := #[{ on := 5, ground := Ground.guard }], guard := some (5, true) }) (v := undef) rfl (by kernel_rfl) (by kernel_rfl) (by kernel_rfl) (fun _ _ _ h => h) (Or.inr ⟨by rfl, rfl⟩) hHeld ?_
  try simp only [Act.put, List.setIfInBounds_toArray, List.set_cons_zero, List.set_cons_succ]
  refine wpAnyH_take (i := 8) (oi := { dst := some 61, op := Op.move (Operand.tmp 0), type := 44, pos := "outright.go:134", after := #[{ on := 5, ground := Ground.guard }], guard := some (5, true) }) (v := undef) rfl (by kernel_rfl) (by kernel_rfl) (by kernel_rfl) (fun _ _ _ h => h) (Or.inr ⟨by rfl, rfl⟩) hHeld ?_
  try simp only [Act.put, List.setIfInBounds_toArray, List.set_cons_zero, List.set_cons_succ]
  refine wpAnyH_take (i := 7) (oi := { dst := some 60, op := Op.load 3 (Operand.tmp 59), type := 3, pos := "outright.go:134", after := #[{ on := 6, ground := Ground.data }, { on := 5, ground := Ground.guard }], guard := some (5, true) }) (v := undef) rfl (by kernel_rfl) (by kernel_rfl) (by kernel_rfl) (fun _ _ _ h => h) (Or.inr ⟨by rfl, rfl⟩) hHeld ?_
  try simp only [Act.put, List.setIfInBounds_toArray, List.set_cons_zero, List.set_cons_succ]
  refine wpAnyH_take (i := 9) (oi := { dst := some 62, op := Op.nilCheck (Operand.tmp 61), type := 0, pos := "outright.go:134", after := #[{ on := 8, ground := Ground.data }, { on := 5, ground := Ground.guard }], guard := some (5, true) }) (v := undef) rfl (by kernel_rfl) (by kernel_rfl) (by kernel_rfl) (fun _ _ _ h => h) (Or.inr ⟨by rfl, rfl⟩) hHeld ?_
  try simp only [Act.put, List.setIfInBounds_toArray, List.set_cons_zero, List.set_cons_succ]
  refine wpAnyH_take (i := 10) (oi := { dst := some 63, op := Op.fieldAddr 48 (Operand.tmp 62) 3, type := 0, pos := "outright.go:134", after := #[{ on := 9, ground := Ground.data }, { on := 5, ground := Ground.guard }], guard := some (5, true) }) (v := undef) rfl (by kernel_rfl) (by kernel_rfl) (by kernel_rfl) (fun _ _ _ h => h) (Or.inr ⟨by rfl, rfl⟩) hHeld ?_
  try simp only [Act.put, List.setIfInBounds_toArray, List.set_cons_zero, List.set_cons_succ]
  refine wpAnyH_take (i := 11) (oi := { dst := some 64, op := Op.load 3 (Operand.tmp 63), type := 3, pos := "outright.go:134", after := #[{ on := 10, ground := Ground.data }, { on := 5, ground := Ground.guard }], guard := some (5, true) }) (v := undef) rfl (by kernel_rfl) (by kernel_rfl) (by kernel_rfl) (fun _ _ _ h => h) (Or.inr ⟨by rfl, rfl⟩) hHeld ?_
  try simp only [Act.put, List.setIfInBounds_toArray, List.set_cons_zero, List.set_cons_succ]
  refine wpAnyH_take (i := 12) (oi := { dst := some 65, op := Op.binOp BinOp.add 3 (Operand.tmp 64) (Operand.const (Value.int IntKind.i64 1)) 3, type := 3, pos := "outright.go:134", after := #[{ on := 11, ground := Ground.data }, { on := 5, ground := Ground.guard }], guard := some (5, true) }) (v := undef) rfl (by kernel_rfl) (by kernel_rfl) (by kernel_rfl) (fun _ _ _ h => h) (Or.inr ⟨by rfl, rfl⟩) hHeld ?_
  try simp only [Act.put, List.setIfInBounds_toArray, List.set_cons_zero, List.set_cons_succ]
  refine wpAnyH_take (i := 13) (oi := { dst := some 66, op := Op.binOp BinOp.eql 3 (Operand.tmp 60) (Operand.tmp 65) 3, type := 4, pos := "outright.go:134", after := #[{ on := 7, ground := Ground.data }, { on := 12, ground := Ground.data }, { on := 5, ground := Ground.guard }], guard := some (5, true) }) (v := undef) rfl (by kernel_rfl) (by kernel_rfl) (by kernel_rfl) (fun _ _ _ h => h) (Or.inr ⟨by rfl, rfl⟩) hHeld ?_
  try simp only [Act.put, List.setIfInBounds_toArray, List.set_cons_zero, List.set_cons_succ]
  refine wpAnyH_take (i := 14) (oi := { dst := some 67, op := Op.pick (Operand.tmp 58) (Operand.tmp 66) (Operand.const (Value.bool false)), type := 4, pos := "outright.go:134", after := #[{ on := 5, ground := Ground.data }, { on := 13, ground := Ground.data }], guard := none }) (v := .bool false) rfl (by kernel_rfl) (by kernel_rfl) (by kernel_rfl) (fun _ _ _ h => h) (Or.inl ⟨by rfl, by intro w hS; go_simp⟩) hHeld ?_
  try simp only [Act.put, List.setIfInBounds_toArray, List.set_cons_zero, List.set_cons_succ]
  refine wpAnyH_take (i := 15) (oi := { dst := some 68, op := Op.move (Operand.tmp 67), type := 4, pos := "outright.go:134", after := #[{ on := 14, ground := Ground.data }, { on := 5, ground := Ground.chain }], guard := none }) (v := .bool false) rfl (by kernel_rfl) (by kernel_rfl) (by kernel_rfl) (fun _ _ _ h => h) (Or.inl ⟨by rfl, by intro w hS; go_simp⟩) hHeld ?_
  try simp only [Act.put, List.setIfInBounds_toArray, List.set_cons_zero, List.set_cons_succ]
  refine wpAnyH_take (i := 16) (oi := { dst := some 69, op := Op.fieldAddr 37 (Operand.tmp 9) 2, type := 0, pos := "outright.go:134", after := #[{ on := 15, ground := Ground.guard }], guard := some (15, true) }) (v := undef) rfl (by kernel_rfl) (by kernel_rfl) (by kernel_rfl) (fun _ _ _ h => h) (Or.inr ⟨by rfl, rfl⟩) hHeld ?_
  try simp only [Act.put, List.setIfInBounds_toArray, List.set_cons_zero, List.set_cons_succ]
  refine wpAnyH_take (i := 18) (oi := { dst := some 71, op := Op.move (Operand.tmp 0), type := 44, pos := "outright.go:134", after := #[{ on := 15, ground := Ground.guard }], guard := some (15, true) }) (v := undef) rfl (by kernel_rfl) (by kernel_rfl) (by kernel_rfl) (fun _ _ _ h => h) (Or.inr ⟨by rfl, rfl⟩) hHeld ?_
  try simp only [Act.put, List.setIfInBounds_toArray, List.set_cons_zero, List.set_cons_succ]
  refine wpAnyH_take (i := 17) (oi := { dst := some 70, op := Op.load 3 (Operand.tmp 69), type := 3, pos := "outright.go:134", after := #[{ on := 16, ground := Ground.data }, { on := 15, ground := Ground.guard }], guard := some (15, true) }) (v := undef) rfl (by kernel_rfl) (by kernel_rfl) (by kernel_rfl) (fun _ _ _ h => h) (Or.inr ⟨by rfl, rfl⟩) hHeld ?_
  try simp only [Act.put, List.setIfInBounds_toArray, List.set_cons_zero, List.set_cons_succ]
  refine wpAnyH_take (i := 19) (oi := { dst := some 72, op := Op.nilCheck (Operand.tmp 71), type := 0, pos := "outright.go:134", after := #[{ on := 18, ground := Ground.data }, { on := 15, ground := Ground.guard }], guard := some (15, true) }) (v := undef) rfl (by kernel_rfl) (by kernel_rfl) (by kernel_rfl) (fun _ _ _ h => h) (Or.inr ⟨by rfl, rfl⟩) hHeld ?_
  try simp only [Act.put, List.setIfInBounds_toArray, List.set_cons_zero, List.set_cons_succ]
  refine wpAnyH_take (i := 20) (oi := { dst := some 73, op := Op.fieldAddr 48 (Operand.tmp 72) 5, type := 0, pos := "outright.go:134", after := #[{ on := 19, ground := Ground.data }, { on := 15, ground := Ground.guard }], guard := some (15, true) }) (v := undef) rfl (by kernel_rfl) (by kernel_rfl) (by kernel_rfl) (fun _ _ _ h => h) (Or.inr ⟨by rfl, rfl⟩) hHeld ?_
  try simp only [Act.put, List.setIfInBounds_toArray, List.set_cons_zero, List.set_cons_succ]
  refine wpAnyH_take (i := 21) (oi := { dst := some 74, op := Op.load 3 (Operand.tmp 73), type := 3, pos := "outright.go:134", after := #[{ on := 20, ground := Ground.data }, { on := 15, ground := Ground.guard }], guard := some (15, true) }) (v := undef) rfl (by kernel_rfl) (by kernel_rfl) (by kernel_rfl) (fun _ _ _ h => h) (Or.inr ⟨by rfl, rfl⟩) hHeld ?_
  try simp only [Act.put, List.setIfInBounds_toArray, List.set_cons_zero, List.set_cons_succ]
  refine wpAnyH_take (i := 22) (oi := { dst := some 75, op := Op.binOp BinOp.eql 3 (Operand.tmp 70) (Operand.tmp 74) 3, type := 4, pos := "outright.go:134", after := #[{ on := 17, ground := Ground.data }, { on := 21, ground := Ground.data }, { on := 15, ground := Ground.guard }], guard := some (15, true) }) (v := undef) rfl (by kernel_rfl) (by kernel_rfl) (by kernel_rfl) (fun _ _ _ h => h) (Or.inr ⟨by rfl, rfl⟩) hHeld ?_
  try simp only [Act.put, List.setIfInBounds_toArray, List.set_cons_zero, List.set_cons_succ]
  refine wpAnyH_take (i := 23) (oi := { dst := some 76, op := Op.pick (Operand.tmp 68) (Operand.tmp 75) (Operand.const (Value.bool false)), type := 4, pos := "outright.go:134", after := #[{ on := 15, ground := Ground.data }, { on := 22, ground := Ground.data }], guard := none }) (v := .bool false) rfl (by kernel_rfl) (by kernel_rfl) (by kernel_rfl) (fun _ _ _ h => h) (Or.inl ⟨by rfl, by intro w hS; go_simp⟩) hHeld ?_
  try simp only [Act.put, List.setIfInBounds_toArray, List.set_cons_zero, List.set_cons_succ]
  refine wpAnyH_take (i := 24) (oi := { dst := some 77, op := Op.move (Operand.tmp 76), type := 4, pos := "outright.go:134", after := #[{ on := 23, ground := Ground.data }, { on := 15, ground := Ground.chain }], guard := none }) (v := .bool false) rfl (by kernel_rfl) (by kernel_rfl) (by kernel_rfl) (fun _ _ _ h => h) (Or.inl ⟨by rfl, by intro w hS; go_simp⟩) hHeld ?_
  try simp only [Act.put, List.setIfInBounds_toArray, List.set_cons_zero, List.set_cons_succ]
  refine wpAnyH_take (i := 25) (oi := { dst := some 78, op := Op.fieldAddr 37 (Operand.tmp 9) 3, type := 0, pos := "outright.go:134", after := #[{ on := 24, ground := Ground.guard }], guard := some (24, true) }) (v := undef) rfl (by kernel_rfl) (by kernel_rfl) (by kernel_rfl) (fun _ _ _ h => h) (Or.inr ⟨by rfl, rfl⟩) hHeld ?_
  try simp only [Act.put, List.setIfInBounds_toArray, List.set_cons_zero, List.set_cons_succ]
  refine wpAnyH_take (i := 27) (oi := { dst := some 80, op := Op.move (Operand.tmp 0), type := 44, pos := "outright.go:134", after := #[{ on := 24, ground := Ground.guard }], guard := some (24, true) }) (v := undef) rfl (by kernel_rfl) (by kernel_rfl) (by kernel_rfl) (fun _ _ _ h => h) (Or.inr ⟨by rfl, rfl⟩) hHeld ?_
  try simp only [Act.put, List.setIfInBounds_toArray, List.set_cons_zero, List.set_cons_succ]
  refine wpAnyH_take (i := 26) (oi := { dst := some 79, op := Op.load 3 (Operand.tmp 78), type := 3, pos := "outright.go:134", after := #[{ on := 25, ground := Ground.data }, { on := 24, ground := Ground.guard }], guard := some (24, true) }) (v := undef) rfl (by kernel_rfl) (by kernel_rfl) (by kernel_rfl) (fun _ _ _ h => h) (Or.inr ⟨by rfl, rfl⟩) hHeld ?_
  try simp only [Act.put, List.setIfInBounds_toArray, List.set_cons_zero, List.set_cons_succ]
  refine wpAnyH_take (i := 28) (oi := { dst := some 81, op := Op.nilCheck (Operand.tmp 80), type := 0, pos := "outright.go:134", after := #[{ on := 27, ground := Ground.data }, { on := 24, ground := Ground.guard }], guard := some (24, true) }) (v := undef) rfl (by kernel_rfl) (by kernel_rfl) (by kernel_rfl) (fun _ _ _ h => h) (Or.inr ⟨by rfl, rfl⟩) hHeld ?_
  try simp only [Act.put, List.setIfInBounds_toArray, List.set_cons_zero, List.set_cons_succ]
  refine wpAnyH_take (i := 29) (oi := { dst := some 82, op := Op.fieldAddr 48 (Operand.tmp 81) 6, type := 0, pos := "outright.go:134", after := #[{ on := 28, ground := Ground.data }, { on := 24, ground := Ground.guard }], guard := some (24, true) }) (v := undef) rfl (by kernel_rfl) (by kernel_rfl) (by kernel_rfl) (fun _ _ _ h => h) (Or.inr ⟨by rfl, rfl⟩) hHeld ?_
  try simp only [Act.put, List.setIfInBounds_toArray, List.set_cons_zero, List.set_cons_succ]
  refine wpAnyH_take (i := 30) (oi := { dst := some 83, op := Op.load 3 (Operand.tmp 82), type := 3, pos := "outright.go:134", after := #[{ on := 29, ground := Ground.data }, { on := 24, ground := Ground.guard }], guard := some (24, true) }) (v := undef) rfl (by kernel_rfl) (by kernel_rfl) (by kernel_rfl) (fun _ _ _ h => h) (Or.inr ⟨by rfl, rfl⟩) hHeld ?_
  try simp only [Act.put, List.setIfInBounds_toArray, List.set_cons_zero, List.set_cons_succ]
  refine wpAnyH_take (i := 31) (oi := { dst := some 84, op := Op.binOp BinOp.eql 3 (Operand.tmp 79) (Operand.tmp 83) 3, type := 4, pos := "outright.go:134", after := #[{ on := 26, ground := Ground.data }, { on := 30, ground := Ground.data }, { on := 24, ground := Ground.guard }], guard := some (24, true) }) (v := undef) rfl (by kernel_rfl) (by kernel_rfl) (by kernel_rfl) (fun _ _ _ h => h) (Or.inr ⟨by rfl, rfl⟩) hHeld ?_
  try simp only [Act.put, List.setIfInBounds_toArray, List.set_cons_zero, List.set_cons_succ]
  refine wpAnyH_take (i := 32) (oi := { dst := some 85, op := Op.pick (Operand.tmp 77) (Operand.tmp 84) (Operand.const (Value.bool false)), type := 4, pos := "outright.go:134", after := #[{ on := 24, ground := Ground.data }, { on := 31, ground := Ground.data }], guard := none }) (v := .bool false) rfl (by kernel_rfl) (by kernel_rfl) (by kernel_rfl) (fun _ _ _ h => h) (Or.inl ⟨by rfl, by intro w hS; go_simp⟩) hHeld ?_
  try simp only [Act.put, List.setIfInBounds_toArray, List.set_cons_zero, List.set_cons_succ]
  refine wpAnyH_take (i := 33) (oi := { dst := some 11, op := Op.assign (Operand.tmp 85), type := 4, pos := "outright.go:134", after := #[{ on := 32, ground := Ground.data }, { on := 24, ground := Ground.chain }, { on := 0, ground := Ground.phase }, { on := 1, ground := Ground.phase }, { on := 2, ground := Ground.phase }, { on := 3, ground := Ground.phase }, { on := 4, ground := Ground.phase }, { on := 5, ground := Ground.phase }, { on := 6, ground := Ground.phase }, { on := 7, ground := Ground.phase }, { on := 8, ground := Ground.phase }, { on := 9, ground := Ground.phase }, { on := 10, ground := Ground.phase }, { on := 11, ground := Ground.phase }, { on := 12, ground := Ground.phase }, { on := 13, ground := Ground.phase }, { on := 14, ground := Ground.phase }, { on := 15, ground := Ground.phase }, { on := 16, ground := Ground.phase }, { on := 17, ground := Ground.phase }, { on := 18, ground := Ground.phase }, { on := 19, ground := Ground.phase }, { on := 20, ground := Ground.phase }, { on := 21, ground := Ground.phase }, { on := 22, ground := Ground.phase }, { on := 23, ground := Ground.phase }, { on := 24, ground := Ground.phase }, { on := 25, ground := Ground.phase }, { on := 26, ground := Ground.phase }, { on := 27, ground := Ground.phase }, { on := 28, ground := Ground.phase }, { on := 29, ground := Ground.phase }, { on := 30, ground := Ground.phase }, { on := 31, ground := Ground.phase }, { on := 32, ground := Ground.phase }], guard := none }) (v := .bool false) rfl (by kernel_rfl) (by kernel_rfl) (by kernel_rfl) (fun _ _ _ h => h) (Or.inl ⟨by rfl, by intro w hS; go_simp⟩) hHeld ?_
  try simp only [Act.put, List.setIfInBounds_toArray, List.set_cons_zero, List.set_cons_succ]
  refine wpAnyH_done (by kernel_rfl) ?_ _
  refine NoPanic.normal ?_
  have X8 := hid hHeld
  clear hHeld X7
  go_wp2
  have X10 := hid (show _ from X8.out.2.1)
  refine wp_region_noPanic ?_
  refine wp_region_held_drew (S := fun w' => w'.cell? ⟨G9, 2, none⟩ = some (.int .i64 (m : Int))) (by kernel_rfl) X10.out (fun hHeld => ?_)
  refine wpAnyH_take (i := 0) (oi := { dst := some 92, op := Op.move (Operand.tmp 0), type := 44, pos := "outright.go:138", after := #[], guard := none }) (v := .pointer (some ⟨gb, 0, none⟩)) rfl (by kernel_rfl) (by kernel_rfl) (by kernel_rfl) (fun _ _ _ h => h) (Or.inl ⟨by rfl, by intro w hS; go_simp⟩) hHeld ?_
  try simp only [Act.put, List.setIfInBounds_toArray, List.set_cons_zero, List.set_cons_succ]
  refine wpAnyH_take (i := 1) (oi := { dst := some 93, op := Op.move (Operand.tmp 7), type := 33, pos := "outright.go:138", after := #[], guard := none }) (v := .pointer (some ⟨g, 0, none⟩)) rfl (by kernel_rfl) (by kernel_rfl) (by kernel_rfl) (fun _ _ _ h => h) (Or.inl ⟨by rfl, by intro w hS; go_simp⟩) hHeld ?_
  try simp only [Act.put, List.setIfInBounds_toArray, List.set_cons_zero, List.set_cons_succ]
  refine wpAnyH_take (i := 2) (oi := { dst := some 94, op := Op.fieldAddr 37 (Operand.tmp 9) 2, type := 0, pos := "outright.go:138", after := #[], guard := none }) (v := .pointer (some ⟨G9, 2, none⟩)) rfl (by kernel_rfl) (by kernel_rfl) (by kernel_rfl) (fun _ _ _ h => h) (Or.inl ⟨by rfl, by intro w hS; go_simp⟩) hHeld ?_
  try simp only [Act.put, List.setIfInBounds_toArray, List.set_cons_zero, List.set_cons_succ]
  refine wpAnyH_take (i := 3) (oi := { dst := some 95, op := Op.load 3 (Operand.tmp 94), type := 3, pos := "outright.go:138", after := #[{ on := 2, ground := Ground.data }], guard := none }) (v := .int .i64 (m : Int)) rfl (by kernel_rfl) (by kernel_rfl) (by kernel_rfl) (fun _ _ _ h => h) (Or.inl ⟨by rfl, by intro w hS; have hc := hS; go_simp⟩) hHeld ?_
  try simp only [Act.put, List.setIfInBounds_toArray, List.set_cons_zero, List.set_cons_succ]
  refine wpAnyH_ready (rs := [4]) (by kernel_rfl) (by simp) ?_
  refine (AllReadyH.cons (o := { dst := some 96, op := Op.call { callee := Callee.value (Operand.func 27), args := #[Operand.tmp 92, Operand.tmp 93, Operand.tmp 95], argTypes := #[44, 33, 3] }, type := 4, pos := "outright.go:138", after := #[{ on := 0, ground := Ground.data }, { on := 1, ground := Ground.data }, { on := 3, ground := Ground.data }], guard := none }) rfl (fun K hK => ?_) AllReadyH.nil)
  go_simp
  go_at_call 27
  refine (HHO.out).mono ?_
  rintro e w5 ⟨rfl, hD5, hF5⟩
  have HD5 := hid hD5
  have HF5 := hid hF5
  go_wp2_with fail
  refine hK.out _ _ (HX10.out w5 hF5) (fun hHeld2 => ?_)
  clear hK K hHeld
  have hHeld := hHeld2
  clear hHeld2
  clear hD5 hF5
  try simp only [Act.put, List.setIfInBounds_toArray, List.set_cons_zero, List.set_cons_succ]
  refine wpAnyH_take (i := 5) (oi := { dst := some 97, op := Op.unOp UnOp.not 4 (Operand.tmp 96), type := 4, pos := "outright.go:138", after := #[{ on := 4, ground := Ground.data }], guard := none }) (v := .bool false) rfl (by kernel_rfl) (by kernel_rfl) (by kernel_rfl) (fun _ _ _ h => h) (Or.inl ⟨by rfl, by intro w hS; go_simp⟩) hHeld ?_
  try simp only [Act.put, List.setIfInBounds_toArray, List.set_cons_zero, List.set_cons_succ]
  refine wpAnyH_take (i := 6) (oi := { dst := some 98, op := Op.move (Operand.tmp 97), type := 4, pos := "outright.go:138", after := #[{ on := 5, ground := Ground.data }, { on := 4, ground := Ground.chain }], guard := none }) (v := .bool false) rfl (by kernel_rfl) (by kernel_rfl) (by kernel_rfl) (fun _ _ _ h => h) (Or.inl ⟨by rfl, by intro w hS; go_simp⟩) hHeld ?_
  try simp only [Act.put, List.setIfInBounds_toArray, List.set_cons_zero, List.set_cons_succ]
  refine wpAnyH_take (i := 7) (oi := { dst := some 99, op := Op.move (Operand.tmp 7), type := 33, pos := "outright.go:138", after := #[{ on := 6, ground := Ground.guard }], guard := some (6, false) }) (v := .pointer (some ⟨g, 0, none⟩)) rfl (by kernel_rfl) (by kernel_rfl) (by kernel_rfl) (fun _ _ _ h => h) (Or.inl ⟨by rfl, by intro w hS; go_simp⟩) hHeld ?_
  try simp only [Act.put, List.setIfInBounds_toArray, List.set_cons_zero, List.set_cons_succ]
  refine wpAnyH_take (i := 9) (oi := { dst := some 101, op := Op.fieldAddr 37 (Operand.tmp 9) 2, type := 0, pos := "outright.go:138", after := #[{ on := 6, ground := Ground.guard }], guard := some (6, false) }) (v := .pointer (some ⟨G9, 2, none⟩)) rfl (by kernel_rfl) (by kernel_rfl) (by kernel_rfl) (fun _ _ _ h => h) (Or.inl ⟨by rfl, by intro w hS; go_simp⟩) hHeld ?_
  try simp only [Act.put, List.setIfInBounds_toArray, List.set_cons_zero, List.set_cons_succ]
  refine wpAnyH_take (i := 10) (oi := { dst := some 102, op := Op.load 3 (Operand.tmp 101), type := 3, pos := "outright.go:138", after := #[{ on := 9, ground := Ground.data }, { on := 6, ground := Ground.guard }], guard := some (6, false) }) (v := .int .i64 (m : Int)) rfl (by kernel_rfl) (by kernel_rfl) (by kernel_rfl) (fun _ _ _ h => h) (Or.inl ⟨by rfl, by intro w hS; have hc := hS; go_simp⟩) hHeld ?_
  try simp only [Act.put, List.setIfInBounds_toArray, List.set_cons_zero, List.set_cons_succ]
  refine wpAnyH_ready (rs := [8]) (by kernel_rfl) (by simp) ?_
  refine (AllReadyH.cons (o := { dst := some 100, op := Op.call { callee := Callee.value (Operand.func 18), args := #[Operand.tmp 99], argTypes := #[33] }, type := 3, pos := "outright.go:138", after := #[{ on := 7, ground := Ground.data }, { on := 6, ground := Ground.chain }, { on := 6, ground := Ground.guard }], guard := some (6, false) }) rfl (fun K hK => ?_) AllReadyH.nil)
  go_simp
  go_at_call 18
  refine (HNX.out w5 HF5.out).mono ?_
  rintro e w6 ⟨rfl, rfl⟩
  go_wp2_with fail
  refine hK.out _ _ (hHeld) (fun hHeld2 => ?_)
  clear hK K hHeld
  have hHeld := hHeld2
  clear hHeld2
  try simp only [Act.put, List.setIfInBounds_toArray, List.set_cons_zero, List.set_cons_succ]
  refine wpAnyH_take (i := 11) (oi := { dst := some 103, op := Op.binOp BinOp.neq 3 (Operand.tmp 100) (Operand.tmp 102) 3, type := 4, pos := "outright.go:138", after := #[{ on := 8, ground := Ground.data }, { on := 10, ground := Ground.data }, { on := 6, ground := Ground.guard }], guard := some (6, false) }) (v := .bool false) rfl (by kernel_rfl) (by kernel_rfl) (by kernel_rfl) (fun _ _ _ h => h) (Or.inl ⟨by rfl, by intro w hS; go_simp⟩) hHeld ?_
  try simp only [Act.put, List.setIfInBounds_toArray, List.set_cons_zero, List.set_cons_succ]
  refine wpAnyH_take (i := 12) (oi := { dst := some 104, op := Op.pick (Operand.tmp 98) (Operand.const (Value.bool true)) (Operand.tmp 103), type := 4, pos := "outright.go:138", after := #[{ on := 6, ground := Ground.data }, { on := 11, ground := Ground.data }], guard := none }) (v := .bool false) rfl (by kernel_rfl) (by kernel_rfl) (by kernel_rfl) (fun _ _ _ h => h) (Or.inl ⟨by rfl, by intro w hS; go_simp⟩) hHeld ?_
  try simp only [Act.put, List.setIfInBounds_toArray, List.set_cons_zero, List.set_cons_succ]
  refine wpAnyH_done (by kernel_rfl) ?_ _
  refine NoPanic.normal ?_
  clear hHeld
  have hba5 := (show BA w4.drew.drew.drew base G gb B from HBA4.out.of_heap (Nat.le_refl _) (fun k hk => rfl)).other HF5.out HAP4.out
  have hgF5 : gb ∉ F4 := fun e => HAP4.out gb e hba5.gbG
  have r95 := HF5.out.keep (show w4.drew.drew.drew.heap[G9]? = _ from R9.out) (HD4.out.not_in R9.out (by decide) (by decide) (by decide))
  have X12 := hid (show w5.drew.heap[G9]? = some (.cells (supC s2) 37 (0, 0)) from r95)
  have hk5 := HK4.out.drew.drew.drew.other HD4.out.drew.drew.drew HF5.out
  have hgg := hba5.not_file hk5
  have NGB := hid (show gb ≠ G9 from by obtain ⟨_, _, _, hh⟩ := hba5; exact ne_ty hh.cell r95 (by decide))
  obtain ⟨b2, b3, b4, b5, b6, bf⟩ := hba5.cell
  have c2 : w5.drew.cell? ⟨gb, 2, none⟩ = some (.int .i64 B.mrk) := b2
  have c3 : w5.drew.cell? ⟨gb, 3, none⟩ = some (.int .i64 B.gn) := b3
  have c4 : w5.drew.cell? ⟨gb, 4, none⟩ = some (.int .i64 B.hd) := b4
  have c5 : w5.drew.cell? ⟨gb, 5, none⟩ = some (.int .i64 B.im) := b5
  have f2 : w5.drew.frozen? ⟨gb, 2, none⟩ = false := bf 2
  have f3 : w5.drew.frozen? ⟨gb, 3, none⟩ = false := bf 3
  have f4 : w5.drew.frozen? ⟨gb, 4, none⟩ = false := bf 4
  have f5 : w5.drew.frozen? ⟨gb, 5, none⟩ = false := bf 5
  have HBA5 := hid hba5
  have HK5 := hid hk5
  have HGF := hid hgF5
  have HGG := hid hgg
  have f2' := bf 2
  have f3' := bf 3
  have f4' := bf 4
  have f5' := bf 5
  clear b6 bf hba5 hk5 hgF5 hgg r95 X8 X10 HHO HNX HX10
  go_wp2
  refine wp_region_noPanic ?_
  refine wp_region_held_drew (S := fun w' => w'.heap[G9]? = some (.cells (supC s2) 37 (0, 0))) (by kernel_rfl) X12.out (fun hHeld => ?_)
  refine wpAnyH_take (i := 0) (oi := { dst := some 105, op := Op.move (Operand.tmp 0), type := 44, pos := "outright.go:141", after := #[], guard := none }) (v := .pointer (some ⟨gb, 0, none⟩)) rfl (by kernel_rfl) (by kernel_rfl) (by kernel_rfl) (fun _ _ _ h => h) (Or.inl ⟨by rfl, by intro w hS; go_simp⟩) hHeld ?_
  try simp only [Act.put, List.setIfInBounds_toArray, List.set_cons_zero, List.set_cons_succ]
  refine wpAnyH_take (i := 1) (oi := { dst := some 106, op := Op.move (Operand.tmp 0), type := 44, pos := "outright.go:141", after := #[{ on := 11, ground := Ground.gcOnly Departure.lateStores }], guard := none }) (v := .pointer (some ⟨gb, 0, none⟩)) rfl (by kernel_rfl) (by kernel_rfl) (by kernel_rfl) (fun _ _ _ h => h) (Or.inl ⟨by rfl, by intro w hS; go_simp⟩) hHeld ?_
  try simp only [Act.put, List.setIfInBounds_toArray, List.set_cons_zero, List.set_cons_succ]
  refine wpAnyH_take (i := 2) (oi := { dst := some 107, op := Op.move (Operand.tmp 0), type := 44, pos := "outright.go:141", after := #[{ on := 14, ground := Ground.gcOnly Departure.lateStores }], guard := none }) (v := .pointer (some ⟨gb, 0, none⟩)) rfl (by kernel_rfl) (by kernel_rfl) (by kernel_rfl) (fun _ _ _ h => h) (Or.inl ⟨by rfl, by intro w hS; go_simp⟩) hHeld ?_
  try simp only [Act.put, List.setIfInBounds_toArray, List.set_cons_zero, List.set_cons_succ]
  refine wpAnyH_take (i := 3) (oi := { dst := some 108, op := Op.fieldAddr 37 (Operand.tmp 9) 2, type := 0, pos := "outright.go:141", after := #[], guard := none }) (v := .pointer (some ⟨G9, 2, none⟩)) rfl (by kernel_rfl) (by kernel_rfl) (by kernel_rfl) (fun _ _ _ h => h) (Or.inl ⟨by rfl, by intro w hS; go_simp⟩) hHeld ?_
  try simp only [Act.put, List.setIfInBounds_toArray, List.set_cons_zero, List.set_cons_succ]
  refine wpAnyH_take (i := 5) (oi := { dst := some 110, op := Op.fieldAddr 37 (Operand.tmp 9) 3, type := 0, pos := "outright.go:141", after := #[{ on := 11, ground := Ground.gcOnly Departure.lateStores }], guard := none }) (v := .pointer (some ⟨G9, 3, none⟩)) rfl (by kernel_rfl) (by kernel_rfl) (by kernel_rfl) (fun _ _ _ h => h) (Or.inl ⟨by rfl, by intro w hS; go_simp⟩) hHeld ?_
  try simp only [Act.put, List.setIfInBounds_toArray, List.set_cons_zero, List.set_cons_succ]
  refine wpAnyH_take (i := 7) (oi := { dst := some 112, op := Op.fieldAddr 37 (Operand.tmp 9) 1, type := 0, pos := "outright.go:141", after := #[{ on := 14, ground := Ground.gcOnly Departure.lateStores }], guard := none }) (v := .pointer (some ⟨G9, 1, none⟩)) rfl (by kernel_rfl) (by kernel_rfl) (by kernel_rfl) (fun _ _ _ h => h) (Or.inl ⟨by rfl, by intro w hS; go_simp⟩) hHeld ?_
  try simp only [Act.put, List.setIfInBounds_toArray, List.set_cons_zero, List.set_cons_succ]
  refine wpAnyH_take (i := 4) (oi := { dst := some 109, op := Op.load 3 (Operand.tmp 108), type := 3, pos := "outright.go:141", after := #[{ on := 3, ground := Ground.data }], guard := none }) (v := .int .i64 s2.ma) rfl (by kernel_rfl) (by kernel_rfl) (by kernel_rfl) (fun _ _ _ h => h) (Or.inl ⟨by rfl, by intro w hS; have hc := cell_sup2 hS; go_simp⟩) hHeld ?_
  try simp only [Act.put, List.setIfInBounds_toArray, List.set_cons_zero, List.set_cons_succ]
  refine wpAnyH_take (i := 6) (oi := { dst := some 111, op := Op.load 3 (Operand.tmp 110), type := 3, pos := "outright.go:141", after := #[{ on := 5, ground := Ground.data }, { on := 11, ground := Ground.gcOnly Departure.lateStores }], guard := none }) (v := .int .i64 s2.hd) rfl (by kernel_rfl) (by kernel_rfl) (by kernel_rfl) (fun _ _ _ h => h) (Or.inl ⟨by rfl, by intro w hS; have hc := cell_sup3 hS; go_simp⟩) hHeld ?_
  try simp only [Act.put, List.setIfInBounds_toArray, List.set_cons_zero, List.set_cons_succ]
  refine wpAnyH_take (i := 8) (oi := { dst := some 113, op := Op.load 3 (Operand.tmp 112), type := 3, pos := "outright.go:141", after := #[{ on := 7, ground := Ground.data }, { on := 14, ground := Ground.gcOnly Departure.lateStores }], guard := none }) (v := .int .i64 s2.ge) rfl (by kernel_rfl) (by kernel_rfl) (by kernel_rfl) (fun _ _ _ h => h) (Or.inl ⟨by rfl, by intro w hS; have hc := cell_sup1 hS; go_simp⟩) hHeld ?_
  try simp only [Act.put, List.setIfInBounds_toArray, List.set_cons_zero, List.set_cons_succ]
  refine wpAnyH_take (i := 9) (oi := { dst := some 114, op := Op.nilCheck (Operand.tmp 105), type := 0, pos := "outright.go:141", after := #[{ on := 0, ground := Ground.data }, { on := 0, ground := Ground.phase }, { on := 1, ground := Ground.textOnly Departure.lateStores }, { on := 2, ground := Ground.textOnly Departure.lateStores }, { on := 3, ground := Ground.phase }, { on := 4, ground := Ground.phase }, { on := 5, ground := Ground.textOnly Departure.lateStores }, { on := 6, ground := Ground.textOnly Departure.lateStores }, { on := 7, ground := Ground.textOnly Departure.lateStores }, { on := 8, ground := Ground.textOnly Departure.lateStores }], guard := none }) (v := .pointer (some ⟨gb, 0, none⟩)) rfl (by kernel_rfl) (by kernel_rfl) (by kernel_rfl) (fun _ _ _ h => h) (Or.inl ⟨by rfl, by intro w hS; go_simp⟩) hHeld ?_
  try simp only [Act.put, List.setIfInBounds_toArray, List.set_cons_zero, List.set_cons_succ]
  refine wpAnyH_take (i := 10) (oi := { dst := some 115, op := Op.fieldAddr 48 (Operand.tmp 114) 2, type := 0, pos := "outright.go:141", after := #[{ on := 9, ground := Ground.data }, { on := 0, ground := Ground.phase }, { on := 1, ground := Ground.textOnly Departure.lateStores }, { on := 2, ground := Ground.textOnly Departure.lateStores }, { on := 3, ground := Ground.phase }, { on := 4, ground := Ground.phase }, { on := 5, ground := Ground.textOnly Departure.lateStores }, { on := 6, ground := Ground.textOnly Departure.lateStores }, { on := 7, ground := Ground.textOnly Departure.lateStores }, { on := 8, ground := Ground.textOnly Departure.lateStores }], guard := none }) (v := .pointer (some ⟨gb, 2, none⟩)) rfl (by kernel_rfl) (by kernel_rfl) (by kernel_rfl) (fun _ _ _ h => h) (Or.inl ⟨by rfl, by intro w hS; go_simp⟩) hHeld ?_
  try simp only [Act.put, List.setIfInBounds_toArray, List.set_cons_zero, List.set_cons_succ]
  refine wpAnyH_ready (rs := [11]) (by kernel_rfl) (by simp) ?_
  refine (AllReadyH.cons (o := { dst := none, op := Op.store 3 (Operand.tmp 115) (Operand.tmp 109), type := 0, pos := "outright.go:141", after := #[{ on := 10, ground := Ground.data }, { on := 4, ground := Ground.data }, { on := 0, ground := Ground.phase }, { on := 1, ground := Ground.textOnly Departure.lateStores }, { on := 2, ground := Ground.textOnly Departure.lateStores }, { on := 3, ground := Ground.phase }, { on := 4, ground := Ground.phase }, { on := 5, ground := Ground.textOnly Departure.lateStores }, { on := 6, ground := Ground.textOnly Departure.lateStores }, { on := 7, ground := Ground.textOnly Departure.lateStores }, { on := 8, ground := Ground.textOnly Departure.lateStores }], guard := none }) rfl (fun K hK => ?_) AllReadyH.nil)
  go_simp
  refine hK.out _ _ ((heap_setCell_other _ ⟨gb, 2, none⟩ G9 _ (fun e => NGB.out e.symm)).trans hHeld) (fun hHeld2 => ?_)
  clear hK K hHeld
  have hHeld := hHeld2
  clear hHeld2
  try simp only [Act.put, List.setIfInBounds_toArray, List.set_cons_zero, List.set_cons_succ]
  refine wpAnyH_take (i := 12) (oi := { dst := some 116, op := Op.nilCheck (Operand.tmp 106), type := 0, pos := "outright.go:141", after := #[{ on := 1, ground := Ground.data }, { on := 0, ground := Ground.phase }, { on := 1, ground := Ground.phase }, { on := 2, ground := Ground.textOnly Departure.lateStores }, { on := 3, ground := Ground.phase }, { on := 4, ground := Ground.phase }, { on := 5, ground := Ground.phase }, { on := 6, ground := Ground.phase }, { on := 7, ground := Ground.textOnly Departure.lateStores }, { on := 8, ground := Ground.textOnly Departure.lateStores }, { on := 9, ground := Ground.phase }, { on := 10, ground := Ground.phase }, { on := 11, ground := Ground.phase }], guard := none }) (v := .pointer (some ⟨gb, 0, none⟩)) rfl (by kernel_rfl) (by kernel_rfl) (by kernel_rfl) (fun _ _ _ h => h) (Or.inl ⟨by rfl, by intro w hS; go_simp⟩) hHeld ?_
  try simp only [Act.put, List.setIfInBounds_toArray, List.set_cons_zero, List.set_cons_succ]
  refine wpAnyH_take (i := 13) (oi := { dst := some 117, op := Op.fieldAddr 48 (Operand.tmp 116) 4, type := 0, pos := "outright.go:141", after := #[{ on := 12, ground := Ground.data }, { on := 0, ground := Ground.phase }, { on := 1, ground := Ground.phase }, { on := 2, ground := Ground.textOnly Departure.lateStores }, { on := 3, ground := Ground.phase }, { on := 4, ground := Ground.phase }, { on := 5, ground := Ground.phase }, { on := 6, ground := Ground.phase }, { on := 7, ground := Ground.textOnly Departure.lateStores }, { on := 8, ground := Ground.textOnly Departure.lateStores }, { on := 9, ground := Ground.phase }, { on := 10, ground := Ground.phase }, { on := 11, ground := Ground.phase }], guard := none }) (v := .pointer (some ⟨gb, 4, none⟩)) rfl (by kernel_rfl) (by kernel_rfl) (by kernel_rfl) (fun _ _ _ h => h) (Or.inl ⟨by rfl, by intro w hS; go_simp⟩) hHeld ?_
  try simp only [Act.put, List.setIfInBounds_toArray, List.set_cons_zero, List.set_cons_succ]
  refine wpAnyH_ready (rs := [14]) (by kernel_rfl) (by simp) ?_
  refine (AllReadyH.cons (o := { dst := none, op := Op.store 3 (Operand.tmp 117) (Operand.tmp 111), type := 0, pos := "outright.go:141", after := #[{ on := 13, ground := Ground.data }, { on := 6, ground := Ground.data }, { on := 11, ground := Ground.chain }, { on := 0, ground := Ground.phase }, { on := 1, ground := Ground.phase }, { on := 2, ground := Ground.textOnly Departure.lateStores }, { on := 3, ground := Ground.phase }, { on := 4, ground := Ground.phase }, { on := 5, ground := Ground.phase }, { on := 6, ground := Ground.phase }, { on := 7, ground := Ground.textOnly Departure.lateStores }, { on := 8, ground := Ground.textOnly Departure.lateStores }, { on := 9, ground := Ground.phase }, { on := 10, ground := Ground.phase }, { on := 11, ground := Ground.phase }], guard := none }) rfl (fun K hK => ?_) AllReadyH.nil)
  go_simp
  refine hK.out _ _ ((heap_setCell_other _ ⟨gb, 4, none⟩ G9 _ (fun e => NGB.out e.symm)).trans hHeld) (fun hHeld2 => ?_)
  clear hK K hHeld
  have hHeld := hHeld2
  clear hHeld2
  try simp only [Act.put, List.setIfInBounds_toArray, List.set_cons_zero, List.set_cons_succ]
  refine wpAnyH_take (i := 15) (oi := { dst := some 118, op := Op.nilCheck (Operand.tmp 107), type := 0, pos := "outright.go:141", after := #[{ on := 2, ground := Ground.data }, { on := 0, ground := Ground.phase }, { on := 1, ground := Ground.phase }, { on := 2, ground := Ground.phase }, { on := 3, ground := Ground.phase }, { on := 4, ground := Ground.phase }, { on := 5, ground := Ground.phase }, { on := 6, ground := Ground.phase }, { on := 7, ground := Ground.phase }, { on := 8, ground := Ground.phase }, { on := 9, ground := Ground.phase }, { on := 10, ground := Ground.phase }, { on := 11, ground := Ground.phase }, { on := 12, ground := Ground.phase }, { on := 13, ground := Ground.phase }, { on := 14, ground := Ground.phase }], guard := none }) (v := .pointer (some ⟨gb, 0, none⟩)) rfl (by kernel_rfl) (by kernel_rfl) (by kernel_rfl) (fun _ _ _ h => h) (Or.inl ⟨by rfl, by intro w hS; go_simp⟩) hHeld ?_
  try simp only [Act.put, List.setIfInBounds_toArray, List.set_cons_zero, List.set_cons_succ]
  refine wpAnyH_take (i := 16) (oi := { dst := some 119, op := Op.fieldAddr 48 (Operand.tmp 118) 3, type := 0, pos := "outright.go:141", after := #[{ on := 15, ground := Ground.data }, { on := 0, ground := Ground.phase }, { on := 1, ground := Ground.phase }, { on := 2, ground := Ground.phase }, { on := 3, ground := Ground.phase }, { on := 4, ground := Ground.phase }, { on := 5, ground := Ground.phase }, { on := 6, ground := Ground.phase }, { on := 7, ground := Ground.phase }, { on := 8, ground := Ground.phase }, { on := 9, ground := Ground.phase }, { on := 10, ground := Ground.phase }, { on := 11, ground := Ground.phase }, { on := 12, ground := Ground.phase }, { on := 13, ground := Ground.phase }, { on := 14, ground := Ground.phase }], guard := none }) (v := .pointer (some ⟨gb, 3, none⟩)) rfl (by kernel_rfl) (by kernel_rfl) (by kernel_rfl) (fun _ _ _ h => h) (Or.inl ⟨by rfl, by intro w hS; go_simp⟩) hHeld ?_
  try simp only [Act.put, List.setIfInBounds_toArray, List.set_cons_zero, List.set_cons_succ]
  refine wpAnyH_ready (rs := [17]) (by kernel_rfl) (by simp) ?_
  refine (AllReadyH.cons (o := { dst := none, op := Op.store 3 (Operand.tmp 119) (Operand.tmp 113), type := 0, pos := "outright.go:141", after := #[{ on := 16, ground := Ground.data }, { on := 8, ground := Ground.data }, { on := 14, ground := Ground.chain }, { on := 0, ground := Ground.phase }, { on := 1, ground := Ground.phase }, { on := 2, ground := Ground.phase }, { on := 3, ground := Ground.phase }, { on := 4, ground := Ground.phase }, { on := 5, ground := Ground.phase }, { on := 6, ground := Ground.phase }, { on := 7, ground := Ground.phase }, { on := 8, ground := Ground.phase }, { on := 9, ground := Ground.phase }, { on := 10, ground := Ground.phase }, { on := 11, ground := Ground.phase }, { on := 12, ground := Ground.phase }, { on := 13, ground := Ground.phase }, { on := 14, ground := Ground.phase }], guard := none }) rfl (fun K hK => ?_) AllReadyH.nil)
  go_simp
  refine hK.out _ _ ((heap_setCell_other _ ⟨gb, 3, none⟩ G9 _ (fun e => NGB.out e.symm)).trans hHeld) (fun hHeld2 => ?_)
  clear hK K hHeld
  have hHeld := hHeld2
  clear hHeld2
  try simp only [Act.put, List.setIfInBounds_toArray, List.set_cons_zero, List.set_cons_succ]
  refine wpAnyH_done (by kernel_rfl) ?_ _
  refine NoPanic.normal ?_
  clear hHeld
  go_wp2
  go_ret
  exact HEND.out w5.drew HD5.out.drew HK5.out.drew (HBA5.out.of_heap (Nat.le_refl _) (fun k hk => rfl)) HF5.out.drew HGF.out HGG.out
set_option maxRecDepth 100000 in
set_option maxHeartbeats 2000000 in
theorem again_b (w : World) (base : Nat) (F : List Nat) (p : Nat) (D : DS) (h : DA w base F p D) (hbw : base ≤ w.heap.size) (G : List Nat) (gb : Nat) (B : Bk) (hb : BA w base G gb B) (hap : Apart F G) (n c : Nat) (hcr : Cr D B n c) (hc : c ≤ 1000) (fs : List Int) (hfb : Bts fs) (sp : Option Addr) (cap : Nat) (hS : Src w sp cap fs) (hsb : ∀ a, 0 < fs.length → sp = some a → a.block ∉ F)
    (s2 o : Sup) (m : Nat) (hg : Good s2 o (pgO (D.crashed fs).img 0) (pgO (D.crashed fs).img 1)) (hv : validS s2 = true) (hp : s2.pg = (n : Int)) (hm : s2.ma = (m : Int)) (hmn : m ≤ n) (hml : m - 2 ≤ B.Ls.length) (hpg : Pgs (D.crashed fs) B m) (hE : s2.ge = B.gn ∧ s2.ma = B.mrk ∧ s2.hd = B.hd) (hI : 0 < B.im) :
    Calls Try.prog 30 #[.pointer (some ⟨gb, 0, none⟩), .pointer (some ⟨p, 0, none⟩), .slice sp fs.length cap] w fun e w' => ∃ (g : Nat) (D' : DS) (s' : Sup) (nx' : Nat) (ep' : Int) (B' : Bk) (F' : List Nat), e = .returned (.pointer (some ⟨g, 0, none⟩)) ∧ w.heap.size ≤ g ∧ DA w' base F' p D' ∧ FK w' g p s' nx' ep' ∧ BA w' base G gb B' ∧ Apart F' G ∧ Fr (F ++ G) w w' ∧ Gr w F F' ∧ Lv D' s' nx' ep' B' n (c + 1) ∧ D'.armed = 0 ∧ B.mrk ≤ s'.ma ∧ (∀ q : Nat, 2 ≤ q → (q : Int) < B.mrk → pgO D'.img q = pgO D.img q) := by
  have hcn := hcr.cnt
  have hgn := hcr.ge
  have hnp : D.np = n := hcr.np
  have hnpc : (D.crashed fs).np = n := (crashed_np hcr.ok fs).trans hnp
  have hvv := (validS_iff s2).1 hv
  have hm2 : 2 ≤ m := by omega
  have HCR := hid (Crash_any w base F p D h (by omega) fs hfb sp cap hS hsb)
  have HD := hid h
  have HBB := hid hb
  have HAP := hid hap
  have hge1 : s2.ge ≤ B.gn + 1 := by omega
  have HOP := hid (fun (w1 : World) (F1 : List Nat) (h1 : DA w1 base F1 p (D.crashed fs)) => Open_ok w1 base F1 p (D.crashed fs) h1 rfl (by show D.reads < _; omega) (by show D.epoch + 1 < _; omega) s2 (hg.chooses rfl) (by rw [hnpc]; exact hp))
  have HLV := hid (fun (hok : DsOk { D.crashed fs with reads := (D.crashed fs).reads + 2 + ((m - 2 : Nat) : Int), epoch := (D.crashed fs).epoch + 1 }) => hcr.lv hc fs s2 o m hg hv hp hm hmn hml hpg hge1 hok)
  have HHOF := hid (fun (w4 : World) (F4 : List Nat) (g : Nat) (h4 : DA w4 base F4 p { D.crashed fs with reads := (D.crashed fs).reads + 2, epoch := (D.crashed fs).epoch + 1 }) (k4 : FK w4 g p s2 (m : Int) (D.epoch + 1 + 1)) (b4 : BA w4 base G gb B) (a4 : Apart F4 G) => holds_in w4 base F4 p _ h4 g s2 (m : Int) (D.epoch + 1 + 1) k4 (show liveF _ _ = 0 by unfold liveF; rw [if_neg (fun q => q rfl)]; exact if_pos rfl) G gb B b4 a4 hcr.len.1 m ⟨hm2, hml, Int.le_refl _, by show m ≤ (D.crashed fs).np; omega⟩ hpg (by show D.reads + 2 + (m : Int) < _; have := hcr.small; omega))
  have HM := hid hm
  have HKM := hid (show B.mrk ≤ s2.ma from by omega)
  have HKQ := hid (show ∀ q : Nat, 2 ≤ q → (q : Int) < B.mrk → pgO (D.crashed fs).img q = pgO D.img q from fun q h2 hq => hcr.keep fs q h2 hq (by have := HKM.out; omega))
  have EE := hid (show s2.ge = B.gn ∧ s2.ma = B.mrk ∧ s2.hd = B.hd from hE)
  have E6 := hid (show (s2.ge == s2.ge) = true by simp)
  have EG := hid (show IntKind.i64.wrap (s2.ge + 1) = s2.ge + 1 by rw [IntKind.wrap_i64]; omega)
  have E713 := hid (show (s2.ge == s2.ge + 1) = false by simp; omega)
  have E74 := hid (show 0 < B.im from hI)
  clear h hb hap hS hsb hcr hg hv hp hmn hml hpg hcn hnp hnpc hvv hE hI hm hge1 hgn
  go_enter Try.func30, Try.ntmps30
  go_wp2_with fail
  refine HCR.out.mono ?_
  rintro e w1 ⟨rfl, F1, q1, q2, q3⟩
  have HFR1 := hid q2
  have HGR1 := hid q3
  have HD1 := hid q1
  have HAP1 := hid (show Apart F1 G from HAP.out.step (fun k hk => (HBB.out.lt k hk).2) q3)
  have HBA1 := hid (HBB.out.other q2 HAP.out)
  have HOP1 := hid (HOP.out w1 F1 q1)
  clear q1 q2 q3 HCR HOP
  go_wp2_with fail
  refine HOP1.out.mono ?_
  rintro e w2 ⟨g, rfl, hg2, hK2, hD2, hF2⟩
  rw [show (D.crashed fs).epoch + 1 = D.epoch + 1 + 1 from rfl, HM.out] at hK2
  have HBA2 := hid (HBA1.out.other hF2 HAP1.out)
  have HFR2 := hid (HFR1.out.trans hF2 HGR1.out)
  have HD2 := hid hD2
  have HK2 := hid hK2
  have HG2 := hid (Nat.le_trans HFR1.out.size hg2)
  have HSU := hid (FSuper_any w2 g p s2 (m : Int) (D.epoch + 1 + 1) hK2)
  clear hg2 hK2 hD2 hF2 HOP1
  go_wp2_with (first
    | (go_at_call 17; refine HSU.out.mono ?_; rintro e w3 ⟨rfl, hb3⟩; have HB3 := hid hb3; clear hb3)
    | (refine wpList_store_row (by rfl) 37 (.tmp 9) (.tmp 27) (by rfl) w3.heap.size (supC s2) (by rfl) (by rfl) 37 _ (by exact hnew _ _) (supN s2) (supZ s2) (supO s2) ?_; rw [setRow_alloc]; have r9 := hnew w3 (.cells (supC s2) 37); have b4 := below_new w3 (.cells (supC s2) 37); generalize hw4 : w3.alloc (.cells (supC s2) 37) = w4 at *; generalize hG9 : w3.heap.size = G9 at *))
  rw [← hG9] at b4
  have hb24 : Below w2.heap.size w2 w4 := HB3.out.trans (b4.mono HB3.out.size)
  obtain ⟨F4, hF4⟩ : ∃ F4, F4 = F1 := ⟨_, rfl⟩
  rw [← hF4] at HD2 HAP1 HGR1
  have HBA4 := hid (HBA2.out.below hb24)
  have HD4 := hid (HD2.out.below hb24)
  have HK4 := hid (HK2.out.below hb24)
  have HFR4 := hid (HFR2.out.tail (F' := F) hb24)
  have HAP4 := hid HAP1.out
  have R9 := hid r9
  have HHO := hid (HHOF.out w4.drew.drew.drew F4 g HD4.out.drew.drew.drew HK4.out.drew.drew.drew (HBA4.out.of_heap (Nat.le_refl _) (fun k hk => rfl)) HAP4.out)
  have HX10 := hid (fun (w5 : World) (hF5 : Fr F4 w4.drew.drew.drew w5) => (show w5.cell? ⟨G9, 2, none⟩ = some (.int .i64 (m : Int)) from by
    have q := hF5.keep (show w4.drew.drew.drew.heap[G9]? = _ from R9.out) (HD4.out.not_in R9.out (by decide) (by decide) (by decide))
    rw [cell_sup2 q, HM.out]))
  have HNX := hid (fun (w5 : World) (hF5 : Fr F4 w4.drew.drew.drew w5) => FNext_any w5 g p s2 (m : Int) (D.epoch + 1 + 1) (HK4.out.drew.drew.drew.other HD4.out.drew.drew.drew hF5))
  have HEND := hid (fun (w5 : World) (hD5 : DA w5 base F4 p { D.crashed fs with reads := (D.crashed fs).reads + 2 + ((m - 2 : Nat) : Int), epoch := (D.crashed fs).epoch + 1 }) (hK5 : FK w5 g p s2 (m : Int) (D.epoch + 1 + 1)) (hB5 : BA w5 base G gb B) (hF5 : Fr F4 w4.drew.drew.drew w5) (hgF : gb ∉ F4) (hgg : gb ≠ g) =>
    (show ∃ (g' : Nat) (D' : DS) (s' : Sup) (nx' : Nat) (ep' : Int) (B' : Bk) (F' : List Nat), Ending.returned (Value.pointer (some ⟨g, 0, none⟩)) = Ending.returned (Value.pointer (some ⟨g', 0, none⟩)) ∧ w.heap.size ≤ g' ∧ DA ((((w5.setCell ⟨gb, 2, none⟩ (.int .i64 s2.ma)).setCell ⟨gb, 4, none⟩ (.int .i64 s2.hd)).setCell ⟨gb, 3, none⟩ (.int .i64 s2.ge)).setCell ⟨gb, 5, none⟩ (.int .i64 0)) base F' p D' ∧ FK ((((w5.setCell ⟨gb, 2, none⟩ (.int .i64 s2.ma)).setCell ⟨gb, 4, none⟩ (.int .i64 s2.hd)).setCell ⟨gb, 3, none⟩ (.int .i64 s2.ge)).setCell ⟨gb, 5, none⟩ (.int .i64 0)) g' p s' nx' ep' ∧ BA ((((w5.setCell ⟨gb, 2, none⟩ (.int .i64 s2.ma)).setCell ⟨gb, 4, none⟩ (.int .i64 s2.hd)).setCell ⟨gb, 3, none⟩ (.int .i64 s2.ge)).setCell ⟨gb, 5, none⟩ (.int .i64 0)) base G gb B' ∧ Apart F' G ∧ Fr (F ++ G) w ((((w5.setCell ⟨gb, 2, none⟩ (.int .i64 s2.ma)).setCell ⟨gb, 4, none⟩ (.int .i64 s2.hd)).setCell ⟨gb, 3, none⟩ (.int .i64 s2.ge)).setCell ⟨gb, 5, none⟩ (.int .i64 0)) ∧ Gr w F F' ∧ Lv D' s' nx' ep' B' n (c + 1) ∧ D'.armed = 0 ∧ B.mrk ≤ s'.ma ∧ (∀ q : Nat, 2 ≤ q → (q : Int) < B.mrk → pgO D'.img q = pgO D.img q) from by
      have hmG : gb ∈ F ++ G := List.mem_append_right _ hB5.gbG
      have fr5 : Fr (F ++ G) w w5 := (HFR4.out.mono (fun k hk => List.mem_append_left _ hk)).drew.drew.drew.trans hF5 (fun k hk => (HGR1.out k hk).imp (fun q => List.mem_append_left _ q) id)
      refine ⟨g, _, s2, m, D.epoch + 1 + 1, { B with mrk := s2.ma, gn := s2.ge, hd := s2.hd, im := 0 }, F4, rfl, HG2.out, (((hD5.setCellN hgF 2 _).setCellN hgF 4 _).setCellN hgF 3 _).setCellN hgF 5 _, ?_, (((hB5.setM _).setH _).setG _).setI _, HAP4.out, (((fr5.setCell hmG 2 _).setCell hmG 4 _).setCell hmG 3 _).setCell hmG 5 _, HGR1.out, HLV.out hD5.ok, rfl, HKM.out, HKQ.out⟩
      show ((((w5.setCell ⟨gb, 2, none⟩ _).setCell ⟨gb, 4, none⟩ _).setCell ⟨gb, 3, none⟩ _).setCell ⟨gb, 5, none⟩ _).heap[g]? = _
      rw [heap_setCell_other _ ⟨gb, 5, none⟩ g _ (fun e => hgg e.symm), heap_setCell_other _ ⟨gb, 3, none⟩ g _ (fun e => hgg e.symm), heap_setCell_other _ ⟨gb, 4, none⟩ g _ (fun e => hgg e.symm), heap_setCell_other _ ⟨gb, 2, none⟩ g _ (fun e => hgg e.symm)]
      exact hK5))
  have X6 : Hid (w4.drew.cell? ⟨G9, 1, none⟩ = some (.int .i64 s2.ge) ∧ w4.drew.cell? ⟨G9, 2, none⟩ = some (.int .i64 (m : Int)) ∧ w4.drew.cell? ⟨G9, 3, none⟩ = some (.int .i64 s2.hd) ∧ w4.drew.cell? ⟨gb, 2, none⟩ = some (.int .i64 (m : Int)) ∧ w4.drew.cell? ⟨gb, 3, none⟩ = some (.int .i64 s2.ge) ∧ w4.drew.cell? ⟨gb, 4, none⟩ = some (.int .i64 s2.hd) ∧ w4.drew.cell? ⟨gb, 5, none⟩ = some (.int .i64 B.im) ∧ w4.drew.cell? ⟨gb, 6, none⟩ = some (.int .i64 B.ih)) := hid (by
    obtain ⟨b2, b3, b4, b5, b6, _⟩ := HBA4.out.cell
    refine ⟨?_, ?_, ?_, ?_, ?_, ?_, ?_, ?_⟩
    · show w4.cell? _ = _; rw [cell_sup1 R9.out]; try first | rfl | rw [EE.out.1]
    · show w4.cell? _ = _; rw [cell_sup2 R9.out, HM.out]
    · show w4.cell? _ = _; rw [cell_sup3 R9.out]; try first | rfl | rw [EE.out.2.2]
    · show w4.cell? _ = _; rw [b2]; try first | rfl | rw [← EE.out.2.1, HM.out]
    · show w4.cell? _ = _; rw [b3]; try first | rfl | rw [← EE.out.1]
    · show w4.cell? _ = _; rw [b4]; try first | rfl | rw [← EE.out.2.2]
    · show w4.cell? _ = _; rw [b5]; try first | rfl | rw [← EE.out.2.1, HM.out]
    · show w4.cell? _ = _; rw [b6])
  clear r9 b4 hb24 HHOF HLV HFR1 HBA1 HFR2 HD2 HK2 HSU HB3 hw4 HGR1 HAP1 HBA2 HAP HBB HD HD1
  go_wp2
  refine wp_region_noPanic ?_
  refine wp_region_held_drew (S := fun w' => w'.cell? ⟨G9, 1, none⟩ = some (.int .i64 s2.ge) ∧ w'.cell? ⟨G9, 2, none⟩ = some (.int .i64 (m : Int)) ∧ w'.cell? ⟨G9, 3, none⟩ = some (.int .i64 s2.hd) ∧ w'.cell? ⟨gb, 2, none⟩ = some (.int .i64 (m : Int)) ∧ w'.cell? ⟨gb, 3, none⟩ = some (.int .i64 s2.ge) ∧ w'.cell? ⟨gb, 4, none⟩ = some (.int .i64 s2.hd) ∧ w'.cell? ⟨gb, 5, none⟩ = some (.int .i64 B.im) ∧ w'.cell? ⟨gb, 6, none⟩ = some (.int .i64 B.ih)) (by kernel_rfl) X6.out (fun hHeld => ?_)
  refine wpAnyH_take (i := 0) (oi := { dst := some 28, op := Op.fieldAddr 37 (Operand.tmp 9) 1, type := 0, pos := "outright.go:133", after := #[], guard := none }) (v := .pointer (some ⟨G9, 1, none⟩)) rfl (by kernel_rfl) (by kernel_rfl) (by kernel_rfl) (fun _ _ _ h => h) (Or.inl ⟨by rfl, by intro w hS; go_simp⟩) hHeld ?_
  try simp only [Act.put, List.setIfInBounds_toArray, List.set_cons_zero, List.set_cons_succ]
  refine wpAnyH_take (i := 2) (oi := { dst := some 30, op := Op.move (Operand.tmp 0), type := 44, pos := "outright.go:133", after := #[], guard := none }) (v := .pointer (some ⟨gb, 0, none⟩)) rfl (by kernel_rfl) (by kernel_rfl) (by kernel_rfl) (fun _ _ _ h => h) (Or.inl ⟨by rfl, by intro w hS; go_simp⟩) hHeld ?_
  try simp only [Act.put, List.setIfInBounds_toArray, List.set_cons_zero, List.set_cons_succ]
  refine wpAnyH_take (i := 1) (oi := { dst := some 29, op := Op.load 3 (Operand.tmp 28), type := 3, pos := "outright.go:133", after := #[{ on := 0, ground := Ground.data }], guard := none }) (v := .int .i64 s2.ge) rfl (by kernel_rfl) (by kernel_rfl) (by kernel_rfl) (fun _ _ _ h => h) (Or.inl ⟨by rfl, by intro w hS; have hc := hS.1; go_simp⟩) hHeld ?_
  try simp only [Act.put, List.setIfInBounds_toArray, List.set_cons_zero, List.set_cons_succ]
  refine wpAnyH_take (i := 3) (oi := { dst := some 31, op := Op.nilCheck (Operand.tmp 30), type := 0, pos := "outright.go:133", after := #[{ on := 2, ground := Ground.data }], guard := none }) (v := .pointer (some ⟨gb, 0, none⟩)) rfl (by kernel_rfl) (by kernel_rfl) (by kernel_rfl) (fun _ _ _ h => h) (Or.inl ⟨by rfl, by intro w hS; go_simp⟩) hHeld ?_
  try simp only [Act.put, List.setIfInBounds_toArray, List.set_cons_zero, List.set_cons_succ]
  refine wpAnyH_take (i := 4) (oi := { dst := some 32, op := Op.fieldAddr 48 (Operand.tmp 31) 3, type := 0, pos := "outright.go:133", after := #[{ on := 3, ground := Ground.data }], guard := none }) (v := .pointer (some ⟨gb, 3, none⟩)) rfl (by kernel_rfl) (by kernel_rfl) (by kernel_rfl) (fun _ _ _ h => h) (Or.inl ⟨by rfl, by intro w hS; go_simp⟩) hHeld ?_
  try simp only [Act.put, List.setIfInBounds_toArray, List.set_cons_zero, List.set_cons_succ]
  refine wpAnyH_take (i := 5) (oi := { dst := some 33, op := Op.load 3 (Operand.tmp 32), type := 3, pos := "outright.go:133", after := #[{ on := 4, ground := Ground.data }], guard := none }) (v := .int .i64 s2.ge) rfl (by kernel_rfl) (by kernel_rfl) (by kernel_rfl) (fun _ _ _ h => h) (Or.inl ⟨by rfl, by intro w hS; have hc := hS.2.2.2.2.1; go_simp⟩) hHeld ?_
  try simp only [Act.put, List.setIfInBounds_toArray, List.set_cons_zero, List.set_cons_succ]
  refine wpAnyH_take (i := 6) (oi := { dst := some 34, op := Op.binOp BinOp.eql 3 (Operand.tmp 29) (Operand.tmp 33) 3, type := 4, pos := "outright.go:133", after := #[{ on := 1, ground := Ground.data }, { on := 5, ground := Ground.data }], guard := none }) (v := .bool true) rfl (by kernel_rfl) (by kernel_rfl) (by kernel_rfl) (fun _ _ _ h => h) (Or.inl ⟨by rfl, by intro w hS; (have he := E6.out; go_simp)⟩) hHeld ?_
  try simp only [Act.put, List.setIfInBounds_toArray, List.set_cons_zero, List.set_cons_succ]
  refine wpAnyH_take (i := 7) (oi := { dst := some 35, op := Op.move (Operand.tmp 34), type := 4, pos := "outright.go:133", after := #[{ on := 6, ground := Ground.data }], guard := none }) (v := .bool true) rfl (by kernel_rfl) (by kernel_rfl) (by kernel_rfl) (fun _ _ _ h => h) (Or.inl ⟨by rfl, by intro w hS; go_simp⟩) hHeld ?_
  try simp only [Act.put, List.setIfInBounds_toArray, List.set_cons_zero, List.set_cons_succ]
  refine wpAnyH_take (i := 8) (oi := { dst := some 36, op := Op.fieldAddr 37 (Operand.tmp 9) 2, type := 0, pos := "outright.go:133", after := #[{ on := 7, ground := Ground.guard }], guard := some (7, true) }) (v := .pointer (some ⟨G9, 2, none⟩)) rfl (by kernel_rfl) (by kernel_rfl) (by kernel_rfl) (fun _ _ _ h => h) (Or.inl ⟨by rfl, by intro w hS; go_simp⟩) hHeld ?_
  try simp only [Act.put, List.setIfInBounds_toArray, List.set_cons_zero, List.set_cons_succ]
  refine wpAnyH_take (i := 10) (oi := { dst := some 38, op := Op.move (Operand.tmp 0), type := 44, pos := "outright.go:133", after := #[{ on := 7, ground := Ground.guard }], guard := some (7, true) }) (v := .pointer (some ⟨gb, 0, none⟩)) rfl (by kernel_rfl) (by kernel_rfl) (by kernel_rfl) (fun _ _ _ h => h) (Or.inl ⟨by rfl, by intro w hS; go_simp⟩) hHeld ?_
  try simp only [Act.put, List.setIfInBounds_toArray, List.set_cons_zero, List.set_cons_succ]
  refine wpAnyH_take (i := 9) (oi := { dst := some 37, op := Op.load 3 (Operand.tmp 36), type := 3, pos := "outright.go:133", after := #[{ on := 8, ground := Ground.data }, { on := 7, ground := Ground.guard }], guard := some (7, true) }) (v := .int .i64 (m : Int)) rfl (by kernel_rfl) (by kernel_rfl) (by kernel_rfl) (fun _ _ _ h => h) (Or.inl ⟨by rfl, by intro w hS; have hc := hS.2.1; go_simp⟩) hHeld ?_
  try simp only [Act.put, List.setIfInBounds_toArray, List.set_cons_zero, List.set_cons_succ]
  refine wpAnyH_take (i := 11) (oi := { dst := some 39, op := Op.nilCheck (Operand.tmp 38), type := 0, pos := "outright.go:133", after := #[{ on := 10, ground := Ground.data }, { on := 7, ground := Ground.guard }], guard := some (7, true) }) (v := .pointer (some ⟨gb, 0, none⟩)) rfl (by kernel_rfl) (by kernel_rfl) (by kernel_rfl) (fun _ _ _ h => h) (Or.inl ⟨by rfl, by intro w hS; go_simp⟩) hHeld ?_
  try simp only [Act.put, List.setIfInBounds_toArray, List.set_cons_zero, List.set_cons_succ]
  refine wpAnyH_take (i := 12) (oi := { dst := some 40, op := Op.fieldAddr 48 (Operand.tmp 39) 2, type := 0, pos := "outright.go:133", after := #[{ on := 11, ground := Ground.data }, { on := 7, ground := Ground.guard }], guard := some (7, true) }) (v := .pointer (some ⟨gb, 2, none⟩)) rfl (by kernel_rfl) (by kernel_rfl) (by kernel_rfl) (fun _ _ _ h => h) (Or.inl ⟨by rfl, by intro w hS; go_simp⟩) hHeld ?_
  try simp only [Act.put, List.setIfInBounds_toArray, List.set_cons_zero, List.set_cons_succ]
  refine wpAnyH_take (i := 13) (oi := { dst := some 41, op := Op.load 3 (Operand.tmp 40), type := 3, pos := "outright.go:133", after := #[{ on := 12, ground := Ground.data }, { on := 7, ground := Ground.guard }], guard := some (7, true) }) (v := .int .i64 (m : Int)) rfl (by kernel_rfl) (by kernel_rfl) (by kernel_rfl) (fun _ _ _ h => h) (Or.inl ⟨by rfl, by intro w hS; have hc := hS.2.2.2.1; go_simp⟩) hHeld ?_
  try simp only [Act.put, List.setIfInBounds_toArray, List.set_cons_zero, List.set_cons_succ]
  refine wpAnyH_take (i := 14) (oi := { dst := some 42, op := Op.binOp BinOp.eql 3 (Operand.tmp 37) (Operand.tmp 41) 3, type := 4, pos := "outright.go:133", after := #[{ on := 9, ground := Ground.data }, { on := 13, ground := Ground.data }, { on := 7, ground := Ground.guard }], guard := some (7, true) }) (v := .bool true) rfl (by kernel_rfl) (by kernel_rfl) (by kernel_rfl) (fun _ _ _ h => h) (Or.inl ⟨by rfl, by intro w hS; go_simp⟩) hHeld ?_
  try simp only [Act.put, List.setIfInBounds_toArray, List.set_cons_zero, List.set_cons_succ]
  refine wpAnyH_take (i := 15) (oi := { dst := some 43, op := Op.pick (Operand.tmp 35) (Operand.tmp 42) (Operand.const (Value.bool false)), type := 4, pos := "outright.go:133", after := #[{ on := 7, ground := Ground.data }, { on := 14, ground := Ground.data }], guard := none }) (v := .bool true) rfl (by kernel_rfl) (by kernel_rfl) (by kernel_rfl) (fun _ _ _ h => h) (Or.inl ⟨by rfl, by intro w hS; go_simp⟩) hHeld ?_
  try simp only [Act.put, List.setIfInBounds_toArray, List.set_cons_zero, List.set_cons_succ]
  refine wpAnyH_take (i := 16) (oi := { dst := some 44, op := Op.move (Operand.tmp 43), type := 4, pos := "outright.go:133", after := #[{ on := 15, ground := Ground.data }, { on := 7, ground := Ground.chain }], guard := none }) (v := .bool true) rfl (by kernel_rfl) (by kernel_rfl) (by kernel_rfl) (fun _ _ _ h => h) (Or.inl ⟨by rfl, by intro w hS; go_simp⟩) hHeld ?_
  try simp only [Act.put, List.setIfInBounds_toArray, List.set_cons_zero, List.set_cons_succ]
  refine wpAnyH_take (i := 17) (oi := { dst := some 45, op := Op.fieldAddr 37 (Operand.tmp 9) 3, type := 0, pos := "outright.go:133", after := #[{ on := 16, ground := Ground.guard }], guard := some (16, true) }) (v := .pointer (some ⟨G9, 3, none⟩)) rfl (by kernel_rfl) (by kernel_rfl) (by kernel_rfl) (fun _ _ _ h => h) (Or.inl ⟨by rfl, by intro w hS; go_simp⟩) hHeld ?_
  try simp only [Act.put, List.setIfInBounds_toArray, List.set_cons_zero, List.set_cons_succ]
  refine wpAnyH_take (i := 19) (oi := { dst := some 47, op := Op.move (Operand.tmp 0), type := 44, pos := "outright.go:133", after := #[{ on := 16, ground := Ground.guard }], guard := some (16, true) }) (v := .pointer (some ⟨gb, 0, none⟩)) rfl (by kernel_rfl) (by kernel_rfl) (by kernel_rfl) (fun _ _ _ h => h) (Or.inl ⟨by rfl, by intro w hS; go_simp⟩) hHeld ?_
  try simp only [Act.put, List.setIfInBounds_toArray, List.set_cons_zero, List.set_cons_succ]
  refine wpAnyH_take (i := 18) (oi := { dst := some 46, op := Op.load 3 (Operand.tmp 45), type := 3, pos := "outright.go:133", after := #[{ on := 17, ground := Ground.data }, { on := 16, ground := Ground.guard }], guard := some (16, true) }) (v := .int .i64 s2.hd) rfl (by kernel_rfl) (by kernel_rfl) (by kernel_rfl) (fun _ _ _ h => h) (Or.inl ⟨by rfl, by intro w hS; have hc := hS.2.2.1; go_simp⟩) hHeld ?_
  try simp only [Act.put, List.setIfInBounds_toArray, List.set_cons_zero, List.set_cons_succ]
  refine wpAnyH_take (i := 20) (oi := { dst := some 48, op := Op.nilCheck (Operand.tmp 47), type := 0, pos := "outright.go:133", after := #[{ on := 19, ground := Ground.data }, { on := 16, ground := Ground.guard }], guard := some (16, true) }) (v := .pointer (some ⟨gb, 0, none⟩)) rfl (by kernel_rfl) (by kernel_rfl) (by kernel_rfl) (fun _ _ _ h => h) (Or.inl ⟨by rfl, by intro w hS; go_simp⟩) hHeld ?_
  try simp only [Act.put, List.setIfInBounds_toArray, List.set_cons_zero, List.set_cons_succ]
  refine wpAnyH_take (i := 21) (oi := { dst := some 49, op := Op.fieldAddr 48 (Operand.tmp 48) 4, type := 0, pos := "outright.go:133", after := #[{ on := 20, ground := Ground.data }, { on := 16, ground := Ground.guard }], guard := some (16, true) }) (v := .pointer (some ⟨gb, 4, none⟩)) rfl (by kernel_rfl) (by kernel_rfl) (by kernel_rfl) (fun _ _ _ h => h) (Or.inl ⟨by rfl, by intro w hS; go_simp⟩) hHeld ?_
  try simp only [Act.put, List.setIfInBounds_toArray, List.set_cons_zero, List.set_cons_succ]
  refine wpAnyH_take (i := 22) (oi := { dst := some 50, op := Op.load 3 (Operand.tmp 49), type := 3, pos := "outright.go:133", after := #[{ on := 21, ground := Ground.data }, { on := 16, ground := Ground.guard }], guard := some (16, true) }) (v := .int .i64 s2.hd) rfl (by kernel_rfl) (by kernel_rfl) (by kernel_rfl) (fun _ _ _ h => h) (Or.inl ⟨by rfl, by intro w hS; have hc := hS.2.2.2.2.2.1; go_simp⟩) hHeld ?_
  try simp only [Act.put, List.setIfInBounds_toArray, List.set_cons_zero, List.set_cons_succ]
  refine wpAnyH_take (i := 23) (oi := { dst := some 51, op := Op.binOp BinOp.eql 3 (Operand.tmp 46) (Operand.tmp 50) 3, type := 4, pos := "outright.go:133", after := #[{ on := 18, ground := Ground.data }, { on := 22, ground := Ground.data }, { on := 16, ground := Ground.guard }], guard := some (16, true) }) (v := .bool true) rfl (by kernel_rfl) (by kernel_rfl) (by kernel_rfl) (fun _ _ _ h => h) (Or.inl ⟨by rfl, by intro w hS; go_simp⟩) hHeld ?_
  try simp only [Act.put, List.setIfInBounds_toArray, List.set_cons_zero, List.set_cons_succ]
  refine wpAnyH_take (i := 24) (oi := { dst := some 52, op := Op.pick (Operand.tmp 44) (Operand.tmp 51) (Operand.const (Value.bool false)), type := 4, pos := "outright.go:133", after := #[{ on := 16, ground := Ground.data }, { on := 23, ground := Ground.data }], guard := none }) (v := .bool true) rfl (by kernel_rfl) (by kernel_rfl) (by kernel_rfl) (fun _ _ _ h => h) (Or.inl ⟨by rfl, by intro w hS; go_simp⟩) hHeld ?_
  try simp only [Act.put, List.setIfInBounds_toArray, List.set_cons_zero, List.set_cons_succ]
  refine wpAnyH_take (i := 25) (oi := { dst := some 10, op := Op.assign (Operand.tmp 52), type := 4, pos := "outright.go:133", after := #[{ on := 24, ground := Ground.data }, { on := 16, ground := Ground.chain }, { on := 0, ground := Ground.phase }, { on := 1, ground := Ground.phase }, { on := 2, ground := Ground.phase }, { on := 3, ground := Ground.phase }, { on := 4, ground := Ground.phase }, { on := 5, ground := Ground.phase }, { on := 6, ground := Ground.phase }, { on := 7, ground := Ground.phase }, { on := 8, ground := Ground.phase }, { on := 9, ground := Ground.phase }, { on := 10, ground := Ground.phase }, { on := 11, ground := Ground.phase }, { on := 12, ground := Ground.phase }, { on := 13, ground := Ground.phase }, { on := 14, ground := Ground.phase }, { on := 15, ground := Ground.phase }, { on := 16, ground := Ground.phase }, { on := 17, ground := Ground.phase }, { on := 18, ground := Ground.phase }, { on := 19, ground := Ground.phase }, { on := 20, ground := Ground.phase }, { on := 21, ground := Ground.phase }, { on := 22, ground := Ground.phase }, { on := 23, ground := Ground.phase }, { on := 24, ground := Ground.phase }], guard := none }) (v := .bool true) rfl (by kernel_rfl) (by kernel_rfl) (by kernel_rfl) (fun _ _ _ h => h) (Or.inl ⟨by rfl, by intro w hS; go_simp⟩) hHeld ?_
  try simp only [Act.put, List.setIfInBounds_toArray, List.set_cons_zero, List.set_cons_succ]
  refine wpAnyH_done (by kernel_rfl) ?_ _
  refine NoPanic.normal ?_
  go_wp2
  have X7 := hid hHeld
  clear hHeld X6
  refine wp_region_noPanic ?_
  refine wp_region_held_drew (S := fun w' => w'.cell? ⟨G9, 1, none⟩ = some (.int .i64 s2.ge) ∧ w'.cell? ⟨G9, 2, none⟩ = some (.int .i64 (m : Int)) ∧ w'.cell? ⟨G9, 3, none⟩ = some (.int .i64 s2.hd) ∧ w'.cell? ⟨gb, 2, none⟩ = some (.int .i64 (m : Int)) ∧ w'.cell? ⟨gb, 3, none⟩ = some (.int .i64 s2.ge) ∧ w'.cell? ⟨gb, 4, none⟩ = some (.int .i64 s2.hd) ∧ w'.cell? ⟨gb, 5, none⟩ = some (.int .i64 B.im) ∧ w'.cell? ⟨gb, 6, none⟩ = some (.int .i64 B.ih)) (by kernel_rfl) X7.out (fun hHeld => ?_)
  refine wpAnyH_take (i := 0) (oi := { dst := some 53, op := Op.move (Operand.tmp 0), type := 44, pos := "outright.go:134", after := #[], guard := none }) (v := .pointer (some ⟨gb, 0, none⟩)) rfl (by kernel_rfl) (by kernel_rfl) (by kernel_rfl) (fun _ _ _ h => h) (Or.inl ⟨by rfl, by intro w hS; go_simp⟩) hHeld ?_
  try simp only [Act.put, List.setIfInBounds_toArray, List.set_cons_zero, List.set_cons_succ]
  refine wpAnyH_take (i := 1) (oi := { dst := some 54, op := Op.nilCheck (Operand.tmp 53), type := 0, pos := "outright.go:134", after := #[{ on := 0, ground := Ground.data }], guard := none }) (v := .pointer (some ⟨gb, 0, none⟩)) rfl (by kernel_rfl) (by kernel_rfl) (by kernel_rfl) (fun _ _ _ h => h) (Or.inl ⟨by rfl, by intro w hS; go_simp⟩) hHeld ?_
  try simp only [Act.put, List.setIfInBounds_toArray, List.set_cons_zero, List.set_cons_succ]
  refine wpAnyH_take (i := 2) (oi := { dst := some 55, op := Op.fieldAddr 48 (Operand.tmp 54) 5, type := 0, pos := "outright.go:134", after := #[{ on := 1, ground := Ground.data }], guard := none }) (v := .pointer (some ⟨gb, 5, none⟩)) rfl (by kernel_rfl) (by kernel_rfl) (by kernel_rfl) (fun _ _ _ h => h) (Or.inl ⟨by rfl, by intro w hS; go_simp⟩) hHeld ?_
  try simp only [Act.put, List.setIfInBounds_toArray, List.set_cons_zero, List.set_cons_succ]
  refine wpAnyH_take (i := 3) (oi := { dst := some 56, op := Op.load 3 (Operand.tmp 55), type := 3, pos := "outright.go:134", after := #[{ on := 2, ground := Ground.data }], guard := none }) (v := .int .i64 B.im) rfl (by kernel_rfl) (by kernel_rfl) (by kernel_rfl) (fun _ _ _ h => h) (Or.inl ⟨by rfl, by intro w hS; have hc := hS.2.2.2.2.2.2.1; go_simp⟩) hHeld ?_
  try simp only [Act.put, List.setIfInBounds_toArray, List.set_cons_zero, List.set_cons_succ]
  refine wpAnyH_take (i := 4) (oi := { dst := some 57, op := Op.binOp BinOp.gtr 3 (Operand.tmp 56) (Operand.const (Value.int IntKind.i64 0)) 3, type := 4, pos := "outright.go:134", after := #[{ on := 3, ground := Ground.data }], guard := none }) (v := .bool true) rfl (by kernel_rfl) (by kernel_rfl) (by kernel_rfl) (fun _ _ _ h => h) (Or.inl ⟨by rfl, by intro w hS; (have he := E74.out; go_simp)⟩) hHeld ?_
  try simp only [Act.put, List.setIfInBounds_toArray, List.set_cons_zero, List.set_cons_succ]
  refine wpAnyH_take (i := 5) (oi := { dst := some 58, op := Op.move (Operand.tmp 57), type := 4, pos := "outright.go:134", after := #[{ on := 4, ground := Ground.data }], guard := none }) (v := .bool true) rfl (by kernel_rfl) (by kernel_rfl) (by kernel_rfl) (fun _ _ _ h => h) (Or.inl ⟨by rfl, by intro w hS; go_simp⟩) hHeld ?_
  try simp only [Act.put, List.setIfInBounds_toArray, List.set_cons_zero, List.set_cons_succ]
  refine wpAnyH_take (i := 6) (oi := { dst := some 59, op := Op.fieldAddr 37 (Operand.tmp 9) 1, type := 0, pos := "outright.go:134", after := #[{ on := 5, ground := Ground.guard }], guard := some (5, true) }) (v := .pointer (some ⟨G9, 1, none⟩)) rfl (by kernel_rfl) (by kernel_rfl) (by kernel_rfl) (fun _ _ _ h => h) (Or.inl ⟨by rfl, by intro w hS; go_simp⟩) hHeld ?_
  try simp only [Act.put, List.setIfInBounds_toArray, List.set_cons_zero, List.set_cons_succ]
  refine wpAnyH_take (i := 8) (oi := { dst := some 61, op := Op.move (Operand.tmp 0), type := 44, pos := "outright.go:134", after := #[{ on := 5, ground := Ground.guard }], guard := some (5, true) }) (v := .pointer (some ⟨gb, 0, none⟩)) rfl (by kernel_rfl) (by kernel_rfl) (by kernel_rfl) (fun _ _ _ h => h) (Or.inl ⟨by rfl, by intro w hS; go_simp⟩) hHeld ?_
  try simp only [Act.put, List.setIfInBounds_toArray, List.set_cons_zero, List.set_cons_succ]
  refine wpAnyH_take (i := 7) (oi := { dst := some 60, op := Op.load 3 (Operand.tmp 59), type := 3, pos := "outright.go:134", after := #[{ on := 6, ground := Ground.data }, { on := 5, ground := Ground.guard }], guard := some (5, true) }) (v := .int .i64 s2.ge) rfl (by kernel_rfl) (by kernel_rfl) (by kernel_rfl) (fun _ _ _ h => h) (Or.inl ⟨by rfl, by intro w hS; have hc := hS.1; go_simp⟩) hHeld ?_
  try simp only [Act.put, List.setIfInBounds_toArray, List.set_cons_zero, List.set_cons_succ]
  refine wpAnyH_take (i := 9) (oi := { dst := some 62, op := Op.nilCheck (Operand.tmp 61), type := 0, pos := "outright.go:134", after := #[{ on := 8, ground := Ground.data }, { on := 5, ground := Ground.guard }], guard := some (5, true) }) (v := .pointer (some ⟨gb, 0, none⟩)) rfl (by kernel_rfl) (by kernel_rfl) (by kernel_rfl) (fun _ _ _ h => h) (Or.inl ⟨by rfl, by intro w hS; go_simp⟩) hHeld ?_
  try simp only [Act.put, List.setIfInBounds_toArray, List.set_cons_zero, List.set_cons_succ]
  refine wpAnyH_take (i := 10) (oi := { dst := some 63, op := Op.fieldAddr 48 (Operand.tmp 62) 3, type := 0, pos := "outright.go:134", after := #[{ on := 9, ground := Ground.data }, { on := 5, ground := Ground.guard }], guard := some (5, true) }) (v := .pointer (some ⟨gb, 3, none⟩)) rfl (by kernel_rfl) (by kernel_rfl) (by kernel_rfl) (fun _ _ _ h => h) (Or.inl ⟨by rfl, by intro w hS; go_simp⟩) hHeld ?_
  try simp only [Act.put, List.setIfInBounds_toArray, List.set_cons_zero, List.set_cons_succ]
  refine wpAnyH_take (i := 11) (oi := { dst := some 64, op := Op.load 3 (Operand.tmp 63), type := 3, pos := "outright.go:134", after := #[{ on := 10, ground := Ground.data }, { on := 5, ground := Ground.guard }], guard := some (5, true) }) (v := .int .i64 s2.ge) rfl (by kernel_rfl) (by kernel_rfl) (by kernel_rfl) (fun _ _ _ h => h) (Or.inl ⟨by rfl, by intro w hS; have hc := hS.2.2.2.2.1; go_simp⟩) hHeld ?_
  try simp only [Act.put, List.setIfInBounds_toArray, List.set_cons_zero, List.set_cons_succ]
  refine wpAnyH_take (i := 12) (oi := { dst := some 65, op := Op.binOp BinOp.add 3 (Operand.tmp 64) (Operand.const (Value.int IntKind.i64 1)) 3, type := 3, pos := "outright.go:134", after := #[{ on := 11, ground := Ground.data }, { on := 5, ground := Ground.guard }], guard := some (5, true) }) (v := .int .i64 (s2.ge + 1)) rfl (by kernel_rfl) (by kernel_rfl) (by kernel_rfl) (fun _ _ _ h => h) (Or.inl ⟨by rfl, by intro w hS; (have hg1 := EG.out; go_simp)⟩) hHeld ?_
  try simp only [Act.put, List.setIfInBounds_toArray, List.set_cons_zero, List.set_cons_succ]
  refine wpAnyH_take (i := 13) (oi := { dst := some 66, op := Op.binOp BinOp.eql 3 (Operand.tmp 60) (Operand.tmp 65) 3, type := 4, pos := "outright.go:134", after := #[{ on := 7, ground := Ground.data }, { on := 12, ground := Ground.data }, { on := 5, ground := Ground.guard }], guard := some (5, true) }) (v := .bool false) rfl (by kernel_rfl) (by kernel_rfl) (by kernel_rfl) (fun _ _ _ h => h) (Or.inl ⟨by rfl, by intro w hS; (have he := E713.out; go_simp)⟩) hHeld ?_
  try simp only [Act.put, List.setIfInBounds_toArray, List.set_cons_zero, List.set_cons_succ]
  refine wpAnyH_take (i := 14) (oi := { dst := some 67, op := Op.pick (Operand.tmp 58) (Operand.tmp 66) (Operand.const (Value.bool false)), type := 4, pos := "outright.go:134", after := #[{ on := 5, ground := Ground.data }, { on := 13, ground := Ground.data }], guard := none }) (v := .bool false) rfl (by kernel_rfl) (by kernel_rfl) (by kernel_rfl) (fun _ _ _ h => h) (Or.inl ⟨by rfl, by intro w hS; go_simp⟩) hHeld ?_
  try simp only [Act.put, List.setIfInBounds_toArray, List.set_cons_zero, List.set_cons_succ]
  refine wpAnyH_take (i := 15) (oi := { dst := some 68, op := Op.move (Operand.tmp 67), type := 4, pos := "outright.go:134", after := #[{ on := 14, ground := Ground.data }, { on := 5, ground := Ground.chain }], guard := none }) (v := .bool false) rfl (by kernel_rfl) (by kernel_rfl) (by kernel_rfl) (fun _ _ _ h => h) (Or.inl ⟨by rfl, by intro w hS; go_simp⟩) hHeld ?_
  try simp only [Act.put, List.setIfInBounds_toArray, List.set_cons_zero, List.set_cons_succ]
  refine wpAnyH_take (i := 16) (oi := { dst := some 69, op := Op.fieldAddr 37 (Operand.tmp 9) 2, type := 0, pos := "outright.go:134", after := #[{ on := 15, ground := Ground.guard }], guard := some (15, true) }) (v := undef) rfl (by kernel_rfl) (by kernel_rfl) (by kernel_rfl) (fun _ _ _ h => h) (Or.inr ⟨by rfl, rfl⟩) hHeld ?_
  try simp only [Act.put, List.setIfInBounds_toArray, List.set_cons_zero, List.set_cons_succ]
  refine wpAnyH_take (i := 18) (oi := { dst := some 71, op := Op.move (Operand.tmp 0), type := 44, pos := "outright.go:134", after := #[{ on := 15, ground := Ground.guard }], guard := some (15, true) }) (v := undef) rfl (by kernel_rfl) (by kernel_rfl) (by kernel_rfl) (fun _ _ _ h => h) (Or.inr ⟨by rfl, rfl⟩) hHeld ?_
  try simp only [Act.put, List.setIfInBounds_toArray, List.set_cons_zero, List.set_cons_succ]
  refine wpAnyH_take (i := 17) (oi := { dst := some 70, op := Op.load 3 (Operand.tmp 69), type := 3, pos := "outright.go:134", after := #[{ on := 16, ground := Ground.data }, { on := 15, ground := Ground.guard }], guard := some (15, true) }) (v := undef) rfl (by kernel_rfl) (by kernel_rfl) (by kernel_rfl) (fun _ _ _ h => h) (Or.inr ⟨by rfl, rfl⟩) hHeld ?_
  try simp only [Act.put, List.setIfInBounds_toArray, List.set_cons_zero, List.set_cons_succ]
  refine wpAnyH_take (i := 19) (oi := { dst := some 72, op := Op.nilCheck (Operand.tmp 71), type := 0, pos := "outright.go:134", after := #[{ on := 18, ground := Ground.data }, { on := 15, ground := Ground.guard }], guard := some (15, true) }) (v := undef) rfl (by kernel_rfl) (by kernel_rfl) (by kernel_rfl) (fun _ _ _ h => h) (Or.inr ⟨by rfl, rfl⟩) hHeld ?_
  try simp only [Act.put, List.setIfInBounds_toArray, List.set_cons_zero, List.set_cons_succ]
  refine wpAnyH_take (i := 20) (oi := { dst := some 73, op := Op.fieldAddr 48 (Operand.tmp 72) 5, type := 0, pos := "outright.go:134", after := #[{ on := 19, ground := Ground.data }, { on := 15, ground := Ground.guard }], guard := some (15, true) }) (v := undef) rfl (by kernel_rfl) (by kernel_rfl) (by kernel_rfl) (fun _ _ _ h => h) (Or.inr ⟨by rfl, rfl⟩) hHeld ?_
  try simp only [Act.put, List.setIfInBounds_toArray, List.set_cons_zero, List.set_cons_succ]
  refine wpAnyH_take (i := 21) (oi := { dst := some 74, op := Op.load 3 (Operand.tmp 73), type := 3, pos := "outright.go:134", after := #[{ on := 20, ground := Ground.data }, { on := 15, ground := Ground.guard }], guard := some (15, true) }) (v := undef) rfl (by kernel_rfl) (by kernel_rfl) (by kernel_rfl) (fun _ _ _ h => h) (Or.inr ⟨by rfl, rfl⟩) hHeld ?_
  try simp only [Act.put, List.setIfInBounds_toArray, List.set_cons_zero, List.set_cons_succ]
  refine wpAnyH_take (i := 22) (oi := { dst := some 75, op := Op.binOp BinOp.eql 3 (Operand.tmp 70) (Operand.tmp 74) 3, type := 4, pos := "outright.go:134", after := #[{ on := 17, ground := Ground.data }, { on := 21, ground := Ground.data }, { on := 15, ground := Ground.guard }], guard := some (15, true) }) (v := undef) rfl (by kernel_rfl) (by kernel_rfl) (by kernel_rfl) (fun _ _ _ h => h) (Or.inr ⟨by rfl, rfl⟩) hHeld ?_
  try simp only [Act.put, List.setIfInBounds_toArray, List.set_cons_zero, List.set_cons_succ]
  refine wpAnyH_take (i := 23) (oi := { dst := some 76, op := Op.pick (Operand.tmp 68) (Operand.tmp 75) (Operand.const (Value.bool false)), type := 4, pos := "outright.go:134", after := #[{ on := 15, ground := Ground.data }, { on := 22, ground := Ground.data }], guard := none }) (v := .bool false) rfl (by kernel_rfl) (by kernel_rfl) (by kernel_rfl) (fun _ _ _ h => h) (Or.inl ⟨by rfl, by intro w hS; go_simp⟩) hHeld ?_
  try simp only [Act.put, List.setIfInBounds_toArray, List.set_cons_zero, List.set_cons_succ]
  refine wpAnyH_take (i := 24) (oi := { dst := some 77, op := Op.move (Operand.tmp 76), type := 4, pos := "outright.go:134", after := #[{ on := 23, ground := Ground.data }, { on := 15, ground := Ground.chain }], guard := none }) (v := .bool false) rfl (by kernel_rfl) (by kernel_rfl) (by kernel_rfl) (fun _ _ _ h => h) (Or.inl ⟨by rfl, by intro w hS; go_simp⟩) hHeld ?_
  try simp only [Act.put, List.setIfInBounds_toArray, List.set_cons_zero, List.set_cons_succ]
  refine wpAnyH_take (i := 25) (oi := { dst := some 78, op := Op.fieldAddr 37 (Operand.tmp 9) 3, type := 0, pos := "outright.go:134", after := #[{ on := 24, ground := Ground.guard }], guard := some (24, true) }) (v := undef) rfl (by kernel_rfl) (by kernel_rfl) (by kernel_rfl) (fun _ _ _ h => h) (Or.inr ⟨by rfl, rfl⟩) hHeld ?_
  try simp only [Act.put, List.setIfInBounds_toArray, List.set_cons_zero, List.set_cons_succ]
  refine wpAnyH_take (i := 27) (oi := { dst := some 80, op := Op.move (Operand.tmp 0), type := 44, pos := "outright.go:134", after := #[{ on := 24, ground := Ground.guard }], guard := some (24, true) }) (v := undef) rfl (by kernel_rfl) (by kernel_rfl) (by kernel_rfl) (fun _ _ _ h => h) (Or.inr ⟨by rfl, rfl⟩) hHeld ?_
  try simp only [Act.put, List.setIfInBounds_toArray, List.set_cons_zero, List.set_cons_succ]
  refine wpAnyH_take (i := 26) (oi := { dst := some 79, op := Op.load 3 (Operand.tmp 78), type := 3, pos := "outright.go:134", after := #[{ on := 25, ground := Ground.data }, { on := 24, ground := Ground.guard }], guard := some (24, true) }) (v := undef) rfl (by kernel_rfl) (by kernel_rfl) (by kernel_rfl) (fun _ _ _ h => h) (Or.inr ⟨by rfl, rfl⟩) hHeld ?_
  try simp only [Act.put, List.setIfInBounds_toArray, List.set_cons_zero, List.set_cons_succ]
  refine wpAnyH_take (i := 28) (oi := { dst := some 81, op := Op.nilCheck (Operand.tmp 80), type := 0, pos := "outright.go:134", after := #[{ on := 27, ground := Ground.data }, { on := 24, ground := Ground.guard }], guard := some (24, true) }) (v := undef) rfl (by kernel_rfl) (by kernel_rfl) (by kernel_rfl) (fun _ _ _ h => h) (Or.inr ⟨by rfl, rfl⟩) hHeld ?_
  try simp only [Act.put, List.setIfInBounds_toArray, List.set_cons_zero, List.set_cons_succ]
  refine wpAnyH_take (i := 29) (oi := { dst := some 82, op := Op.fieldAddr 48 (Operand.tmp 81) 6, type := 0, pos := "outright.go:134", after := #[{ on := 28, ground := Ground.data }, { on := 24, ground := Ground.guard }], guard := some (24, true) }) (v := undef) rfl (by kernel_rfl) (by kernel_rfl) (by kernel_rfl) (fun _ _ _ h => h) (Or.inr ⟨by rfl, rfl⟩) hHeld ?_
  try simp only [Act.put, List.setIfInBounds_toArray, List.set_cons_zero, List.set_cons_succ]
  refine wpAnyH_take (i := 30) (oi := { dst := some 83, op := Op.load 3 (Operand.tmp 82), type := 3, pos := "outright.go:134", after := #[{ on := 29, ground := Ground.data }, { on := 24, ground := Ground.guard }], guard := some (24, true) }) (v := undef) rfl (by kernel_rfl) (by kernel_rfl) (by kernel_rfl) (fun _ _ _ h => h) (Or.inr ⟨by rfl, rfl⟩) hHeld ?_
  try simp only [Act.put, List.setIfInBounds_toArray, List.set_cons_zero, List.set_cons_succ]
  refine wpAnyH_take (i := 31) (oi := { dst := some 84, op := Op.binOp BinOp.eql 3 (Operand.tmp 79) (Operand.tmp 83) 3, type := 4, pos := "outright.go:134", after := #[{ on := 26, ground := Ground.data }, { on := 30, ground := Ground.data }, { on := 24, ground := Ground.guard }], guard := some (24, true) }) (v := undef) rfl (by kernel_rfl) (by kernel_rfl) (by kernel_rfl) (fun _ _ _ h => h) (Or.inr ⟨by rfl, rfl⟩) hHeld ?_
  try simp only [Act.put, List.setIfInBounds_toArray, List.set_cons_zero, List.set_cons_succ]
  refine wpAnyH_take (i := 32) (oi := { dst := some 85, op := Op.pick (Operand.tmp 77) (Operand.tmp 84) (Operand.const (Value.bool false)), type := 4, pos := "outright.go:134", after := #[{ on := 24, ground := Ground.data }, { on := 31, ground := Ground.data }], guard := none }) (v := .bool false) rfl (by kernel_rfl) (by kernel_rfl) (by kernel_rfl) (fun _ _ _ h => h) (Or.inl ⟨by rfl, by intro w hS; go_simp⟩) hHeld ?_
  try simp only [Act.put, List.setIfInBounds_toArray, List.set_cons_zero, List.set_cons_succ]
  refine wpAnyH_take (i := 33) (oi := { dst := some 11, op := Op.assign (Operand.tmp 85), type := 4, pos := "outright.go:134", after := #[{ on := 32, ground := Ground.data }, { on := 24, ground := Ground.chain }, { on := 0, ground := Ground.phase }, { on := 1, ground := Ground.phase }, { on := 2, ground := Ground.phase }, { on := 3, ground := Ground.phase }, { on := 4, ground := Ground.phase }, { on := 5, ground := Ground.phase }, { on := 6, ground := Ground.phase }, { on := 7, ground := Ground.phase }, { on := 8, ground := Ground.phase }, { on := 9, ground := Ground.phase }, { on := 10, ground := Ground.phase }, { on := 11, ground := Ground.phase }, { on := 12, ground := Ground.phase }, { on := 13, ground := Ground.phase }, { on := 14, ground := Ground.phase }, { on := 15, ground := Ground.phase }, { on := 16, ground := Ground.phase }, { on := 17, ground := Ground.phase }, { on := 18, ground := Ground.phase }, { on := 19, ground := Ground.phase }, { on := 20, ground := Ground.phase }, { on := 21, ground := Ground.phase }, { on := 22, ground := Ground.phase }, { on := 23, ground := Ground.phase }, { on := 24, ground := Ground.phase }, { on := 25, ground := Ground.phase }, { on := 26, ground := Ground.phase }, { on := 27, ground := Ground.phase }, { on := 28, ground := Ground.phase }, { on := 29, ground := Ground.phase }, { on := 30, ground := Ground.phase }, { on := 31, ground := Ground.phase }, { on := 32, ground := Ground.phase }], guard := none }) (v := .bool false) rfl (by kernel_rfl) (by kernel_rfl) (by kernel_rfl) (fun _ _ _ h => h) (Or.inl ⟨by rfl, by intro w hS; go_simp⟩) hHeld ?_
  try simp only [Act.put, List.setIfInBounds_toArray, List.set_cons_zero, List.set_cons_succ]
  refine wpAnyH_done (by kernel_rfl) ?_ _
  refine NoPanic.normal ?_
  have X8 := hid hHeld
  clear hHeld X7
  go_wp2
  have X10 := hid (show _ from X8.out.2.1)
  refine wp_region_noPanic ?_
  refine wp_region_held_drew (S := fun w' => w'.cell? ⟨G9, 2, none⟩ = some (.int .i64 (m : Int))) (by kernel_rfl) X10.out (fun hHeld => ?_)
  refine wpAnyH_take (i := 0) (oi := { dst := some 92, op := Op.move (Operand.tmp 0), type := 44, pos := "outright.go:138", after := #[], guard := none }) (v := .pointer (some ⟨gb, 0, none⟩)) rfl (by kernel_rfl) (by kernel_rfl) (by kernel_rfl) (fun _ _ _ h => h) (Or.inl ⟨by rfl, by intro w hS; go_simp⟩) hHeld ?_
  try simp only [Act.put, List.setIfInBounds_toArray, List.set_cons_zero, List.set_cons_succ]
  refine wpAnyH_take (i := 1) (oi := { dst := some 93, op := Op.move (Operand.tmp 7), type := 33, pos := "outright.go:138", after := #[], guard := none }) (v := .pointer (some ⟨g, 0, none⟩)) rfl (by kernel_rfl) (by kernel_rfl) (by kernel_rfl) (fun _ _ _ h => h) (Or.inl ⟨by rfl, by intro w hS; go_simp⟩) hHeld ?_
  try simp only [Act.put, List.setIfInBounds_toArray, List.set_cons_zero, List.set_cons_succ]
  refine wpAnyH_take (i := 2) (oi := { dst := some 94, op := Op.fieldAddr 37 (Operand.tmp 9) 2, type := 0, pos := "outright.go:138", after := #[], guard := none }) (v := .pointer (some ⟨G9, 2, none⟩)) rfl (by kernel_rfl) (by kernel_rfl) (by kernel_rfl) (fun _ _ _ h => h) (Or.inl ⟨by rfl, by intro w hS; go_simp⟩) hHeld ?_
  try simp only [Act.put, List.setIfInBounds_toArray, List.set_cons_zero, List.set_cons_succ]
  refine wpAnyH_take (i := 3) (oi := { dst := some 95, op := Op.load 3 (Operand.tmp 94), type := 3, pos := "outright.go:138", after := #[{ on := 2, ground := Ground.data }], guard := none }) (v := .int .i64 (m : Int)) rfl (by kernel_rfl) (by kernel_rfl) (by kernel_rfl) (fun _ _ _ h => h) (Or.inl ⟨by rfl, by intro w hS; have hc := hS; go_simp⟩) hHeld ?_
  try simp only [Act.put, List.setIfInBounds_toArray, List.set_cons_zero, List.set_cons_succ]
  refine wpAnyH_ready (rs := [4]) (by kernel_rfl) (by simp) ?_
  refine (AllReadyH.cons (o := { dst := some 96, op := Op.call { callee := Callee.value (Operand.func 27), args := #[Operand.tmp 92, Operand.tmp 93, Operand.tmp 95], argTypes := #[44, 33, 3] }, type := 4, pos := "outright.go:138", after := #[{ on := 0, ground := Ground.data }, { on := 1, ground := Ground.data }, { on := 3, ground := Ground.data }], guard := none }) rfl (fun K hK => ?_) AllReadyH.nil)
  go_simp
  go_at_call 27
  refine (HHO.out).mono ?_
  rintro e w5 ⟨rfl, hD5, hF5⟩
  have HD5 := hid hD5
  have HF5 := hid hF5
  go_wp2_with fail
  refine hK.out _ _ (HX10.out w5 hF5) (fun hHeld2 => ?_)
  clear hK K hHeld
  have hHeld := hHeld2
  clear hHeld2
  clear hD5 hF5
  try simp only [Act.put, List.setIfInBounds_toArray, List.set_cons_zero, List.set_cons_succ]
  refine wpAnyH_take (i := 5) (oi := { dst := some 97, op := Op.unOp UnOp.not 4 (Operand.tmp 96), type := 4, pos := "outright.go:138", after := #[{ on := 4, ground := Ground.data }], guard := none }) (v := .bool false) rfl (by kernel_rfl) (by kernel_rfl) (by kernel_rfl) (fun _ _ _ h => h) (Or.inl ⟨by rfl, by intro w hS; go_simp⟩) hHeld ?_
  try simp only [Act.put, List.setIfInBounds_toArray, List.set_cons_zero, List.set_cons_succ]
  refine wpAnyH_take (i := 6) (oi := { dst := some 98, op := Op.move (Operand.tmp 97), type := 4, pos := "outright.go:138", after := #[{ on := 5, ground := Ground.data }, { on := 4, ground := Ground.chain }], guard := none }) (v := .bool false) rfl (by kernel_rfl) (by kernel_rfl) (by kernel_rfl) (fun _ _ _ h => h) (Or.inl ⟨by rfl, by intro w hS; go_simp⟩) hHeld ?_
  try simp only [Act.put, List.setIfInBounds_toArray, List.set_cons_zero, List.set_cons_succ]
  refine wpAnyH_take (i := 7) (oi := { dst := some 99, op := Op.move (Operand.tmp 7), type := 33, pos := "outright.go:138", after := #[{ on := 6, ground := Ground.guard }], guard := some (6, false) }) (v := .pointer (some ⟨g, 0, none⟩)) rfl (by kernel_rfl) (by kernel_rfl) (by kernel_rfl) (fun _ _ _ h => h) (Or.inl ⟨by rfl, by intro w hS; go_simp⟩) hHeld ?_
  try simp only [Act.put, List.setIfInBounds_toArray, List.set_cons_zero, List.set_cons_succ]
  refine wpAnyH_take (i := 9) (oi := { dst := some 101, op := Op.fieldAddr 37 (Operand.tmp 9) 2, type := 0, pos := "outright.go:138", after := #[{ on := 6, ground := Ground.guard }], guard := some (6, false) }) (v := .pointer (some ⟨G9, 2, none⟩)) rfl (by kernel_rfl) (by kernel_rfl) (by kernel_rfl) (fun _ _ _ h => h) (Or.inl ⟨by rfl, by intro w hS; go_simp⟩) hHeld ?_
  try simp only [Act.put, List.setIfInBounds_toArray, List.set_cons_zero, List.set_cons_succ]
  refine wpAnyH_take (i := 10) (oi := { dst := some 102, op := Op.load 3 (Operand.tmp 101), type := 3, pos := "outright.go:138", after := #[{ on := 9, ground := Ground.data }, { on := 6, ground := Ground.guard }], guard := some (6, false) }) (v := .int .i64 (m : Int)) rfl (by kernel_rfl) (by kernel_rfl) (by kernel_rfl) (fun _ _ _ h => h) (Or.inl ⟨by rfl, by intro w hS; have hc := hS; go_simp⟩) hHeld ?_
  try simp only [Act.put, List.setIfInBounds_toArray, List.set_cons_zero, List.set_cons_succ]
  refine wpAnyH_ready (rs := [8]) (by kernel_rfl) (by simp) ?_
  refine (AllReadyH.cons (o := { dst := some 100, op := Op.call { callee := Callee.value (Operand.func 18), args := #[Operand.tmp 99], argTypes := #[33] }, type := 3, pos := "outright.go:138", after := #[{ on := 7, ground := Ground.data }, { on := 6, ground := Ground.chain }, { on := 6, ground := Ground.guard }], guard := some (6, false) }) rfl (fun K hK => ?_) AllReadyH.nil)
  go_simp
  go_at_call 18
  refine (HNX.out w5 HF5.out).mono ?_
  rintro e w6 ⟨rfl, rfl⟩
  go_wp2_with fail
  refine hK.out _ _ (hHeld) (fun hHeld2 => ?_)
  clear hK K hHeld
  have hHeld := hHeld2
  clear hHeld2
  try simp only [Act.put, List.setIfInBounds_toArray, List.set_cons_zero, List.set_cons_succ]
  refine wpAnyH_take (i := 11) (oi := { dst := some 103, op := Op.binOp BinOp.neq 3 (Operand.tmp 100) (Operand.tmp 102) 3, type := 4, pos := "outright.go:138", after := #[{ on := 8, ground := Ground.data }, { on := 10, ground := Ground.data }, { on := 6, ground := Ground.guard }], guard := some (6, false) }) (v := .bool false) rfl (by kernel_rfl) (by kernel_rfl) (by kernel_rfl) (fun _ _ _ h => h) (Or.inl ⟨by rfl, by intro w hS; go_simp⟩) hHeld ?_
  try simp only [Act.put, List.setIfInBounds_toArray, List.set_cons_zero, List.set_cons_succ]
  refine wpAnyH_take (i := 12) (oi := { dst := some 104, op := Op.pick (Operand.tmp 98) (Operand.const (Value.bool true)) (Operand.tmp 103), type := 4, pos := "outright.go:138", after := #[{ on := 6, ground := Ground.data }, { on := 11, ground := Ground.data }], guard := none }) (v := .bool false) rfl (by kernel_rfl) (by kernel_rfl) (by kernel_rfl) (fun _ _ _ h => h) (Or.inl ⟨by rfl, by intro w hS; go_simp⟩) hHeld ?_
  try simp only [Act.put, List.setIfInBounds_toArray, List.set_cons_zero, List.set_cons_succ]
  refine wpAnyH_done (by kernel_rfl) ?_ _
  refine NoPanic.normal ?_
  clear hHeld
  have hba5 := (show BA w4.drew.drew.drew base G gb B from HBA4.out.of_heap (Nat.le_refl _) (fun k hk => rfl)).other HF5.out HAP4.out
  have hgF5 : gb ∉ F4 := fun e => HAP4.out gb e hba5.gbG
  have r95 := HF5.out.keep (show w4.drew.drew.drew.heap[G9]? = _ from R9.out) (HD4.out.not_in R9.out (by decide) (by decide) (by decide))
  have X12 := hid (show w5.drew.heap[G9]? = some (.cells (supC s2) 37 (0, 0)) from r95)
  have hk5 := HK4.out.drew.drew.drew.other HD4.out.drew.drew.drew HF5.out
  have hgg := hba5.not_file hk5
  have NGB := hid (show gb ≠ G9 from by obtain ⟨_, _, _, hh⟩ := hba5; exact ne_ty hh.cell r95 (by decide))
  obtain ⟨b2, b3, b4, b5, b6, bf⟩ := hba5.cell
  have c2 : w5.drew.cell? ⟨gb, 2, none⟩ = some (.int .i64 B.mrk) := b2
  have c3 : w5.drew.cell? ⟨gb, 3, none⟩ = some (.int .i64 B.gn) := b3
  have c4 : w5.drew.cell? ⟨gb, 4, none⟩ = some (.int .i64 B.hd) := b4
  have c5 : w5.drew.cell? ⟨gb, 5, none⟩ = some (.int .i64 B.im) := b5
  have f2 : w5.drew.frozen? ⟨gb, 2, none⟩ = false := bf 2
  have f3 : w5.drew.frozen? ⟨gb, 3, none⟩ = false := bf 3
  have f4 : w5.drew.frozen? ⟨gb, 4, none⟩ = false := bf 4
  have f5 : w5.drew.frozen? ⟨gb, 5, none⟩ = false := bf 5
  have HBA5 := hid hba5
  have HK5 := hid hk5
  have HGF := hid hgF5
  have HGG := hid hgg
  have f2' := bf 2
  have f3' := bf 3
  have f4' := bf 4
  have f5' := bf 5
  clear b6 bf hba5 hk5 hgF5 hgg r95 X8 X10 HHO HNX HX10
  go_wp2
  refine wp_region_noPanic ?_
  refine wp_region_held_drew (S := fun w' => w'.heap[G9]? = some (.cells (supC s2) 37 (0, 0))) (by kernel_rfl) X12.out (fun hHeld => ?_)
  refine wpAnyH_take (i := 0) (oi := { dst := some 105, op := Op.move (Operand.tmp 0), type := 44, pos := "outright.go:141", after := #[], guard := none }) (v := .pointer (some ⟨gb, 0, none⟩)) rfl (by kernel_rfl) (by kernel_rfl) (by kernel_rfl) (fun _ _ _ h => h) (Or.inl ⟨by rfl, by intro w hS; go_simp⟩) hHeld ?_
  try simp only [Act.put, List.setIfInBounds_toArray, List.set_cons_zero, List.set_cons_succ]
  refine wpAnyH_take (i := 1) (oi := { dst := some 106, op := Op.move (Operand.tmp 0), type := 44, pos := "outright.go:141", after := #[{ on := 11, ground := Ground.gcOnly Departure.lateStores }], guard := none }) (v := .pointer (some ⟨gb, 0, none⟩)) rfl (by kernel_rfl) (by kernel_rfl) (by kernel_rfl) (fun _ _ _ h => h) (Or.inl ⟨by rfl, by intro w hS; go_simp⟩) hHeld ?_
  try simp only [Act.put, List.setIfInBounds_toArray, List.set_cons_zero, List.set_cons_succ]
  refine wpAnyH_take (i := 2) (oi := { dst := some 107, op := Op.move (Operand.tmp 0), type := 44, pos := "outright.go:141", after := #[{ on := 14, ground := Ground.gcOnly Departure.lateStores }], guard := none }) (v := .pointer (some ⟨gb, 0, none⟩)) rfl (by kernel_rfl) (by kernel_rfl) (by kernel_rfl) (fun _ _ _ h => h) (Or.inl ⟨by rfl, by intro w hS; go_simp⟩) hHeld ?_
  try simp only [Act.put, List.setIfInBounds_toArray, List.set_cons_zero, List.set_cons_succ]
  refine wpAnyH_take (i := 3) (oi := { dst := some 108, op := Op.fieldAddr 37 (Operand.tmp 9) 2, type := 0, pos := "outright.go:141", after := #[], guard := none }) (v := .pointer (some ⟨G9, 2, none⟩)) rfl (by kernel_rfl) (by kernel_rfl) (by kernel_rfl) (fun _ _ _ h => h) (Or.inl ⟨by rfl, by intro w hS; go_simp⟩) hHeld ?_
  try simp only [Act.put, List.setIfInBounds_toArray, List.set_cons_zero, List.set_cons_succ]
  refine wpAnyH_take (i := 5) (oi := { dst := some 110, op := Op.fieldAddr 37 (Operand.tmp 9) 3, type := 0, pos := "outright.go:141", after := #[{ on := 11, ground := Ground.gcOnly Departure.lateStores }], guard := none }) (v := .pointer (some ⟨G9, 3, none⟩)) rfl (by kernel_rfl) (by kernel_rfl) (by kernel_rfl) (fun _ _ _ h => h) (Or.inl ⟨by rfl, by intro w hS; go_simp⟩) hHeld ?_
  try simp only [Act.put, List.setIfInBounds_toArray, List.set_cons_zero, List.set_cons_succ]
  refine wpAnyH_take (i := 7) (oi := { dst := some 112, op := Op.fieldAddr 37 (Operand.tmp 9) 1, type := 0, pos := "outright.go:141", after := #[{ on := 14, ground := Ground.gcOnly Departure.lateStores }], guard := none }) (v := .pointer (some ⟨G9, 1, none⟩)) rfl (by kernel_rfl) (by kernel_rfl) (by kernel_rfl) (fun _ _ _ h => h) (Or.inl ⟨by rfl, by intro w hS; go_simp⟩) hHeld ?_
  try simp only [Act.put, List.setIfInBounds_toArray, List.set_cons_zero, List.set_cons_succ]
  refine wpAnyH_take (i := 4) (oi := { dst := some 109, op := Op.load 3 (Operand.tmp 108), type := 3, pos := "outright.go:141", after := #[{ on := 3, ground := Ground.data }], guard := none }) (v := .int .i64 s2.ma) rfl (by kernel_rfl) (by kernel_rfl) (by kernel_rfl) (fun _ _ _ h => h) (Or.inl ⟨by rfl, by intro w hS; have hc := cell_sup2 hS; go_simp⟩) hHeld ?_
  try simp only [Act.put, List.setIfInBounds_toArray, List.set_cons_zero, List.set_cons_succ]
  refine wpAnyH_take (i := 6) (oi := { dst := some 111, op := Op.load 3 (Operand.tmp 110), type := 3, pos := "outright.go:141", after := #[{ on := 5, ground := Ground.data }, { on := 11, ground := Ground.gcOnly Departure.lateStores }], guard := none }) (v := .int .i64 s2.hd) rfl (by kernel_rfl) (by kernel_rfl) (by kernel_rfl) (fun _ _ _ h => h) (Or.inl ⟨by rfl, by intro w hS; have hc := cell_sup3 hS; go_simp⟩) hHeld ?_
  try simp only [Act.put, List.setIfInBounds_toArray, List.set_cons_zero, List.set_cons_succ]
  refine wpAnyH_take (i := 8) (oi := { dst := some 113, op := Op.load 3 (Operand.tmp 112), type := 3, pos := "outright.go:141", after := #[{ on := 7, ground := Ground.data }, { on := 14, ground := Ground.gcOnly Departure.lateStores }], guard := none }) (v := .int .i64 s2.ge) rfl (by kernel_rfl) (by kernel_rfl) (by kernel_rfl) (fun _ _ _ h => h) (Or.inl ⟨by rfl, by intro w hS; have hc := cell_sup1 hS; go_simp⟩) hHeld ?_
  try simp only [Act.put, List.setIfInBounds_toArray, List.set_cons_zero, List.set_cons_succ]
  refine wpAnyH_take (i := 9) (oi := { dst := some 114, op := Op.nilCheck (Operand.tmp 105), type := 0, pos := "outright.go:141", after := #[{ on := 0, ground := Ground.data }, { on := 0, ground := Ground.phase }, { on := 1, ground := Ground.textOnly Departure.lateStores }, { on := 2, ground := Ground.textOnly Departure.lateStores }, { on := 3, ground := Ground.phase }, { on := 4, ground := Ground.phase }, { on := 5, ground := Ground.textOnly Departure.lateStores }, { on := 6, ground := Ground.textOnly Departure.lateStores }, { on := 7, ground := Ground.textOnly Departure.lateStores }, { on := 8, ground := Ground.textOnly Departure.lateStores }], guard := none }) (v := .pointer (some ⟨gb, 0, none⟩)) rfl (by kernel_rfl) (by kernel_rfl) (by kernel_rfl) (fun _ _ _ h => h) (Or.inl ⟨by rfl, by intro w hS; go_simp⟩) hHeld ?_
  try simp only [Act.put, List.setIfInBounds_toArray, List.set_cons_zero, List.set_cons_succ]
  refine wpAnyH_take (i := 10) (oi := { dst := some 115, op := Op.fieldAddr 48 (Operand.tmp 114) 2, type := 0, pos := "outright.go:141", after := #[{ on := 9, ground := Ground.data }, { on := 0, ground := Ground.phase }, { on := 1, ground := Ground.textOnly Departure.lateStores }, { on := 2, ground := Ground.textOnly Departure.lateStores }, { on := 3, ground := Ground.phase }, { on := 4, ground := Ground.phase }, { on := 5, ground := Ground.textOnly Departure.lateStores }, { on := 6, ground := Ground.textOnly Departure.lateStores }, { on := 7, ground := Ground.textOnly Departure.lateStores }, { on := 8, ground := Ground.textOnly Departure.lateStores }], guard := none }) (v := .pointer (some ⟨gb, 2, none⟩)) rfl (by kernel_rfl) (by kernel_rfl) (by kernel_rfl) (fun _ _ _ h => h) (Or.inl ⟨by rfl, by intro w hS; go_simp⟩) hHeld ?_
  try simp only [Act.put, List.setIfInBounds_toArray, List.set_cons_zero, List.set_cons_succ]
  refine wpAnyH_ready (rs := [11]) (by kernel_rfl) (by simp) ?_
  refine (AllReadyH.cons (o := { dst := none, op := Op.store 3 (Operand.tmp 115) (Operand.tmp 109), type := 0, pos := "outright.go:141", after := #[{ on := 10, ground := Ground.data }, { on := 4, ground := Ground.data }, { on := 0, ground := Ground.phase }, { on := 1, ground := Ground.textOnly Departure.lateStores }, { on := 2, ground := Ground.textOnly Departure.lateStores }, { on := 3, ground := Ground.phase }, { on := 4, ground := Ground.phase }, { on := 5, ground := Ground.textOnly Departure.lateStores }, { on := 6, ground := Ground.textOnly Departure.lateStores }, { on := 7, ground := Ground.textOnly Departure.lateStores }, { on := 8, ground := Ground.textOnly Departure.lateStores }], guard := none }) rfl (fun K hK => ?_) AllReadyH.nil)
  go_simp
  refine hK.out _ _ ((heap_setCell_other _ ⟨gb, 2, none⟩ G9 _ (fun e => NGB.out e.symm)).trans hHeld) (fun hHeld2 => ?_)
  clear hK K hHeld
  have hHeld := hHeld2
  clear hHeld2
  try simp only [Act.put, List.setIfInBounds_toArray, List.set_cons_zero, List.set_cons_succ]
  refine wpAnyH_take (i := 12) (oi := { dst := some 116, op := Op.nilCheck (Operand.tmp 106), type := 0, pos := "outright.go:141", after := #[{ on := 1, ground := Ground.data }, { on := 0, ground := Ground.phase }, { on := 1, ground := Ground.phase }, { on := 2, ground := Ground.textOnly Departure.lateStores }, { on := 3, ground := Ground.phase }, { on := 4, ground := Ground.phase }, { on := 5, ground := Ground.phase }, { on := 6, ground := Ground.phase }, { on := 7, ground := Ground.textOnly Departure.lateStores }, { on := 8, ground := Ground.textOnly Departure.lateStores }, { on := 9, ground := Ground.phase }, { on := 10, ground := Ground.phase }, { on := 11, ground := Ground.phase }], guard := none }) (v := .pointer (some ⟨gb, 0, none⟩)) rfl (by kernel_rfl) (by kernel_rfl) (by kernel_rfl) (fun _ _ _ h => h) (Or.inl ⟨by rfl, by intro w hS; go_simp⟩) hHeld ?_
  try simp only [Act.put, List.setIfInBounds_toArray, List.set_cons_zero, List.set_cons_succ]
  refine wpAnyH_take (i := 13) (oi := { dst := some 117, op := Op.fieldAddr 48 (Operand.tmp 116) 4, type := 0, pos := "outright.go:141", after := #[{ on := 12, ground := Ground.data }, { on := 0, ground := Ground.phase }, { on := 1, ground := Ground.phase }, { on := 2, ground := Ground.textOnly Departure.lateStores }, { on := 3, ground := Ground.phase }, { on := 4, ground := Ground.phase }, { on := 5, ground := Ground.phase }, { on := 6, ground := Ground.phase }, { on := 7, ground := Ground.textOnly Departure.lateStores }, { on := 8, ground := Ground.textOnly Departure.lateStores }, { on := 9, ground := Ground.phase }, { on := 10, ground := Ground.phase }, { on := 11, ground := Ground.phase }], guard := none }) (v := .pointer (some ⟨gb, 4, none⟩)) rfl (by kernel_rfl) (by kernel_rfl) (by kernel_rfl) (fun _ _ _ h => h) (Or.inl ⟨by rfl, by intro w hS; go_simp⟩) hHeld ?_
  try simp only [Act.put, List.setIfInBounds_toArray, List.set_cons_zero, List.set_cons_succ]
  refine wpAnyH_ready (rs := [14]) (by kernel_rfl) (by simp) ?_
  refine (AllReadyH.cons (o := { dst := none, op := Op.store 3 (Operand.tmp 117) (Operand.tmp 111), type := 0, pos := "outright.go:141", after := #[{ on := 13, ground := Ground.data }, { on := 6, ground := Ground.data }, { on := 11, ground := Ground.chain }, { on := 0, ground := Ground.phase }, { on := 1, ground := Ground.phase }, { on := 2, ground := Ground.textOnly Departure.lateStores }, { on := 3, ground := Ground.phase }, { on := 4, ground := Ground.phase }, { on := 5, ground := Ground.phase }, { on := 6, ground := Ground.phase }, { on := 7, ground := Ground.textOnly Departure.lateStores }, { on := 8, ground := Ground.textOnly Departure.lateStores }, { on := 9, ground := Ground.phase }, { on := 10, ground := Ground.phase }, { on := 11, ground := Ground.phase }], guard := none }) rfl (fun K hK => ?_) AllReadyH.nil)
  go_simp
  refine hK.out _ _ ((heap_setCell_other _ ⟨gb, 4, none⟩ G9 _ (fun e => NGB.out e.symm)).trans hHeld) (fun hHeld2 => ?_)
  clear hK K hHeld
  have hHeld := hHeld2
  clear hHeld2
  try simp only [Act.put, List.setIfInBounds_toArray, List.set_cons_zero, List.set_cons_succ]
  refine wpAnyH_take (i := 15) (oi := { dst := some 118, op := Op.nilCheck (Operand.tmp 107), type := 0, pos := "outright.go:141", after := #[{ on := 2, ground := Ground.data }, { on := 0, ground := Ground.phase }, { on := 1, ground := Ground.phase }, { on := 2, ground := Ground.phase }, { on := 3, ground := Ground.phase }, { on := 4, ground := Ground.phase }, { on := 5, ground := Ground.phase }, { on := 6, ground := Ground.phase }, { on := 7, ground := Ground.phase }, { on := 8, ground := Ground.phase }, { on := 9, ground := Ground.phase }, { on := 10, ground := Ground.phase }, { on := 11, ground := Ground.phase }, { on := 12, ground := Ground.phase }, { on := 13, ground := Ground.phase }, { on := 14, ground := Ground.phase }], guard := none }) (v := .pointer (some ⟨gb, 0, none⟩)) rfl (by kernel_rfl) (by kernel_rfl) (by kernel_rfl) (fun _ _ _ h => h) (Or.inl ⟨by rfl, by intro w hS; go_simp⟩) hHeld ?_
  try simp only [Act.put, List.setIfInBounds_toArray, List.set_cons_zero, List.set_cons_succ]
  refine wpAnyH_take (i := 16) (oi := { dst := some 119, op := Op.fieldAddr 48 (Operand.tmp 118) 3, type := 0, pos := "outright.go:141", after := #[{ on := 15, ground := Ground.data }, { on := 0, ground := Ground.phase }, { on := 1, ground := Ground.phase }, { on := 2, ground := Ground.phase }, { on := 3, ground := Ground.phase }, { on := 4, ground := Ground.phase }, { on := 5, ground := Ground.phase }, { on := 6, ground := Ground.phase }, { on := 7, ground := Ground.phase }, { on := 8, ground := Ground.phase }, { on := 9, ground := Ground.phase }, { on := 10, ground := Ground.phase }, { on := 11, ground := Ground.phase }, { on := 12, ground := Ground.phase }, { on := 13, ground := Ground.phase }, { on := 14, ground := Ground.phase }], guard := none }) (v := .pointer (some ⟨gb, 3, none⟩)) rfl (by kernel_rfl) (by kernel_rfl) (by kernel_rfl) (fun _ _ _ h => h) (Or.inl ⟨by rfl, by intro w hS; go_simp⟩) hHeld ?_
  try simp only [Act.put, List.setIfInBounds_toArray, List.set_cons_zero, List.set_cons_succ]
  refine wpAnyH_ready (rs := [17]) (by kernel_rfl) (by simp) ?_
  refine (AllReadyH.cons (o := { dst := none, op := Op.store 3 (Operand.tmp 119) (Operand.tmp 113), type := 0, pos := "outright.go:141", after := #[{ on := 16, ground := Ground.data }, { on := 8, ground := Ground.data }, { on := 14, ground := Ground.chain }, { on := 0, ground := Ground.phase }, { on := 1, ground := Ground.phase }, { on := 2, ground := Ground.phase }, { on := 3, ground := Ground.phase }, { on := 4, ground := Ground.phase }, { on := 5, ground := Ground.phase }, { on := 6, ground := Ground.phase }, { on := 7, ground := Ground.phase }, { on := 8, ground := Ground.phase }, { on := 9, ground := Ground.phase }, { on := 10, ground := Ground.phase }, { on := 11, ground := Ground.phase }, { on := 12, ground := Ground.phase }, { on := 13, ground := Ground.phase }, { on := 14, ground := Ground.phase }], guard := none }) rfl (fun K hK => ?_) AllReadyH.nil)
  go_simp
  refine hK.out _ _ ((heap_setCell_other _ ⟨gb, 3, none⟩ G9 _ (fun e => NGB.out e.symm)).trans hHeld) (fun hHeld2 => ?_)
  clear hK K hHeld
  have hHeld := hHeld2
  clear hHeld2
  try simp only [Act.put, List.setIfInBounds_toArray, List.set_cons_zero, List.set_cons_succ]
  refine wpAnyH_done (by kernel_rfl) ?_ _
  refine NoPanic.normal ?_
  clear hHeld
  go_wp2
  go_ret
  exact HEND.out w5.drew HD5.out.drew HK5.out.drew (HBA5.out.of_heap (Nat.le_refl _) (fun k hk => rfl)) HF5.out.drew HGF.out HGG.out
set_option maxRecDepth 100000 in
set_option maxHeartbeats 2000000 in
theorem again_c (w : World) (base : Nat) (F : List Nat) (p : Nat) (D : DS) (h : DA w base F p D) (hbw : base ≤ w.heap.size) (G : List Nat) (gb : Nat) (B : Bk) (hb : BA w base G gb B) (hap : Apart F G) (n c : Nat) (hcr : Cr D B n c) (hc : c ≤ 1000) (fs : List Int) (hfb : Bts fs) (sp : Option Addr) (cap : Nat) (hS : Src w sp cap fs) (hsb : ∀ a, 0 < fs.length → sp = some a → a.block ∉ F)
    (s2 o : Sup) (m : Nat) (hg : Good s2 o (pgO (D.crashed fs).img 0) (pgO (D.crashed fs).img 1)) (hv : validS s2 = true) (hp : s2.pg = (n : Int)) (hm : s2.ma = (m : Int)) (hmn : m ≤ n) (hml : m - 2 ≤ B.Ls.length) (hpg : Pgs (D.crashed fs) B m) (hE : s2.ge = B.gn + 1 ∧ s2.ma = B.im ∧ s2.hd = B.ih) (hI : 0 < B.im) :
    Calls Try.prog 30 #[.pointer (some ⟨gb, 0, none⟩), .pointer (some ⟨p, 0, none⟩), .slice sp fs.length cap] w fun e w' => ∃ (g : Nat) (D' : DS) (s' : Sup) (nx' : Nat) (ep' : Int) (B' : Bk) (F' : List Nat), e = .returned (.pointer (some ⟨g, 0, none⟩)) ∧ w.heap.size ≤ g ∧ DA w' base F' p D' ∧ FK w' g p s' nx' ep' ∧ BA w' base G gb B' ∧ Apart F' G ∧ Fr (F ++ G) w w' ∧ Gr w F F' ∧ Lv D' s' nx' ep' B' n (c + 1) ∧ D'.armed = 0 ∧ B.mrk ≤ s'.ma ∧ (∀ q : Nat, 2 ≤ q → (q : Int) < B.mrk → pgO D'.img q = pgO D.img q) := by
  have hcn := hcr.cnt
  have hgn := hcr.ge
  have hnp : D.np = n := hcr.np
  have hnpc : (D.crashed fs).np = n := (crashed_np hcr.ok fs).trans hnp
  have hvv := (validS_iff s2).1 hv
  have hm2 : 2 ≤ m := by omega
  have HCR := hid (Crash_any w base F p D h (by omega) fs hfb sp cap hS hsb)
  have HD := hid h
  have HBB := hid hb
  have HAP := hid hap
  have hge1 : s2.ge ≤ B.gn + 1 := by omega
  have HOP := hid (fun (w1 : World) (F1 : List Nat) (h1 : DA w1 base F1 p (D.crashed fs)) => Open_ok w1 base F1 p (D.crashed fs) h1 rfl (by show D.reads < _; omega) (by show D.epoch + 1 < _; omega) s2 (hg.chooses rfl) (by rw [hnpc]; exact hp))
  have HLV := hid (fun (hok : DsOk { D.crashed fs with reads := (D.crashed fs).reads + 2 + ((m - 2 : Nat) : Int), epoch := (D.crashed fs).epoch + 1 }) => hcr.lv hc fs s2 o m hg hv hp hm hmn hml hpg hge1 hok)
  have HHOF := hid (fun (w4 : World) (F4 : List Nat) (g : Nat) (h4 : DA w4 base F4 p { D.crashed fs with reads := (D.crashed fs).reads + 2, epoch := (D.crashed fs).epoch + 1 }) (k4 : FK w4 g p s2 (m : Int) (D.epoch + 1 + 1)) (b4 : BA w4 base G gb B) (a4 : Apart F4 G) => holds_in w4 base F4 p _ h4 g s2 (m : Int) (D.epoch + 1 + 1) k4 (show liveF _ _ = 0 by unfold liveF; rw [if_neg (fun q => q rfl)]; exact if_pos rfl) G gb B b4 a4 hcr.len.1 m ⟨hm2, hml, Int.le_refl _, by show m ≤ (D.crashed fs).np; omega⟩ hpg (by show D.reads + 2 + (m : Int) < _; have := hcr.small; omega))
  have HM := hid hm
  have HKM := hid (show B.mrk ≤ s2.ma from by have := hcr.mono hI; omega)
  have HKQ := hid (show ∀ q : Nat, 2 ≤ q → (q : Int) < B.mrk → pgO (D.crashed fs).img q = pgO D.img q from fun q h2 hq => hcr.keep fs q h2 hq (by have := HKM.out; omega))
  have EE := hid (show s2.ge = B.gn + 1 ∧ s2.ma = B.im ∧ s2.hd = B.ih from hE)
  have E6 := hid (show (B.gn + 1 == B.gn) = false by simp; omega)
  have EG := hid (show IntKind.i64.wrap (B.gn + 1) = B.gn + 1 by rw [IntKind.wrap_i64]; omega)
  have E713 := hid (show (B.gn + 1 == B.gn + 1) = true by simp)
  have E74 := hid (show 0 < m by omega)
  clear h hb hap hS hsb hcr hg hv hp hmn hml hpg hcn hnp hnpc hvv hE hI hm hge1 hgn
  go_enter Try.func30, Try.ntmps30
  go_wp2_with fail
  refine HCR.out.mono ?_
  rintro e w1 ⟨rfl, F1, q1, q2, q3⟩
  have HFR1 := hid q2
  have HGR1 := hid q3
  have HD1 := hid q1
  have HAP1 := hid (show Apart F1 G from HAP.out.step (fun k hk => (HBB.out.lt k hk).2) q3)
  have HBA1 := hid (HBB.out.other q2 HAP.out)
  have HOP1 := hid (HOP.out w1 F1 q1)
  clear q1 q2 q3 HCR HOP
  go_wp2_with fail
  refine HOP1.out.mono ?_
  rintro e w2 ⟨g, rfl, hg2, hK2, hD2, hF2⟩
  rw [show (D.crashed fs).epoch + 1 = D.epoch + 1 + 1 from rfl, HM.out] at hK2
  have HBA2 := hid (HBA1.out.other hF2 HAP1.out)
  have HFR2 := hid (HFR1.out.trans hF2 HGR1.out)
  have HD2 := hid hD2
  have HK2 := hid hK2
  have HG2 := hid (Nat.le_trans HFR1.out.size hg2)
  have HSU := hid (FSuper_any w2 g p s2 (m : Int) (D.epoch + 1 + 1) hK2)
  clear hg2 hK2 hD2 hF2 HOP1
  go_wp2_with (first
    | (go_at_call 17; refine HSU.out.mono ?_; rintro e w3 ⟨rfl, hb3⟩; have HB3 := hid hb3; clear hb3)
    | (refine wpList_store_row (by rfl) 37 (.tmp 9) (.tmp 27) (by rfl) w3.heap.size (supC s2) (by rfl) (by rfl) 37 _ (by exact hnew _ _) (supN s2) (supZ s2) (supO s2) ?_; rw [setRow_alloc]; have r9 := hnew w3 (.cells (supC s2) 37); have b4 := below_new w3 (.cells (supC s2) 37); generalize hw4 : w3.alloc (.cells (supC s2) 37) = w4 at *; generalize hG9 : w3.heap.size = G9 at *))
  rw [← hG9] at b4
  have hb24 : Below w2.heap.size w2 w4 := HB3.out.trans (b4.mono HB3.out.size)
  obtain ⟨F4, hF4⟩ : ∃ F4, F4 = F1 := ⟨_, rfl⟩
  rw [← hF4] at HD2 HAP1 HGR1
  have HBA4 := hid (HBA2.out.below hb24)
  have HD4 := hid (HD2.out.below hb24)
  have HK4 := hid (HK2.out.below hb24)
  have HFR4 := hid (HFR2.out.tail (F' := F) hb24)
  have HAP4 := hid HAP1.out
  have R9 := hid r9
  have HHO := hid (HHOF.out w4.drew.drew.drew F4 g HD4.out.drew.drew.drew HK4.out.drew.drew.drew (HBA4.out.of_heap (Nat.le_refl _) (fun k hk => rfl)) HAP4.out)
  have HX10 := hid (fun (w5 : World) (hF5 : Fr F4 w4.drew.drew.drew w5) => (show w5.cell? ⟨G9, 2, none⟩ = some (.int .i64 (m : Int)) from by
    have q := hF5.keep (show w4.drew.drew.drew.heap[G9]? = _ from R9.out) (HD4.out.not_in R9.out (by decide) (by decide) (by decide))
    rw [cell_sup2 q, HM.out]))
  have HNX := hid (fun (w5 : World) (hF5 : Fr F4 w4.drew.drew.drew w5) => FNext_any w5 g p s2 (m : Int) (D.epoch + 1 + 1) (HK4.out.drew.drew.drew.other HD4.out.drew.drew.drew hF5))
  have HEND := hid (fun (w5 : World) (hD5 : DA w5 base F4 p { D.crashed fs with reads := (D.crashed fs).reads + 2 + ((m - 2 : Nat) : Int), epoch := (D.crashed fs).epoch + 1 }) (hK5 : FK w5 g p s2 (m : Int) (D.epoch + 1 + 1)) (hB5 : BA w5 base G gb B) (hF5 : Fr F4 w4.drew.drew.drew w5) (hgF : gb ∉ F4) (hgg : gb ≠ g) =>
    (show ∃ (g' : Nat) (D' : DS) (s' : Sup) (nx' : Nat) (ep' : Int) (B' : Bk) (F' : List Nat), Ending.returned (Value.pointer (some ⟨g, 0, none⟩)) = Ending.returned (Value.pointer (some ⟨g', 0, none⟩)) ∧ w.heap.size ≤ g' ∧ DA ((((w5.setCell ⟨gb, 2, none⟩ (.int .i64 s2.ma)).setCell ⟨gb, 4, none⟩ (.int .i64 s2.hd)).setCell ⟨gb, 3, none⟩ (.int .i64 s2.ge)).setCell ⟨gb, 5, none⟩ (.int .i64 0)) base F' p D' ∧ FK ((((w5.setCell ⟨gb, 2, none⟩ (.int .i64 s2.ma)).setCell ⟨gb, 4, none⟩ (.int .i64 s2.hd)).setCell ⟨gb, 3, none⟩ (.int .i64 s2.ge)).setCell ⟨gb, 5, none⟩ (.int .i64 0)) g' p s' nx' ep' ∧ BA ((((w5.setCell ⟨gb, 2, none⟩ (.int .i64 s2.ma)).setCell ⟨gb, 4, none⟩ (.int .i64 s2.hd)).setCell ⟨gb, 3, none⟩ (.int .i64 s2.ge)).setCell ⟨gb, 5, none⟩ (.int .i64 0)) base G gb B' ∧ Apart F' G ∧ Fr (F ++ G) w ((((w5.setCell ⟨gb, 2, none⟩ (.int .i64 s2.ma)).setCell ⟨gb, 4, none⟩ (.int .i64 s2.hd)).setCell ⟨gb, 3, none⟩ (.int .i64 s2.ge)).setCell ⟨gb, 5, none⟩ (.int .i64 0)) ∧ Gr w F F' ∧ Lv D' s' nx' ep' B' n (c + 1) ∧ D'.armed = 0 ∧ B.mrk ≤ s'.ma ∧ (∀ q : Nat, 2 ≤ q → (q : Int) < B.mrk → pgO D'.img q = pgO D.img q) from by
      have hmG : gb ∈ F ++ G := List.mem_append_right _ hB5.gbG
      have fr5 : Fr (F ++ G) w w5 := (HFR4.out.mono (fun k hk => List.mem_append_left _ hk)).drew.drew.drew.trans hF5 (fun k hk => (HGR1.out k hk).imp (fun q => List.mem_append_left _ q) id)
      refine ⟨g, _, s2, m, D.epoch + 1 + 1, { B with mrk := s2.ma, gn := s2.ge, hd := s2.hd, im := 0 }, F4, rfl, HG2.out, (((hD5.setCellN hgF 2 _).setCellN hgF 4 _).setCellN hgF 3 _).setCellN hgF 5 _, ?_, (((hB5.setM _).setH _).setG _).setI _, HAP4.out, (((fr5.setCell hmG 2 _).setCell hmG 4 _).setCell hmG 3 _).setCell hmG 5 _, HGR1.out, HLV.out hD5.ok, rfl, HKM.out, HKQ.out⟩
      show ((((w5.setCell ⟨gb, 2, none⟩ _).setCell ⟨gb, 4, none⟩ _).setCell ⟨gb, 3, none⟩ _).setCell ⟨gb, 5, none⟩ _).heap[g]? = _
      rw [heap_setCell_other _ ⟨gb, 5, none⟩ g _ (fun e => hgg e.symm), heap_setCell_other _ ⟨gb, 3, none⟩ g _ (fun e => hgg e.symm), heap_setCell_other _ ⟨gb, 4, none⟩ g _ (fun e => hgg e.symm), heap_setCell_other _ ⟨gb, 2, none⟩ g _ (fun e => hgg e.symm)]
      exact hK5))
  have X6 : Hid (w4.drew.cell? ⟨G9, 1, none⟩ = some (.int .i64 (B.gn + 1)) ∧ w4.drew.cell? ⟨G9, 2, none⟩ = some (.int .i64 (m : Int)) ∧ w4.drew.cell? ⟨G9, 3, none⟩ = some (.int .i64 B.ih) ∧ w4.drew.cell? ⟨gb, 2, none⟩ = some (.int .i64 B.mrk) ∧ w4.drew.cell? ⟨gb, 3, none⟩ = some (.int .i64 B.gn) ∧ w4.drew.cell? ⟨gb, 4, none⟩ = some (.int .i64 B.hd) ∧ w4.drew.cell? ⟨gb, 5, none⟩ = some (.int .i64 (m : Int)) ∧ w4.drew.cell? ⟨gb, 6, none⟩ = some (.int .i64 B.ih)) := hid (by
    obtain ⟨b2, b3, b4, b5, b6, _⟩ := HBA4.out.cell
    refine ⟨?_, ?_, ?_, ?_, ?_, ?_, ?_, ?_⟩
    · show w4.cell? _ = _; rw [cell_sup1 R9.out]; try first | rfl | rw [EE.out.1]
    · show w4.cell? _ = _; rw [cell_sup2 R9.out, HM.out]
    · show w4.cell? _ = _; rw [cell_sup3 R9.out]; try first | rfl | rw [EE.out.2.2]
    · show w4.cell? _ = _; rw [b2]; try first | rfl | rw [← EE.out.2.1, HM.out]
    · show w4.cell? _ = _; rw [b3]; try first | rfl | rw [← EE.out.1]
    · show w4.cell? _ = _; rw [b4]; try first | rfl | rw [← EE.out.2.2]
    · show w4.cell? _ = _; rw [b5]; try first | rfl | rw [← EE.out.2.1, HM.out]
    · show w4.cell? _ = _; rw [b6])
  clear r9 b4 hb24 HHOF HLV HFR1 HBA1 HFR2 HD2 HK2 HSU HB3 hw4 HGR1 HAP1 HBA2 HAP HBB HD HD1
  go_wp2
  refine wp_region_noPanic ?_
  refine wp_region_held_drew (S := fun w' => w'.cell? ⟨G9, 1, none⟩ = some (.int .i64 (B.gn + 1)) ∧ w'.cell? ⟨G9, 2, none⟩ = some (.int .i64 (m : Int)) ∧ w'.cell? ⟨G9, 3, none⟩ = some (.int .i64 B.ih) ∧ w'.cell? ⟨gb, 2, none⟩ = some (.int .i64 B.mrk) ∧ w'.cell? ⟨gb, 3, none⟩ = some (.int .i64 B.gn) ∧ w'.cell? ⟨gb, 4, none⟩ = some (.int .i64 B.hd) ∧ w'.cell? ⟨gb, 5, none⟩ = some (.int .i64 (m : Int)) ∧ w'.cell? ⟨gb, 6, none⟩ = some (.int .i64 B.ih)) (by kernel_rfl) X6.out (fun hHeld => ?_)
  refine wpAnyH_take (i := 0) (oi := { dst := some 28, op := Op.fieldAddr 37 (Operand.tmp 9) 1, type := 0, pos := "outright.go:133", after := #[], guard := none }) (v := .pointer (some ⟨G9, 1, none⟩)) rfl (by kernel_rfl) (by kernel_rfl) (by kernel_rfl) (fun _ _ _ h => h) (Or.inl ⟨by rfl, by intro w hS; go_simp⟩) hHeld ?_
  try simp only [Act.put, List.setIfInBounds_toArray, List.set_cons_zero, List.set_cons_succ]
  refine wpAnyH_take (i := 2) (oi := { dst := some 30, op := Op.move (Operand.tmp 0), type := 44, pos := "outright.go:133", after := #[], guard := none }) (v := .pointer (some ⟨gb, 0, none⟩)) rfl (by kernel_rfl) (by kernel_rfl) (by kernel_rfl) (fun _ _ _ h => h) (Or.inl ⟨by rfl, by intro w hS; go_simp⟩) hHeld ?_
  try simp only [Act.put, List.setIfInBounds_toArray, List.set_cons_zero, List.set_cons_succ]
  refine wpAnyH_take (i := 1) (oi := { dst := some 29, op := Op.load 3 (Operand.tmp 28), type := 3, pos := "outright.go:133", after := #[{ on := 0, ground := Ground.data }], guard := none }) (v := .int .i64 (B.gn + 1)) rfl (by kernel_rfl) (by kernel_rfl) (by kernel_rfl) (fun _ _ _ h => h) (Or.inl ⟨by rfl, by intro w hS; have hc := hS.1; go_simp⟩) hHeld ?_
  try simp only [Act.put, List.setIfInBounds_toArray, List.set_cons_zero, List.set_cons_succ]
  refine wpAnyH_take (i := 3) (oi := { dst := some 31, op := Op.nilCheck (Operand.tmp 30), type := 0, pos := "outright.go:133", after := #[{ on := 2, ground := Ground.data }], guard := none }) (v := .pointer (some ⟨gb, 0, none⟩)) rfl (by kernel_rfl) (by kernel_rfl) (by kernel_rfl) (fun _ _ _ h => h) (Or.inl ⟨by rfl, by intro w hS; go_simp⟩) hHeld ?_
  try simp only [Act.put, List.setIfInBounds_toArray, List.set_cons_zero, List.set_cons_succ]
  refine wpAnyH_take (i := 4) (oi := { dst := some 32, op := Op.fieldAddr 48 (Operand.tmp 31) 3, type := 0, pos := "outright.go:133", after := #[{ on := 3, ground := Ground.data }], guard := none }) (v := .pointer (some ⟨gb, 3, none⟩)) rfl (by kernel_rfl) (by kernel_rfl) (by kernel_rfl) (fun _ _ _ h => h) (Or.inl ⟨by rfl, by intro w hS; go_simp⟩) hHeld ?_
  try simp only [Act.put, List.setIfInBounds_toArray, List.set_cons_zero, List.set_cons_succ]
  refine wpAnyH_take (i := 5) (oi := { dst := some 33, op := Op.load 3 (Operand.tmp 32), type := 3, pos := "outright.go:133", after := #[{ on := 4, ground := Ground.data }], guard := none }) (v := .int .i64 B.gn) rfl (by kernel_rfl) (by kernel_rfl) (by kernel_rfl) (fun _ _ _ h => h) (Or.inl ⟨by rfl, by intro w hS; have hc := hS.2.2.2.2.1; go_simp⟩) hHeld ?_
  try simp only [Act.put, List.setIfInBounds_toArray, List.set_cons_zero, List.set_cons_succ]
  refine wpAnyH_take (i := 6) (oi := { dst := some 34, op := Op.binOp BinOp.eql 3 (Operand.tmp 29) (Operand.tmp 33) 3, type := 4, pos := "outright.go:133", after := #[{ on := 1, ground := Ground.data }, { on := 5, ground := Ground.data }], guard := none }) (v := .bool false) rfl (by kernel_rfl) (by kernel_rfl) (by kernel_rfl) (fun _ _ _ h => h) (Or.inl ⟨by rfl, by intro w hS; (have he := E6.out; go_simp)⟩) hHeld ?_
  try simp only [Act.put, List.setIfInBounds_toArray, List.set_cons_zero, List.set_cons_succ]
  refine wpAnyH_take (i := 7) (oi := { dst := some 35, op := Op.move (Operand.tmp 34), type := 4, pos := "outright.go:133", after := #[{ on := 6, ground := Ground.data }], guard := none }) (v := .bool false) rfl (by kernel_rfl) (by kernel_rfl) (by kernel_rfl) (fun _ _ _ h => h) (Or.inl ⟨by rfl, by intro w hS; go_simp⟩) hHeld ?_
  try simp only [Act.put, List.setIfInBounds_toArray, List.set_cons_zero, List.set_cons_succ]
  refine wpAnyH_take (i := 8) (oi := { dst := some 36, op := Op.fieldAddr 37 (Operand.tmp 9) 2, type := 0, pos := "outright.go:133", after := #[{ on := 7, ground := Ground.guard }], guard := some (7, true) }) (v := undef) rfl (by kernel_rfl) (by kernel_rfl) (by kernel_rfl) (fun _ _ _ h => h) (Or.inr ⟨by rfl, rfl⟩) hHeld ?_
  try simp only [Act.put, List.setIfInBounds_toArray, List.set_cons_zero, List.set_cons_succ]
  refine wpAnyH_take (i := 10) (oi := { dst := some 38, op := Op.move (Operand.tmp 0), type := 44, pos := "outright.go:133", after := #[{ on := 7, ground := Ground.guard }], guard := some (7, true) }) (v := undef) rfl (by kernel_rfl) (by kernel_rfl) (by kernel_rfl) (fun _ _ _ h => h) (Or.inr ⟨by rfl, rfl⟩) hHeld ?_
  try simp only [Act.put, List.setIfInBounds_toArray, List.set_cons_zero, List.set_cons_succ]
  refine wpAnyH_take (i := 9) (oi := { dst := some 37, op := Op.load 3 (Operand.tmp 36), type := 3, pos := "outright.go:133", after := #[{ on := 8, ground := Ground.data }, { on := 7, ground := Ground.guard }], guard := some (7, true) }) (v := undef) rfl (by kernel_rfl) (by kernel_rfl) (by kernel_rfl) (fun _ _ _ h => h) (Or.inr ⟨by rfl, rfl⟩) hHeld ?_
  try simp only [Act.put, List.setIfInBounds_toArray, List.set_cons_zero, List.set_cons_succ]
  refine wpAnyH_take (i := 11) (oi := { dst := some 39, op := Op.nilCheck (Operand.tmp 38), type := 0, pos := "outright.go:133", after := #[{ on := 10, ground := Ground.data }, { on := 7, ground := Ground.guard }], guard := some (7, true) }) (v := undef) rfl (by kernel_rfl) (by kernel_rfl) (by kernel_rfl) (fun _ _ _ h => h) (Or.inr ⟨by rfl, rfl⟩) hHeld ?_
  try simp only [Act.put, List.setIfInBounds_toArray, List.set_cons_zero, List.set_cons_succ]
  refine wpAnyH_take (i := 12) (oi := { dst := some 40, op := Op.fieldAddr 48 (Operand.tmp 39) 2, type := 0, pos := "outright.go:133", after := #[{ on := 11, ground := Ground.data }, { on := 7, ground := Ground.guard }], guard := some (7, true) }) (v := undef) rfl (by kernel_rfl) (by kernel_rfl) (by kernel_rfl) (fun _ _ _ h => h) (Or.inr ⟨by rfl, rfl⟩) hHeld ?_
  try simp only [Act.put, List.setIfInBounds_toArray, List.set_cons_zero, List.set_cons_succ]
  refine wpAnyH_take (i := 13) (oi := { dst := some 41, op := Op.load 3 (Operand.tmp 40), type := 3, pos := "outright.go:133", after := #[{ on := 12, ground := Ground.data }, { on := 7, ground := Ground.guard }], guard := some (7, true) }) (v := undef) rfl (by kernel_rfl) (by kernel_rfl) (by kernel_rfl) (fun _ _ _ h => h) (Or.inr ⟨by rfl, rfl⟩) hHeld ?_
  try simp only [Act.put, List.setIfInBounds_toArray, List.set_cons_zero, List.set_cons_succ]
  refine wpAnyH_take (i := 14) (oi := { dst := some 42, op := Op.binOp BinOp.eql 3 (Operand.tmp 37) (Operand.tmp 41) 3, type := 4, pos := "outright.go:133", after := #[{ on := 9, ground := Ground.data }, { on := 13, ground := Ground.data }, { on := 7, ground := Ground.guard }], guard := some (7, true) }) (v := undef) rfl (by kernel_rfl) (by kernel_rfl) (by kernel_rfl) (fun _ _ _ h => h) (Or.inr ⟨by rfl, rfl⟩) hHeld ?_
  try simp only [Act.put, List.setIfInBounds_toArray, List.set_cons_zero, List.set_cons_succ]
  refine wpAnyH_take (i := 15) (oi := { dst := some 43, op := Op.pick (Operand.tmp 35) (Operand.tmp 42) (Operand.const (Value.bool false)), type := 4, pos := "outright.go:133", after := #[{ on := 7, ground := Ground.data }, { on := 14, ground := Ground.data }], guard := none }) (v := .bool false) rfl (by kernel_rfl) (by kernel_rfl) (by kernel_rfl) (fun _ _ _ h => h) (Or.inl ⟨by rfl, by intro w hS; go_simp⟩) hHeld ?_
  try simp only [Act.put, List.setIfInBounds_toArray, List.set_cons_zero, List.set_cons_succ]
  refine wpAnyH_take (i := 16) (oi := { dst := some 44, op := Op.move (Operand.tmp 43), type := 4, pos := "outright.go:133", after := #[{ on := 15, ground := Ground.data }, { on := 7, ground := Ground.chain }], guard := none }) (v := .bool false) rfl (by kernel_rfl) (by kernel_rfl) (by kernel_rfl) (fun _ _ _ h => h) (Or.inl ⟨by rfl, by intro w hS; go_simp⟩) hHeld ?_
  try simp only [Act.put, List.setIfInBounds_toArray, List.set_cons_zero, List.set_cons_succ]
  refine wpAnyH_take (i := 17) (oi := { dst := some 45, op := Op.fieldAddr 37 (Operand.tmp 9) 3, type := 0, pos := "outright.go:133", after := #[{ on := 16, ground := Ground.guard }], guard := some (16, true) }) (v := undef) rfl (by kernel_rfl) (by kernel_rfl) (by kernel_rfl) (fun _ _ _ h => h) (Or.inr ⟨by rfl, rfl⟩) hHeld ?_
  try simp only [Act.put, List.setIfInBounds_toArray, List.set_cons_zero, List.set_cons_succ]
  refine wpAnyH_take (i := 19) (oi := { dst := some 47, op := Op.move (Operand.tmp 0), type := 44, pos := "outright.go:133", after := #[{ on := 16, ground := Ground.guard }], guard := some (16, true) }) (v := undef) rfl (by kernel_rfl) (by kernel_rfl) (by kernel_rfl) (fun _ _ _ h => h) (Or.inr ⟨by rfl, rfl⟩) hHeld ?_
  try simp only [Act.put, List.setIfInBounds_toArray, List.set_cons_zero, List.set_cons_succ]
  refine wpAnyH_take (i := 18) (oi := { dst := some 46, op := Op.load 3 (Operand.tmp 45), type := 3, pos := "outright.go:133", after := #[{ on := 17, ground := Ground.data }, { on := 16, ground := Ground.guard }], guard := some (16, true) }) (v := undef) rfl (by kernel_rfl) (by kernel_rfl) (by kernel_rfl) (fun _ _ _ h => h) (Or.inr ⟨by rfl, rfl⟩) hHeld ?_
  try simp only [Act.put, List.setIfInBounds_toArray, List.set_cons_zero, List.set_cons_succ]
  refine wpAnyH_take (i := 20) (oi := { dst := some 48, op := Op.nilCheck (Operand.tmp 47), type := 0, pos := "outright.go:133", after := #[{ on := 19, ground := Ground.data }, { on := 16, ground := Ground.guard }], guard := some (16, true) }) (v := undef) rfl (by kernel_rfl) (by kernel_rfl) (by kernel_rfl) (fun _ _ _ h => h) (Or.inr ⟨by rfl, rfl⟩) hHeld ?_
  try simp only [Act.put, List.setIfInBounds_toArray, List.set_cons_zero, List.set_cons_succ]
  refine wpAnyH_take (i := 21) (oi := { dst := some 49, op := Op.fieldAddr 48 (Operand.tmp 48) 4, type := 0, pos := "outright.go:133", after := #[{ on := 20, ground := Ground.data }, { on := 16, ground := Ground.guard }], guard := some (16, true) }) (v := undef) rfl (by kernel_rfl) (by kernel_rfl) (by kernel_rfl) (fun _ _ _ h => h) (Or.inr ⟨by rfl, rfl⟩) hHeld ?_
  try simp only [Act.put, List.setIfInBounds_toArray, List.set_cons_zero, List.set_cons_succ]
  refine wpAnyH_take (i := 22) (oi := { dst := some 50, op := Op.load 3 (Operand.tmp 49), type := 3, pos := "outright.go:133", after := #[{ on := 21, ground := Ground.data }, { on := 16, ground := Ground.guard }], guard := some (16, true) }) (v := undef) rfl (by kernel_rfl) (by kernel_rfl) (by kernel_rfl) (fun _ _ _ h => h) (Or.inr ⟨by rfl, rfl⟩) hHeld ?_
  try simp only [Act.put, List.setIfInBounds_toArray, List.set_cons_zero, List.set_cons_succ]
  refine wpAnyH_take (i := 23) (oi := { dst := some 51, op := Op.binOp BinOp.eql 3 (Operand.tmp 46) (Operand.tmp 50) 3, type := 4, pos := "outright.go:133", after := #[{ on := 18, ground := Ground.data }, { on := 22, ground := Ground.data }, { on := 16, ground := Ground.guard }], guard := some (16, true) }) (v := undef) rfl (by kernel_rfl) (by kernel_rfl) (by kernel_rfl) (fun _ _ _ h => h) (Or.inr ⟨by rfl, rfl⟩) hHeld ?_
  try simp only [Act.put, List.setIfInBounds_toArray, List.set_cons_zero, List.set_cons_succ]
  refine wpAnyH_take (i := 24) (oi := { dst := some 52, op := Op.pick (Operand.tmp 44) (Operand.tmp 51) (Operand.const (Value.bool false)), type := 4, pos := "outright.go:133", after := #[{ on := 16, ground := Ground.data }, { on := 23, ground := Ground.data }], guard := none }) (v := .bool false) rfl (by kernel_rfl) (by kernel_rfl) (by kernel_rfl) (fun _ _ _ h => h) (Or.inl ⟨by rfl, by intro w hS; go_simp⟩) hHeld ?_
  try simp only [Act.put, List.setIfInBounds_toArray, List.set_cons_zero, List.set_cons_succ]
  refine wpAnyH_take (i := 25) (oi := { dst := some 10, op := Op.assign (Operand.tmp 52), type := 4, pos := "outright.go:133", after := #[{ on := 24, ground := Ground.data }, { on := 16, ground := Ground.chain }, { on := 0, ground := Ground.phase }, { on := 1, ground := Ground.phase }, { on := 2, ground := Ground.phase }, { on := 3, ground := Ground.phase }, { on := 4, ground := Ground.phase }, { on := 5, ground := Ground.phase }, { on := 6, ground := Ground.phase }, { on := 7, ground := Ground.phase }, { on := 8, ground := Ground.phase }, { on := 9, ground := Ground.phase }, { on := 10, ground := Ground.phase }, { on := 11, ground := Ground.phase }, { on := 12, ground := Ground.phase }, { on := 13, ground := Ground.phase }, { on := 14, ground := Ground.phase }, { on := 15, ground := Ground.phase }, { on := 16, ground := Ground.phase }, { on := 17, ground := Ground.phase }, { on := 18, ground := Ground.phase }, { on := 19, ground := Ground.phase }, { on := 20, ground := Ground.phase }, { on := 21, ground := Ground.phase }, { on := 22, ground := Ground.phase }, { on := 23, ground := Ground.phase }, { on := 24, ground := Ground.phase }], guard := none }) (v := .bool false) rfl (by kernel_rfl) (by kernel_rfl) (by kernel_rfl) (fun _ _ _ h => h) (Or.inl ⟨by rfl, by intro w hS; go_simp⟩) hHeld ?_
  try simp only [Act.put, List.setIfInBounds_toArray, List.set_cons_zero, List.set_cons_succ]
  refine wpAnyH_done (by kernel_rfl) ?_ _
  refine NoPanic.normal ?_
  go_wp2
  have X7 := hid hHeld
  clear hHeld X6
  refine wp_region_noPanic ?_
  refine wp_region_held_drew (S := fun w' => w'.cell? ⟨G9, 1, none⟩ = some (.int .i64 (B.gn + 1)) ∧ w'.cell? ⟨G9, 2, none⟩ = some (.int .i64 (m : Int)) ∧ w'.cell? ⟨G9, 3, none⟩ = some (.int .i64 B.ih) ∧ w'.cell? ⟨gb, 2, none⟩ = some (.int .i64 B.mrk) ∧ w'.cell? ⟨gb, 3, none⟩ = some (.int .i64 B.gn) ∧ w'.cell? ⟨gb, 4, none⟩ = some (.int .i64 B.hd) ∧ w'.cell? ⟨gb, 5, none⟩ = some (.int .i64 (m : Int)) ∧ w'.cell? ⟨gb, 6, none⟩ = some (.int .i64 B.ih)) (by kernel_rfl) X7.out (fun hHeld => ?_)
  refine wpAnyH_take (i := 0) (oi := { dst := some 53, op := Op.move (Operand.tmp 0), type := 44, pos := "outright.go:134", after := #[], guard := none }) (v := .pointer (some ⟨gb, 0, none⟩)) rfl (by kernel_rfl) (by kernel_rfl) (by kernel_rfl) (fun _ _ _ h => h) (Or.inl ⟨by rfl, by intro w hS; go_simp⟩) hHeld ?_
  try simp only [Act.put, List.setIfInBounds_toArray, List.set_cons_zero, List.set_cons_succ]
  refine wpAnyH_take (i := 1) (oi := { dst := some 54, op := Op.nilCheck (Operand.tmp 53), type := 0, pos := "outright.go:134", after := #[{ on := 0, ground := Ground.data }], guard := none }) (v := .pointer (some ⟨gb, 0, none⟩)) rfl (by kernel_rfl) (by kernel_rfl) (by kernel_rfl) (fun _ _ _ h => h) (Or.inl ⟨by rfl, by intro w hS; go_simp⟩) hHeld ?_
  try simp only [Act.put, List.setIfInBounds_toArray, List.set_cons_zero, List.set_cons_succ]
  refine wpAnyH_take (i := 2) (oi := { dst := some 55, op := Op.fieldAddr 48 (Operand.tmp 54) 5, type := 0, pos := "outright.go:134", after := #[{ on := 1, ground := Ground.data }], guard := none }) (v := .pointer (some ⟨gb, 5, none⟩)) rfl (by kernel_rfl) (by kernel_rfl) (by kernel_rfl) (fun _ _ _ h => h) (Or.inl ⟨by rfl, by intro w hS; go_simp⟩) hHeld ?_
  try simp only [Act.put, List.setIfInBounds_toArray, List.set_cons_zero, List.set_cons_succ]
  refine wpAnyH_take (i := 3) (oi := { dst := some 56, op := Op.load 3 (Operand.tmp 55), type := 3, pos := "outright.go:134", after := #[{ on := 2, ground := Ground.data }], guard := none }) (v := .int .i64 (m : Int)) rfl (by kernel_rfl) (by kernel_rfl) (by kernel_rfl) (fun _ _ _ h => h) (Or.inl ⟨by rfl, by intro w hS; have hc := hS.2.2.2.2.2.2.1; go_simp⟩) hHeld ?_
  try simp only [Act.put, List.setIfInBounds_toArray, List.set_cons_zero, List.set_cons_succ]
  refine wpAnyH_take (i := 4) (oi := { dst := some 57, op := Op.binOp BinOp.gtr 3 (Operand.tmp 56) (Operand.const (Value.int IntKind.i64 0)) 3, type := 4, pos := "outright.go:134", after := #[{ on := 3, ground := Ground.data }], guard := none }) (v := .bool true) rfl (by kernel_rfl) (by kernel_rfl) (by kernel_rfl) (fun _ _ _ h => h) (Or.inl ⟨by rfl, by intro w hS; (have he := E74.out; go_simp)⟩) hHeld ?_
  try simp only [Act.put, List.setIfInBounds_toArray, List.set_cons_zero, List.set_cons_succ]
  refine wpAnyH_take (i := 5) (oi := { dst := some 58, op := Op.move (Operand.tmp 57), type := 4, pos := "outright.go:134", after := #[{ on := 4, ground := Ground.data }], guard := none }) (v := .bool true) rfl (by kernel_rfl) (by kernel_rfl) (by kernel_rfl) (fun _ _ _ h => h) (Or.inl ⟨by rfl, by intro w hS; go_simp⟩) hHeld ?_
  try simp only [Act.put, List.setIfInBounds_toArray, List.set_cons_zero, List.set_cons_succ]
  refine wpAnyH_take (i := 6) (oi := { dst := some 59, op := Op.fieldAddr 37 (Operand.tmp 9) 1, type := 0, pos := "outright.go:134", after := #[{ on := 5, ground := Ground.guard }], guard := some (5, true) }) (v := .pointer (some ⟨G9, 1, none⟩)) rfl (by kernel_rfl) (by kernel_rfl) (by kernel_rfl) (fun _ _ _ h => h) (Or.inl ⟨by rfl, by intro w hS; go_simp⟩) hHeld ?_
  try simp only [Act.put, List.setIfInBounds_toArray, List.set_cons_zero, List.set_cons_succ]
  refine wpAnyH_take (i := 8) (oi := { dst := some 61, op := Op.move (Operand.tmp 0), type := 44, pos := "outright.go:134", after := #[{ on := 5, ground := Ground.guard }], guard := some (5, true) }) (v := .pointer (some ⟨gb, 0, none⟩)) rfl (by kernel_rfl) (by kernel_rfl) (by kernel_rfl) (fun _ _ _ h => h) (Or.inl ⟨by rfl, by intro w hS; go_simp⟩) hHeld ?_
  try simp only [Act.put, List.setIfInBounds_toArray, List.set_cons_zero, List.set_cons_succ]
  refine wpAnyH_take (i := 7) (oi := { dst := some 60, op := Op.load 3 (Operand.tmp 59), type := 3, pos := "outright.go:134", after := #[{ on := 6, ground := Ground.data }, { on := 5, ground := Ground.guard }], guard := some (5, true) }) (v := .int .i64 (B.gn + 1)) rfl (by kernel_rfl) (by kernel_rfl) (by kernel_rfl) (fun _ _ _ h => h) (Or.inl ⟨by rfl, by intro w hS; have hc := hS.1; go_simp⟩) hHeld ?_
  try simp only [Act.put, List.setIfInBounds_toArray, List.set_cons_zero, List.set_cons_succ]
  refine wpAnyH_take (i := 9) (oi := { dst := some 62, op := Op.nilCheck (Operand.tmp 61), type := 0, pos := "outright.go:134", after := #[{ on := 8, ground := Ground.data }, { on := 5, ground := Ground.guard }], guard := some (5, true) }) (v := .pointer (some ⟨gb, 0, none⟩)) rfl (by kernel_rfl) (by kernel_rfl) (by kernel_rfl) (fun _ _ _ h => h) (Or.inl ⟨by rfl, by intro w hS; go_simp⟩) hHeld ?_
  try simp only [Act.put, List.setIfInBounds_toArray, List.set_cons_zero, List.set_cons_succ]
  refine wpAnyH_take (i := 10) (oi := { dst := some 63, op := Op.fieldAddr 48 (Operand.tmp 62) 3, type := 0, pos := "outright.go:134", after := #[{ on := 9, ground := Ground.data }, { on := 5, ground := Ground.guard }], guard := some (5, true) }) (v := .pointer (some ⟨gb, 3, none⟩)) rfl (by kernel_rfl) (by kernel_rfl) (by kernel_rfl) (fun _ _ _ h => h) (Or.inl ⟨by rfl, by intro w hS; go_simp⟩) hHeld ?_
  try simp only [Act.put, List.setIfInBounds_toArray, List.set_cons_zero, List.set_cons_succ]
  refine wpAnyH_take (i := 11) (oi := { dst := some 64, op := Op.load 3 (Operand.tmp 63), type := 3, pos := "outright.go:134", after := #[{ on := 10, ground := Ground.data }, { on := 5, ground := Ground.guard }], guard := some (5, true) }) (v := .int .i64 B.gn) rfl (by kernel_rfl) (by kernel_rfl) (by kernel_rfl) (fun _ _ _ h => h) (Or.inl ⟨by rfl, by intro w hS; have hc := hS.2.2.2.2.1; go_simp⟩) hHeld ?_
  try simp only [Act.put, List.setIfInBounds_toArray, List.set_cons_zero, List.set_cons_succ]
  refine wpAnyH_take (i := 12) (oi := { dst := some 65, op := Op.binOp BinOp.add 3 (Operand.tmp 64) (Operand.const (Value.int IntKind.i64 1)) 3, type := 3, pos := "outright.go:134", after := #[{ on := 11, ground := Ground.data }, { on := 5, ground := Ground.guard }], guard := some (5, true) }) (v := .int .i64 (B.gn + 1)) rfl (by kernel_rfl) (by kernel_rfl) (by kernel_rfl) (fun _ _ _ h => h) (Or.inl ⟨by rfl, by intro w hS; (have hg1 := EG.out; go_simp)⟩) hHeld ?_
  try simp only [Act.put, List.setIfInBounds_toArray, List.set_cons_zero, List.set_cons_succ]
  refine wpAnyH_take (i := 13) (oi := { dst := some 66, op := Op.binOp BinOp.eql 3 (Operand.tmp 60) (Operand.tmp 65) 3, type := 4, pos := "outright.go:134", after := #[{ on := 7, ground := Ground.data }, { on := 12, ground := Ground.data }, { on := 5, ground := Ground.guard }], guard := some (5, true) }) (v := .bool true) rfl (by kernel_rfl) (by kernel_rfl) (by kernel_rfl) (fun _ _ _ h => h) (Or.inl ⟨by rfl, by intro w hS; (have he := E713.out; go_simp)⟩) hHeld ?_
  try simp only [Act.put, List.setIfInBounds_toArray, List.set_cons_zero, List.set_cons_succ]
  refine wpAnyH_take (i := 14) (oi := { dst := some 67, op := Op.pick (Operand.tmp 58) (Operand.tmp 66) (Operand.const (Value.bool false)), type := 4, pos := "outright.go:134", after := #[{ on := 5, ground := Ground.data }, { on := 13, ground := Ground.data }], guard := none }) (v := .bool true) rfl (by kernel_rfl) (by kernel_rfl) (by kernel_rfl) (fun _ _ _ h => h) (Or.inl ⟨by rfl, by intro w hS; go_simp⟩) hHeld ?_
  try simp only [Act.put, List.setIfInBounds_toArray, List.set_cons_zero, List.set_cons_succ]
  refine wpAnyH_take (i := 15) (oi := { dst := some 68, op := Op.move (Operand.tmp 67), type := 4, pos := "outright.go:134", after := #[{ on := 14, ground := Ground.data }, { on := 5, ground := Ground.chain }], guard := none }) (v := .bool true) rfl (by kernel_rfl) (by kernel_rfl) (by kernel_rfl) (fun _ _ _ h => h) (Or.inl ⟨by rfl, by intro w hS; go_simp⟩) hHeld ?_
  try simp only [Act.put, List.setIfInBounds_toArray, List.set_cons_zero, List.set_cons_succ]
  refine wpAnyH_take (i := 16) (oi := { dst := some 69, op := Op.fieldAddr 37 (Operand.tmp 9) 2, type := 0, pos := "outright.go:134", after := #[{ on := 15, ground := Ground.guard }], guard := some (15, true) }) (v := .pointer (some ⟨G9, 2, none⟩)) rfl (by kernel_rfl) (by kernel_rfl) (by kernel_rfl) (fun _ _ _ h => h) (Or.inl ⟨by rfl, by intro w hS; go_simp⟩) hHeld ?_
  try simp only [Act.put, List.setIfInBounds_toArray, List.set_cons_zero, List.set_cons_succ]
  refine wpAnyH_take (i := 18) (oi := { dst := some 71, op := Op.move (Operand.tmp 0), type := 44, pos := "outright.go:134", after := #[{ on := 15, ground := Ground.guard }], guard := some (15, true) }) (v := .pointer (some ⟨gb, 0, none⟩)) rfl (by kernel_rfl) (by kernel_rfl) (by kernel_rfl) (fun _ _ _ h => h) (Or.inl ⟨by rfl, by intro w hS; go_simp⟩) hHeld ?_
  try simp only [Act.put, List.setIfInBounds_toArray, List.set_cons_zero, List.set_cons_succ]
  refine wpAnyH_take (i := 17) (oi := { dst := some 70, op := Op.load 3 (Operand.tmp 69), type := 3, pos := "outright.go:134", after := #[{ on := 16, ground := Ground.data }, { on := 15, ground := Ground.guard }], guard := some (15, true) }) (v := .int .i64 (m : Int)) rfl (by kernel_rfl) (by kernel_rfl) (by kernel_rfl) (fun _ _ _ h => h) (Or.inl ⟨by rfl, by intro w hS; have hc := hS.2.1; go_simp⟩) hHeld ?_
  try simp only [Act.put, List.setIfInBounds_toArray, List.set_cons_zero, List.set_cons_succ]
  refine wpAnyH_take (i := 19) (oi := { dst := some 72, op := Op.nilCheck (Operand.tmp 71), type := 0, pos := "outright.go:134", after := #[{ on := 18, ground := Ground.data }, { on := 15, ground := Ground.guard }], guard := some (15, true) }) (v := .pointer (some ⟨gb, 0, none⟩)) rfl (by kernel_rfl) (by kernel_rfl) (by kernel_rfl) (fun _ _ _ h => h) (Or.inl ⟨by rfl, by intro w hS; go_simp⟩) hHeld ?_
  try simp only [Act.put, List.setIfInBounds_toArray, List.set_cons_zero, List.set_cons_succ]
  refine wpAnyH_take (i := 20) (oi := { dst := some 73, op := Op.fieldAddr 48 (Operand.tmp 72) 5, type := 0, pos := "outright.go:134", after := #[{ on := 19, ground := Ground.data }, { on := 15, ground := Ground.guard }], guard := some (15, true) }) (v := .pointer (some ⟨gb, 5, none⟩)) rfl (by kernel_rfl) (by kernel_rfl) (by kernel_rfl) (fun _ _ _ h => h) (Or.inl ⟨by rfl, by intro w hS; go_simp⟩) hHeld ?_
  try simp only [Act.put, List.setIfInBounds_toArray, List.set_cons_zero, List.set_cons_succ]
  refine wpAnyH_take (i := 21) (oi := { dst := some 74, op := Op.load 3 (Operand.tmp 73), type := 3, pos := "outright.go:134", after := #[{ on := 20, ground := Ground.data }, { on := 15, ground := Ground.guard }], guard := some (15, true) }) (v := .int .i64 (m : Int)) rfl (by kernel_rfl) (by kernel_rfl) (by kernel_rfl) (fun _ _ _ h => h) (Or.inl ⟨by rfl, by intro w hS; have hc := hS.2.2.2.2.2.2.1; go_simp⟩) hHeld ?_
  try simp only [Act.put, List.setIfInBounds_toArray, List.set_cons_zero, List.set_cons_succ]
  refine wpAnyH_take (i := 22) (oi := { dst := some 75, op := Op.binOp BinOp.eql 3 (Operand.tmp 70) (Operand.tmp 74) 3, type := 4, pos := "outright.go:134", after := #[{ on := 17, ground := Ground.data }, { on := 21, ground := Ground.data }, { on := 15, ground := Ground.guard }], guard := some (15, true) }) (v := .bool true) rfl (by kernel_rfl) (by kernel_rfl) (by kernel_rfl) (fun _ _ _ h => h) (Or.inl ⟨by rfl, by intro w hS; go_simp⟩) hHeld ?_
  try simp only [Act.put, List.setIfInBounds_toArray, List.set_cons_zero, List.set_cons_succ]
  refine wpAnyH_take (i := 23) (oi := { dst := some 76, op := Op.pick (Operand.tmp 68) (Operand.tmp 75) (Operand.const (Value.bool false)), type := 4, pos := "outright.go:134", after := #[{ on := 15, ground := Ground.data }, { on := 22, ground := Ground.data }], guard := none }) (v := .bool true) rfl (by kernel_rfl) (by kernel_rfl) (by kernel_rfl) (fun _ _ _ h => h) (Or.inl ⟨by rfl, by intro w hS; go_simp⟩) hHeld ?_
  try simp only [Act.put, List.setIfInBounds_toArray, List.set_cons_zero, List.set_cons_succ]
  refine wpAnyH_take (i := 24) (oi := { dst := some 77, op := Op.move (Operand.tmp 76), type := 4, pos := "outright.go:134", after := #[{ on := 23, ground := Ground.data }, { on := 15, ground := Ground.chain }], guard := none }) (v := .bool true) rfl (by kernel_rfl) (by kernel_rfl) (by kernel_rfl) (fun _ _ _ h => h) (Or.inl ⟨by rfl, by intro w hS; go_simp⟩) hHeld ?_
  try simp only [Act.put, List.setIfInBounds_toArray, List.set_cons_zero, List.set_cons_succ]
  refine wpAnyH_take (i := 25) (oi := { dst := some 78, op := Op.fieldAddr 37 (Operand.tmp 9) 3, type := 0, pos := "outright.go:134", after := #[{ on := 24, ground := Ground.guard }], guard := some (24, true) }) (v := .pointer (some ⟨G9, 3, none⟩)) rfl (by kernel_rfl) (by kernel_rfl) (by kernel_rfl) (fun _ _ _ h => h) (Or.inl ⟨by rfl, by intro w hS; go_simp⟩) hHeld ?_
  try simp only [Act.put, List.setIfInBounds_toArray, List.set_cons_zero, List.set_cons_succ]
  refine wpAnyH_take (i := 27) (oi := { dst := some 80, op := Op.move (Operand.tmp 0), type := 44, pos := "outright.go:134", after := #[{ on := 24, ground := Ground.guard }], guard := some (24, true) }) (v := .pointer (some ⟨gb, 0, none⟩)) rfl (by kernel_rfl) (by kernel_rfl) (by kernel_rfl) (fun _ _ _ h => h) (Or.inl ⟨by rfl, by intro w hS; go_simp⟩) hHeld ?_
  try simp only [Act.put, List.setIfInBounds_toArray, List.set_cons_zero, List.set_cons_succ]
  refine wpAnyH_take (i := 26) (oi := { dst := some 79, op := Op.load 3 (Operand.tmp 78), type := 3, pos := "outright.go:134", after := #[{ on := 25, ground := Ground.data }, { on := 24, ground := Ground.guard }], guard := some (24, true) }) (v := .int .i64 B.ih) rfl (by kernel_rfl) (by kernel_rfl) (by kernel_rfl) (fun _ _ _ h => h) (Or.inl ⟨by rfl, by intro w hS; have hc := hS.2.2.1; go_simp⟩) hHeld ?_
  try simp only [Act.put, List.setIfInBounds_toArray, List.set_cons_zero, List.set_cons_succ]
  refine wpAnyH_take (i := 28) (oi := { dst := some 81, op := Op.nilCheck (Operand.tmp 80), type := 0, pos := "outright.go:134", after := #[{ on := 27, ground := Ground.data }, { on := 24, ground := Ground.guard }], guard := some (24, true) }) (v := .pointer (some ⟨gb, 0, none⟩)) rfl (by kernel_rfl) (by kernel_rfl) (by kernel_rfl) (fun _ _ _ h => h) (Or.inl ⟨by rfl, by intro w hS; go_simp⟩) hHeld ?_
  try simp only [Act.put, List.setIfInBounds_toArray, List.set_cons_zero, List.set_cons_succ]
  refine wpAnyH_take (i := 29) (oi := { dst := some 82, op := Op.fieldAddr 48 (Operand.tmp 81) 6, type := 0, pos := "outright.go:134", after := #[{ on := 28, ground := Ground.data }, { on := 24, ground := Ground.guard }], guard := some (24, true) }) (v := .pointer (some ⟨gb, 6, none⟩)) rfl (by kernel_rfl) (by kernel_rfl) (by kernel_rfl) (fun _ _ _ h => h) (Or.inl ⟨by rfl, by intro w hS; go_simp⟩) hHeld ?_
  try simp only [Act.put, List.setIfInBounds_toArray, List.set_cons_zero, List.set_cons_succ]
  refine wpAnyH_take (i := 30) (oi := { dst := some 83, op := Op.load 3 (Operand.tmp 82), type := 3, pos := "outright.go:134", after := #[{ on := 29, ground := Ground.data }, { on := 24, ground := Ground.guard }], guard := some (24, true) }) (v := .int .i64 B.ih) rfl (by kernel_rfl) (by kernel_rfl) (by kernel_rfl) (fun _ _ _ h => h) (Or.inl ⟨by rfl, by intro w hS; have hc := hS.2.2.2.2.2.2.2; go_simp⟩) hHeld ?_
  try simp only [Act.put, List.setIfInBounds_toArray, List.set_cons_zero, List.set_cons_succ]
  refine wpAnyH_take (i := 31) (oi := { dst := some 84, op := Op.binOp BinOp.eql 3 (Operand.tmp 79) (Operand.tmp 83) 3, type := 4, pos := "outright.go:134", after := #[{ on := 26, ground := Ground.data }, { on := 30, ground := Ground.data }, { on := 24, ground := Ground.guard }], guard := some (24, true) }) (v := .bool true) rfl (by kernel_rfl) (by kernel_rfl) (by kernel_rfl) (fun _ _ _ h => h) (Or.inl ⟨by rfl, by intro w hS; go_simp⟩) hHeld ?_
  try simp only [Act.put, List.setIfInBounds_toArray, List.set_cons_zero, List.set_cons_succ]
  refine wpAnyH_take (i := 32) (oi := { dst := some 85, op := Op.pick (Operand.tmp 77) (Operand.tmp 84) (Operand.const (Value.bool false)), type := 4, pos := "outright.go:134", after := #[{ on := 24, ground := Ground.data }, { on := 31, ground := Ground.data }], guard := none }) (v := .bool true) rfl (by kernel_rfl) (by kernel_rfl) (by kernel_rfl) (fun _ _ _ h => h) (Or.inl ⟨by rfl, by intro w hS; go_simp⟩) hHeld ?_
  try simp only [Act.put, List.setIfInBounds_toArray, List.set_cons_zero, List.set_cons_succ]
  refine wpAnyH_take (i := 33) (oi := { dst := some 11, op := Op.assign (Operand.tmp 85), type := 4, pos := "outright.go:134", after := #[{ on := 32, ground := Ground.data }, { on := 24, ground := Ground.chain }, { on := 0, ground := Ground.phase }, { on := 1, ground := Ground.phase }, { on := 2, ground := Ground.phase }, { on := 3, ground := Ground.phase }, { on := 4, ground := Ground.phase }, { on := 5, ground := Ground.phase }, { on := 6, ground := Ground.phase }, { on := 7, ground := Ground.phase }, { on := 8, ground := Ground.phase }, { on := 9, ground := Ground.phase }, { on := 10, ground := Ground.phase }, { on := 11, ground := Ground.phase }, { on := 12, ground := Ground.phase }, { on := 13, ground := Ground.phase }, { on := 14, ground := Ground.phase }, { on := 15, ground := Ground.phase }, { on := 16, ground := Ground.phase }, { on := 17, ground := Ground.phase }, { on := 18, ground := Ground.phase }, { on := 19, ground := Ground.phase }, { on := 20, ground := Ground.phase }, { on := 21, ground := Ground.phase }, { on := 22, ground := Ground.phase }, { on := 23, ground := Ground.phase }, { on := 24, ground := Ground.phase }, { on := 25, ground := Ground.phase }, { on := 26, ground := Ground.phase }, { on := 27, ground := Ground.phase }, { on := 28, ground := Ground.phase }, { on := 29, ground := Ground.phase }, { on := 30, ground := Ground.phase }, { on := 31, ground := Ground.phase }, { on := 32, ground := Ground.phase }], guard := none }) (v := .bool true) rfl (by kernel_rfl) (by kernel_rfl) (by kernel_rfl) (fun _ _ _ h => h) (Or.inl ⟨by rfl, by intro w hS; go_simp⟩) hHeld ?_
  try simp only [Act.put, List.setIfInBounds_toArray, List.set_cons_zero, List.set_cons_succ]
  refine wpAnyH_done (by kernel_rfl) ?_ _
  refine NoPanic.normal ?_
  have X8 := hid hHeld
  clear hHeld X7
  go_wp2
  have X10 := hid (show _ from X8.out.2.1)
  refine wp_region_noPanic ?_
  refine wp_region_held_drew (S := fun w' => w'.cell? ⟨G9, 2, none⟩ = some (.int .i64 (m : Int))) (by kernel_rfl) X10.out (fun hHeld => ?_)
  refine wpAnyH_take (i := 0) (oi := { dst := some 92, op := Op.move (Operand.tmp 0), type := 44, pos := "outright.go:138", after := #[], guard := none }) (v := .pointer (some ⟨gb, 0, none⟩)) rfl (by kernel_rfl) (by kernel_rfl) (by kernel_rfl) (fun _ _ _ h => h) (Or.inl ⟨by rfl, by intro w hS; go_simp⟩) hHeld ?_
  try simp only [Act.put, List.setIfInBounds_toArray, List.set_cons_zero, List.set_cons_succ]
  refine wpAnyH_take (i := 1) (oi := { dst := some 93, op := Op.move (Operand.tmp 7), type := 33, pos := "outright.go:138", after := #[], guard := none }) (v := .pointer (some ⟨g, 0, none⟩)) rfl (by kernel_rfl) (by kernel_rfl) (by kernel_rfl) (fun _ _ _ h => h) (Or.inl ⟨by rfl, by intro w hS; go_simp⟩) hHeld ?_
  try simp only [Act.put, List.setIfInBounds_toArray, List.set_cons_zero, List.set_cons_succ]
  refine wpAnyH_take (i := 2) (oi := { dst := some 94, op := Op.fieldAddr 37 (Operand.tmp 9) 2, type := 0, pos := "outright.go:138", after := #[], guard := none }) (v := .pointer (some ⟨G9, 2, none⟩)) rfl (by kernel_rfl) (by kernel_rfl) (by kernel_rfl) (fun _ _ _ h => h) (Or.inl ⟨by rfl, by intro w hS; go_simp⟩) hHeld ?_
  try simp only [Act.put, List.setIfInBounds_toArray, List.set_cons_zero, List.set_cons_succ]
  refine wpAnyH_take (i := 3) (oi := { dst := some 95, op := Op.load 3 (Operand.tmp 94), type := 3, pos := "outright.go:138", after := #[{ on := 2, ground := Ground.data }], guard := none }) (v := .int .i64 (m : Int)) rfl (by kernel_rfl) (by kernel_rfl) (by kernel_rfl) (fun _ _ _ h => h) (Or.inl ⟨by rfl, by intro w hS; have hc := hS; go_simp⟩) hHeld ?_
  try simp only [Act.put, List.setIfInBounds_toArray, List.set_cons_zero, List.set_cons_succ]
  refine wpAnyH_ready (rs := [4]) (by kernel_rfl) (by simp) ?_
  refine (AllReadyH.cons (o := { dst := some 96, op := Op.call { callee := Callee.value (Operand.func 27), args := #[Operand.tmp 92, Operand.tmp 93, Operand.tmp 95], argTypes := #[44, 33, 3] }, type := 4, pos := "outright.go:138", after := #[{ on := 0, ground := Ground.data }, { on := 1, ground := Ground.data }, { on := 3, ground := Ground.data }], guard := none }) rfl (fun K hK => ?_) AllReadyH.nil)
  go_simp
  go_at_call 27
  refine (HHO.out).mono ?_
  rintro e w5 ⟨rfl, hD5, hF5⟩
  have HD5 := hid hD5
  have HF5 := hid hF5
  go_wp2_with fail
  refine hK.out _ _ (HX10.out w5 hF5) (fun hHeld2 => ?_)
  clear hK K hHeld
  have hHeld := hHeld2
  clear hHeld2
  clear hD5 hF5
  try simp only [Act.put, List.setIfInBounds_toArray, List.set_cons_zero, List.set_cons_succ]
  refine wpAnyH_take (i := 5) (oi := { dst := some 97, op := Op.unOp UnOp.not 4 (Operand.tmp 96), type := 4, pos := "outright.go:138", after := #[{ on := 4, ground := Ground.data }], guard := none }) (v := .bool false) rfl (by kernel_rfl) (by kernel_rfl) (by kernel_rfl) (fun _ _ _ h => h) (Or.inl ⟨by rfl, by intro w hS; go_simp⟩) hHeld ?_
  try simp only [Act.put, List.setIfInBounds_toArray, List.set_cons_zero, List.set_cons_succ]
  refine wpAnyH_take (i := 6) (oi := { dst := some 98, op := Op.move (Operand.tmp 97), type := 4, pos := "outright.go:138", after := #[{ on := 5, ground := Ground.data }, { on := 4, ground := Ground.chain }], guard := none }) (v := .bool false) rfl (by kernel_rfl) (by kernel_rfl) (by kernel_rfl) (fun _ _ _ h => h) (Or.inl ⟨by rfl, by intro w hS; go_simp⟩) hHeld ?_
  try simp only [Act.put, List.setIfInBounds_toArray, List.set_cons_zero, List.set_cons_succ]
  refine wpAnyH_take (i := 7) (oi := { dst := some 99, op := Op.move (Operand.tmp 7), type := 33, pos := "outright.go:138", after := #[{ on := 6, ground := Ground.guard }], guard := some (6, false) }) (v := .pointer (some ⟨g, 0, none⟩)) rfl (by kernel_rfl) (by kernel_rfl) (by kernel_rfl) (fun _ _ _ h => h) (Or.inl ⟨by rfl, by intro w hS; go_simp⟩) hHeld ?_
  try simp only [Act.put, List.setIfInBounds_toArray, List.set_cons_zero, List.set_cons_succ]
  refine wpAnyH_take (i := 9) (oi := { dst := some 101, op := Op.fieldAddr 37 (Operand.tmp 9) 2, type := 0, pos := "outright.go:138", after := #[{ on := 6, ground := Ground.guard }], guard := some (6, false) }) (v := .pointer (some ⟨G9, 2, none⟩)) rfl (by kernel_rfl) (by kernel_rfl) (by kernel_rfl) (fun _ _ _ h => h) (Or.inl ⟨by rfl, by intro w hS; go_simp⟩) hHeld ?_
  try simp only [Act.put, List.setIfInBounds_toArray, List.set_cons_zero, List.set_cons_succ]
  refine wpAnyH_take (i := 10) (oi := { dst := some 102, op := Op.load 3 (Operand.tmp 101), type := 3, pos := "outright.go:138", after := #[{ on := 9, ground := Ground.data }, { on := 6, ground := Ground.guard }], guard := some (6, false) }) (v := .int .i64 (m : Int)) rfl (by kernel_rfl) (by kernel_rfl) (by kernel_rfl) (fun _ _ _ h => h) (Or.inl ⟨by rfl, by intro w hS; have hc := hS; go_simp⟩) hHeld ?_
  try simp only [Act.put, List.setIfInBounds_toArray, List.set_cons_zero, List.set_cons_succ]
  refine wpAnyH_ready (rs := [8]) (by kernel_rfl) (by simp) ?_
  refine (AllReadyH.cons (o := { dst := some 100, op := Op.call { callee := Callee.value (Operand.func 18), args := #[Operand.tmp 99], argTypes := #[33] }, type := 3, pos := "outright.go:138", after := #[{ on := 7, ground := Ground.data }, { on := 6, ground := Ground.chain }, { on := 6, ground := Ground.guard }], guard := some (6, false) }) rfl (fun K hK => ?_) AllReadyH.nil)
  go_simp
  go_at_call 18
  refine (HNX.out w5 HF5.out).mono ?_
  rintro e w6 ⟨rfl, rfl⟩
  go_wp2_with fail
  refine hK.out _ _ (hHeld) (fun hHeld2 => ?_)
  clear hK K hHeld
  have hHeld := hHeld2
  clear hHeld2
  try simp only [Act.put, List.setIfInBounds_toArray, List.set_cons_zero, List.set_cons_succ]
  refine wpAnyH_take (i := 11) (oi := { dst := some 103, op := Op.binOp BinOp.neq 3 (Operand.tmp 100) (Operand.tmp 102) 3, type := 4, pos := "outright.go:138", after := #[{ on := 8, ground := Ground.data }, { on := 10, ground := Ground.data }, { on := 6, ground := Ground.guard }], guard := some (6, false) }) (v := .bool false) rfl (by kernel_rfl) (by kernel_rfl) (by kernel_rfl) (fun _ _ _ h => h) (Or.inl ⟨by rfl, by intro w hS; go_simp⟩) hHeld ?_
  try simp only [Act.put, List.setIfInBounds_toArray, List.set_cons_zero, List.set_cons_succ]
  refine wpAnyH_take (i := 12) (oi := { dst := some 104, op := Op.pick (Operand.tmp 98) (Operand.const (Value.bool true)) (Operand.tmp 103), type := 4, pos := "outright.go:138", after := #[{ on := 6, ground := Ground.data }, { on := 11, ground := Ground.data }], guard := none }) (v := .bool false) rfl (by kernel_rfl) (by kernel_rfl) (by kernel_rfl) (fun _ _ _ h => h) (Or.inl ⟨by rfl, by intro w hS; go_simp⟩) hHeld ?_
  try simp only [Act.put, List.setIfInBounds_toArray, List.set_cons_zero, List.set_cons_succ]
  refine wpAnyH_done (by kernel_rfl) ?_ _
  refine NoPanic.normal ?_
  clear hHeld
  have hba5 := (show BA w4.drew.drew.drew base G gb B from HBA4.out.of_heap (Nat.le_refl _) (fun k hk => rfl)).other HF5.out HAP4.out
  have hgF5 : gb ∉ F4 := fun e => HAP4.out gb e hba5.gbG
  have r95 := HF5.out.keep (show w4.drew.drew.drew.heap[G9]? = _ from R9.out) (HD4.out.not_in R9.out (by decide) (by decide) (by decide))
  have X12 := hid (show w5.drew.heap[G9]? = some (.cells (supC s2) 37 (0, 0)) from r95)
  have hk5 := HK4.out.drew.drew.drew.other HD4.out.drew.drew.drew HF5.out
  have hgg := hba5.not_file hk5
  have NGB := hid (show gb ≠ G9 from by obtain ⟨_, _, _, hh⟩ := hba5; exact ne_ty hh.cell r95 (by decide))
  obtain ⟨b2, b3, b4, b5, b6, bf⟩ := hba5.cell
  have c2 : w5.drew.cell? ⟨gb, 2, none⟩ = some (.int .i64 B.mrk) := b2
  have c3 : w5.drew.cell? ⟨gb, 3, none⟩ = some (.int .i64 B.gn) := b3
  have c4 : w5.drew.cell? ⟨gb, 4, none⟩ = some (.int .i64 B.hd) := b4
  have c5 : w5.drew.cell? ⟨gb, 5, none⟩ = some (.int .i64 B.im) := b5
  have f2 : w5.drew.frozen? ⟨gb, 2, none⟩ = false := bf 2
  have f3 : w5.drew.frozen? ⟨gb, 3, none⟩ = false := bf 3
  have f4 : w5.drew.frozen? ⟨gb, 4, none⟩ = false := bf 4
  have f5 : w5.drew.frozen? ⟨gb, 5, none⟩ = false := bf 5
  have HBA5 := hid hba5
  have HK5 := hid hk5
  have HGF := hid hgF5
  have HGG := hid hgg
  have f2' := bf 2
  have f3' := bf 3
  have f4' := bf 4
  have f5' := bf 5
  clear b6 bf hba5 hk5 hgF5 hgg r95 X8 X10 HHO HNX HX10
  go_wp2
  refine wp_region_noPanic ?_
  refine wp_region_held_drew (S := fun w' => w'.heap[G9]? = some (.cells (supC s2) 37 (0, 0))) (by kernel_rfl) X12.out (fun hHeld => ?_)
  refine wpAnyH_take (i := 0) (oi := { dst := some 105, op := Op.move (Operand.tmp 0), type := 44, pos := "outright.go:141", after := #[], guard := none }) (v := .pointer (some ⟨gb, 0, none⟩)) rfl (by kernel_rfl) (by kernel_rfl) (by kernel_rfl) (fun _ _ _ h => h) (Or.inl ⟨by rfl, by intro w hS; go_simp⟩) hHeld ?_
  try simp only [Act.put, List.setIfInBounds_toArray, List.set_cons_zero, List.set_cons_succ]
  refine wpAnyH_take (i := 1) (oi := { dst := some 106, op := Op.move (Operand.tmp 0), type := 44, pos := "outright.go:141", after := #[{ on := 11, ground := Ground.gcOnly Departure.lateStores }], guard := none }) (v := .pointer (some ⟨gb, 0, none⟩)) rfl (by kernel_rfl) (by kernel_rfl) (by kernel_rfl) (fun _ _ _ h => h) (Or.inl ⟨by rfl, by intro w hS; go_simp⟩) hHeld ?_
  try simp only [Act.put, List.setIfInBounds_toArray, List.set_cons_zero, List.set_cons_succ]
  refine wpAnyH_take (i := 2) (oi := { dst := some 107, op := Op.move (Operand.tmp 0), type := 44, pos := "outright.go:141", after := #[{ on := 14, ground := Ground.gcOnly Departure.lateStores }], guard := none }) (v := .pointer (some ⟨gb, 0, none⟩)) rfl (by kernel_rfl) (by kernel_rfl) (by kernel_rfl) (fun _ _ _ h => h) (Or.inl ⟨by rfl, by intro w hS; go_simp⟩) hHeld ?_
  try simp only [Act.put, List.setIfInBounds_toArray, List.set_cons_zero, List.set_cons_succ]
  refine wpAnyH_take (i := 3) (oi := { dst := some 108, op := Op.fieldAddr 37 (Operand.tmp 9) 2, type := 0, pos := "outright.go:141", after := #[], guard := none }) (v := .pointer (some ⟨G9, 2, none⟩)) rfl (by kernel_rfl) (by kernel_rfl) (by kernel_rfl) (fun _ _ _ h => h) (Or.inl ⟨by rfl, by intro w hS; go_simp⟩) hHeld ?_
  try simp only [Act.put, List.setIfInBounds_toArray, List.set_cons_zero, List.set_cons_succ]
  refine wpAnyH_take (i := 5) (oi := { dst := some 110, op := Op.fieldAddr 37 (Operand.tmp 9) 3, type := 0, pos := "outright.go:141", after := #[{ on := 11, ground := Ground.gcOnly Departure.lateStores }], guard := none }) (v := .pointer (some ⟨G9, 3, none⟩)) rfl (by kernel_rfl) (by kernel_rfl) (by kernel_rfl) (fun _ _ _ h => h) (Or.inl ⟨by rfl, by intro w hS; go_simp⟩) hHeld ?_
  try simp only [Act.put, List.setIfInBounds_toArray, List.set_cons_zero, List.set_cons_succ]
  refine wpAnyH_take (i := 7) (oi := { dst := some 112, op := Op.fieldAddr 37 (Operand.tmp 9) 1, type := 0, pos := "outright.go:141", after := #[{ on := 14, ground := Ground.gcOnly Departure.lateStores }], guard := none }) (v := .pointer (some ⟨G9, 1, none⟩)) rfl (by kernel_rfl) (by kernel_rfl) (by kernel_rfl) (fun _ _ _ h => h) (Or.inl ⟨by rfl, by intro w hS; go_simp⟩) hHeld ?_
  try simp only [Act.put, List.setIfInBounds_toArray, List.set_cons_zero, List.set_cons_succ]
  refine wpAnyH_take (i := 4) (oi := { dst := some 109, op := Op.load 3 (Operand.tmp 108), type := 3, pos := "outright.go:141", after := #[{ on := 3, ground := Ground.data }], guard := none }) (v := .int .i64 s2.ma) rfl (by kernel_rfl) (by kernel_rfl) (by kernel_rfl) (fun _ _ _ h => h) (Or.inl ⟨by rfl, by intro w hS; have hc := cell_sup2 hS; go_simp⟩) hHeld ?_
  try simp only [Act.put, List.setIfInBounds_toArray, List.set_cons_zero, List.set_cons_succ]
  refine wpAnyH_take (i := 6) (oi := { dst := some 111, op := Op.load 3 (Operand.tmp 110), type := 3, pos := "outright.go:141", after := #[{ on := 5, ground := Ground.data }, { on := 11, ground := Ground.gcOnly Departure.lateStores }], guard := none }) (v := .int .i64 s2.hd) rfl (by kernel_rfl) (by kernel_rfl) (by kernel_rfl) (fun _ _ _ h => h) (Or.inl ⟨by rfl, by intro w hS; have hc := cell_sup3 hS; go_simp⟩) hHeld ?_
  try simp only [Act.put, List.setIfInBounds_toArray, List.set_cons_zero, List.set_cons_succ]
  refine wpAnyH_take (i := 8) (oi := { dst := some 113, op := Op.load 3 (Operand.tmp 112), type := 3, pos := "outright.go:141", after := #[{ on := 7, ground := Ground.data }, { on := 14, ground := Ground.gcOnly Departure.lateStores }], guard := none }) (v := .int .i64 s2.ge) rfl (by kernel_rfl) (by kernel_rfl) (by kernel_rfl) (fun _ _ _ h => h) (Or.inl ⟨by rfl, by intro w hS; have hc := cell_sup1 hS; go_simp⟩) hHeld ?_
  try simp only [Act.put, List.setIfInBounds_toArray, List.set_cons_zero, List.set_cons_succ]
  refine wpAnyH_take (i := 9) (oi := { dst := some 114, op := Op.nilCheck (Operand.tmp 105), type := 0, pos := "outright.go:141", after := #[{ on := 0, ground := Ground.data }, { on := 0, ground := Ground.phase }, { on := 1, ground := Ground.textOnly Departure.lateStores }, { on := 2, ground := Ground.textOnly Departure.lateStores }, { on := 3, ground := Ground.phase }, { on := 4, ground := Ground.phase }, { on := 5, ground := Ground.textOnly Departure.lateStores }, { on := 6, ground := Ground.textOnly Departure.lateStores }, { on := 7, ground := Ground.textOnly Departure.lateStores }, { on := 8, ground := Ground.textOnly Departure.lateStores }], guard := none }) (v := .pointer (some ⟨gb, 0, none⟩)) rfl (by kernel_rfl) (by kernel_rfl) (by kernel_rfl) (fun _ _ _ h => h) (Or.inl ⟨by rfl, by intro w hS; go_simp⟩) hHeld ?_
  try simp only [Act.put, List.setIfInBounds_toArray, List.set_cons_zero, List.set_cons_succ]
  refine wpAnyH_take (i := 10) (oi := { dst := some 115, op := Op.fieldAddr 48 (Operand.tmp 114) 2, type := 0, pos := "outright.go:141", after := #[{ on := 9, ground := Ground.data }, { on := 0, ground := Ground.phase }, { on := 1, ground := Ground.textOnly Departure.lateStores }, { on := 2, ground := Ground.textOnly Departure.lateStores }, { on := 3, ground := Ground.phase }, { on := 4, ground := Ground.phase }, { on := 5, ground := Ground.textOnly Departure.lateStores }, { on := 6, ground := Ground.textOnly Departure.lateStores }, { on := 7, ground := Ground.textOnly Departure.lateStores }, { on := 8, ground := Ground.textOnly Departure.lateStores }], guard := none }) (v := .pointer (some ⟨gb, 2, none⟩)) rfl (by kernel_rfl) (by kernel_rfl) (by kernel_rfl) (fun _ _ _ h => h) (Or.inl ⟨by rfl, by intro w hS; go_simp⟩) hHeld ?_
  try simp only [Act.put, List.setIfInBounds_toArray, List.set_cons_zero, List.set_cons_succ]
  refine wpAnyH_ready (rs := [11]) (by kernel_rfl) (by simp) ?_
  refine (AllReadyH.cons (o := { dst := none, op := Op.store 3 (Operand.tmp 115) (Operand.tmp 109), type := 0, pos := "outright.go:141", after := #[{ on := 10, ground := Ground.data }, { on := 4, ground := Ground.data }, { on := 0, ground := Ground.phase }, { on := 1, ground := Ground.textOnly Departure.lateStores }, { on := 2, ground := Ground.textOnly Departure.lateStores }, { on := 3, ground := Ground.phase }, { on := 4, ground := Ground.phase }, { on := 5, ground := Ground.textOnly Departure.lateStores }, { on := 6, ground := Ground.textOnly Departure.lateStores }, { on := 7, ground := Ground.textOnly Departure.lateStores }, { on := 8, ground := Ground.textOnly Departure.lateStores }], guard := none }) rfl (fun K hK => ?_) AllReadyH.nil)
  go_simp
  refine hK.out _ _ ((heap_setCell_other _ ⟨gb, 2, none⟩ G9 _ (fun e => NGB.out e.symm)).trans hHeld) (fun hHeld2 => ?_)
  clear hK K hHeld
  have hHeld := hHeld2
  clear hHeld2
  try simp only [Act.put, List.setIfInBounds_toArray, List.set_cons_zero, List.set_cons_succ]
  refine wpAnyH_take (i := 12) (oi := { dst := some 116, op := Op.nilCheck (Operand.tmp 106), type := 0, pos := "outright.go:141", after := #[{ on := 1, ground := Ground.data }, { on := 0, ground := Ground.phase }, { on := 1, ground := Ground.phase }, { on := 2, ground := Ground.textOnly Departure.lateStores }, { on := 3, ground := Ground.phase }, { on := 4, ground := Ground.phase }, { on := 5, ground := Ground.phase }, { on := 6, ground := Ground.phase }, { on := 7, ground := Ground.textOnly Departure.lateStores }, { on := 8, ground := Ground.textOnly Departure.lateStores }, { on := 9, ground := Ground.phase }, { on := 10, ground := Ground.phase }, { on := 11, ground := Ground.phase }], guard := none }) (v := .pointer (some ⟨gb, 0, none⟩)) rfl (by kernel_rfl) (by kernel_rfl) (by kernel_rfl) (fun _ _ _ h => h) (Or.inl ⟨by rfl, by intro w hS; go_simp⟩) hHeld ?_
  try simp only [Act.put, List.setIfInBounds_toArray, List.set_cons_zero, List.set_cons_succ]
  refine wpAnyH_take (i := 13) (oi := { dst := some 117, op := Op.fieldAddr 48 (Operand.tmp 116) 4, type := 0, pos := "outright.go:141", after := #[{ on := 12, ground := Ground.data }, { on := 0, ground := Ground.phase }, { on := 1, ground := Ground.phase }, { on := 2, ground := Ground.textOnly Departure.lateStores }, { on := 3, ground := Ground.phase }, { on := 4, ground := Ground.phase }, { on := 5, ground := Ground.phase }, { on := 6, ground := Ground.phase }, { on := 7, ground := Ground.textOnly Departure.lateStores }, { on := 8, ground := Ground.textOnly Departure.lateStores }, { on := 9, ground := Ground.phase }, { on := 10, ground := Ground.phase }, { on := 11, ground := Ground.phase }], guard := none }) (v := .pointer (some ⟨gb, 4, none⟩)) rfl (by kernel_rfl) (by kernel_rfl) (by kernel_rfl) (fun _ _ _ h => h) (Or.inl ⟨by rfl, by intro w hS; go_simp⟩) hHeld ?_
  try simp only [Act.put, List.setIfInBounds_toArray, List.set_cons_zero, List.set_cons_succ]
  refine wpAnyH_ready (rs := [14]) (by kernel_rfl) (by simp) ?_
  refine (AllReadyH.cons (o := { dst := none, op := Op.store 3 (Operand.tmp 117) (Operand.tmp 111), type := 0, pos := "outright.go:141", after := #[{ on := 13, ground := Ground.data }, { on := 6, ground := Ground.data }, { on := 11, ground := Ground.chain }, { on := 0, ground := Ground.phase }, { on := 1, ground := Ground.phase }, { on := 2, ground := Ground.textOnly Departure.lateStores }, { on := 3, ground := Ground.phase }, { on := 4, ground := Ground.phase }, { on := 5, ground := Ground.phase }, { on := 6, ground := Ground.phase }, { on := 7, ground := Ground.textOnly Departure.lateStores }, { on := 8, ground := Ground.textOnly Departure.lateStores }, { on := 9, ground := Ground.phase }, { on := 10, ground := Ground.phase }, { on := 11, ground := Ground.phase }], guard := none }) rfl (fun K hK => ?_) AllReadyH.nil)
  go_simp
  refine hK.out _ _ ((heap_setCell_other _ ⟨gb, 4, none⟩ G9 _ (fun e => NGB.out e.symm)).trans hHeld) (fun hHeld2 => ?_)
  clear hK K hHeld
  have hHeld := hHeld2
  clear hHeld2
  try simp only [Act.put, List.setIfInBounds_toArray, List.set_cons_zero, List.set_cons_succ]
  refine wpAnyH_take (i := 15) (oi := { dst := some 118, op := Op.nilCheck (Operand.tmp 107), type := 0, pos := "outright.go:141", after := #[{ on := 2, ground := Ground.data }, { on := 0, ground := Ground.phase }, { on := 1, ground := Ground.phase }, { on := 2, ground := Ground.phase }, { on := 3, ground := Ground.phase }, { on := 4, ground := Ground.phase }, { on := 5, ground := Ground.phase }, { on := 6, ground := Ground.phase }, { on := 7, ground := Ground.phase }, { on := 8, ground := Ground.phase }, { on := 9, ground := Ground.phase }, { on := 10, ground := Ground.phase }, { on := 11, ground := Ground.phase }, { on := 12, ground := Ground.phase }, { on := 13, ground := Ground.phase }, { on := 14, ground := Ground.phase }], guard := none }) (v := .pointer (some ⟨gb, 0, none⟩)) rfl (by kernel_rfl) (by kernel_rfl) (by kernel_rfl) (fun _ _ _ h => h) (Or.inl ⟨by rfl, by intro w hS; go_simp⟩) hHeld ?_
  try simp only [Act.put, List.setIfInBounds_toArray, List.set_cons_zero, List.set_cons_succ]
  refine wpAnyH_take (i := 16) (oi := { dst := some 119, op := Op.fieldAddr 48 (Operand.tmp 118) 3, type := 0, pos := "outright.go:141", after := #[{ on := 15, ground := Ground.data }, { on := 0, ground := Ground.phase }, { on := 1, ground := Ground.phase }, { on := 2, ground := Ground.phase }, { on := 3, ground := Ground.phase }, { on := 4, ground := Ground.phase }, { on := 5, ground := Ground.phase }, { on := 6, ground := Ground.phase }, { on := 7, ground := Ground.phase }, { on := 8, ground := Ground.phase }, { on := 9, ground := Ground.phase }, { on := 10, ground := Ground.phase }, { on := 11, ground := Ground.phase }, { on := 12, ground := Ground.phase }, { on := 13, ground := Ground.phase }, { on := 14, ground := Ground.phase }], guard := none }) (v := .pointer (some ⟨gb, 3, none⟩)) rfl (by kernel_rfl) (by kernel_rfl) (by kernel_rfl) (fun _ _ _ h => h) (Or.inl ⟨by rfl, by intro w hS; go_simp⟩) hHeld ?_
  try simp only [Act.put, List.setIfInBounds_toArray, List.set_cons_zero, List.set_cons_succ]
  refine wpAnyH_ready (rs := [17]) (by kernel_rfl) (by simp) ?_
  refine (AllReadyH.cons (o := { dst := none, op := Op.store 3 (Operand.tmp 119) (Operand.tmp 113), type := 0, pos := "outright.go:141", after := #[{ on := 16, ground := Ground.data }, { on := 8, ground := Ground.data }, { on := 14, ground := Ground.chain }, { on := 0, ground := Ground.phase }, { on := 1, ground := Ground.phase }, { on := 2, ground := Ground.phase }, { on := 3, ground := Ground.phase }, { on := 4, ground := Ground.phase }, { on := 5, ground := Ground.phase }, { on := 6, ground := Ground.phase }, { on := 7, ground := Ground.phase }, { on := 8, ground := Ground.phase }, { on := 9, ground := Ground.phase }, { on := 10, ground := Ground.phase }, { on := 11, ground := Ground.phase }, { on := 12, ground := Ground.phase }, { on := 13, ground := Ground.phase }, { on := 14, ground := Ground.phase }], guard := none }) rfl (fun K hK => ?_) AllReadyH.nil)
  go_simp
  refine hK.out _ _ ((heap_setCell_other _ ⟨gb, 3, none⟩ G9 _ (fun e => NGB.out e.symm)).trans hHeld) (fun hHeld2 => ?_)
  clear hK K hHeld
  have hHeld := hHeld2
  clear hHeld2
  try simp only [Act.put, List.setIfInBounds_toArray, List.set_cons_zero, List.set_cons_succ]
  refine wpAnyH_done (by kernel_rfl) ?_ _
  refine NoPanic.normal ?_
  clear hHeld
  go_wp2
  go_ret
  exact HEND.out w5.drew HD5.out.drew HK5.out.drew (HBA5.out.of_heap (Nat.le_refl _) (fun k hk => rfl)) HF5.out.drew HGF.out HGG.out
end Go.Proofs.Ytbgjnihkiolmlaa
