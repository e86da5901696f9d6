import Derived.Test.YtihkjfbhmlfonaaG7
namespace Go.Proofs.Ytihkjfbhmlfonaa
set_option linter.unusedVariables false
set_option linter.unusedSimpArgs false
open Go.RowKit

/-! What a Format leaves. -/
theorem np_img {D D' : DS} (h : D'.img.length = D.img.length) : D'.np = D.np := by unfold DS.np; rw [h]
theorem wr_img (D : DS) (o : OW) : (D.wr o).img = D.img ∧ (D.wr o).ops = D.ops ++ [o] ∧ (D.wr o).epoch = D.epoch ∧ (D.wr o).reads = D.reads ∧ (D.wr o).writes = D.writes + 1 ∧ (D.wr o).syncs = D.syncs := by
  obtain ⟨e1, e2, e3, e4, e5, e6⟩ := acted_same { D.pushed o with writes := D.writes + 1 }
  exact ⟨e1, e2, e3, e4, e5, e6⟩
theorem acted_arm (D : DS) (h : 0 ≤ D.armed) : D.acted.armed = (if D.armed = 0 then 0 else D.armed - 1) ∧ (D.armed ≠ 1 → D.acted.power = D.power) ∧ (D.armed = 1 → D.acted.power = false) := by
  unfold DS.acted
  by_cases c : D.armed = 0
  · rw [if_pos c, if_pos c]; exact ⟨c, fun _ => rfl, fun q => by omega⟩
  · rw [if_neg c, if_neg c]
    by_cases e : D.armed = 1
    · rw [if_pos e]; exact ⟨by show (0 : Int) = _; omega, fun q => absurd e q, fun _ => rfl⟩
    · rw [if_neg e]; exact ⟨rfl, fun _ => rfl, fun q => absurd q e⟩
theorem wr_arm (D : DS) (o : OW) (h : 0 ≤ D.armed) : (D.wr o).armed = (if D.armed = 0 then 0 else D.armed - 1) ∧ (D.armed ≠ 1 → (D.wr o).power = D.power) ∧ (D.armed = 1 → (D.wr o).power = false) := acted_arm { D.pushed o with writes := D.writes + 1 } h
theorem actE_0 {D : DS} (h : D.armed ≠ 1) : D.actE = 0 := by unfold DS.actE; rw [if_neg h]
theorem actE_2 {D : DS} (h : D.armed = 1) : D.actE = 2 := by unfold DS.actE; rw [if_pos h]
theorem sync_np {D : DS} (hok : DsOk D) : D.synced.np = D.np := by
  obtain ⟨h3, h4, hn, hop⟩ := hok.np
  exact np_img (by show (layTo D.img D.ops D.ops.length).length = _; rw [layTo_len hn hop _ (Nat.le_refl _), hn])
theorem sync_arm (D : DS) (h : 0 ≤ D.armed) (h1 : D.armed ≠ 1) : D.synced.armed = (if D.armed = 0 then 0 else D.armed - 1) ∧ D.synced.power = D.power := ⟨(acted_arm D h).1, (acted_arm D h).2.1 h1⟩
/-- The image behind a sync, where one write was open. -/
theorem sync_one {D : DS} (hok : DsOk D) (q : Nat) (d : List Int) (h1 : D.ops = [⟨q, d⟩]) (hq : q < D.np) : pgO D.synced.img q = d ∧ ∀ r, r < D.np → r ≠ q → pgO D.synced.img r = pgO D.img r := by
  have key := fun r hr => sync_read hok r hr
  have e : ∀ r, D.readOf r = if q = r then d else pgO D.img r := fun r => by
    have := readOf_snoc (D := { D with ops := [] }) (D' := D) (o := ⟨q, d⟩) rfl (by rw [h1]; rfl) r
    rw [this, readOf_nil rfl]
  refine ⟨(key q hq).trans (by rw [e, if_pos rfl]), fun r hr hne => (key r hr).trans (by rw [e, if_neg (fun x => hne x.symm)])⟩
/-- What stands behind a whole Format. -/
structure Fm (D' D : DS) (wd : Int) : Prop where
  ok : DsOk D'
  np : D'.np = D.np
  ops : D'.ops = []
  pw : D'.power = true
  arm : D'.armed = (if D.armed = 0 then 0 else D.armed - 4)
  epoch : D'.epoch = D.epoch
  reads : D'.reads = D.reads
  writes : D'.writes = D.writes + 2
  syncs : D'.syncs = D.syncs + 2
  p0 : pgO D'.img 0 = secP (fS D.np wd 0)
  p1 : pgO D'.img 1 = secP (fS D.np wd 1)
  rest : ∀ q, 2 ≤ q → q < D.np → pgO D'.img q = pgO D.img q
/-- Slots behind a Format that power ended. -/
def Half (L0 L1 : List Int) (s0 s1 : Sup) : Prop := Blank L0 L1 ∨ Good s1 s0 L0 L1
theorem blank_torn {L0 L1 T : List Int} (h : Blank L0 L1) (hT : T.length = 192) (s0 : Sup) (hv : validS s0 = true) (hg : s0.ge = 0) (b : Bool) : Blank ((if b then secP s0 else L0).take 64 ++ T) L1 := by
  obtain ⟨Y, Z, hY, hZ, rfl, h0⟩ := h
  refine ⟨T, Z, hT, hZ, rfl, ?_⟩
  cases b with
  | true => exact Or.inr ⟨s0, hv, hg, by show (secP s0).take 64 ++ T = _; rw [secP_take]⟩
  | false =>
    rcases h0 with rfl | ⟨s, hs, hgs, rfl⟩
    · exact Or.inl (by show (zz 64 ++ Y).take 64 ++ T = _; rw [List.take_left' (by simp [zz])])
    · exact Or.inr ⟨s, hs, hgs, by show (secS s ++ Y).take 64 ++ T = _; rw [List.take_left' (secS_len s)]⟩
theorem fS_fol (n : Nat) (wd : Int) : Fol (fS n wd 1) (fS n wd 0) := ⟨rfl, rfl, rfl, Int.le_refl _⟩
theorem fmt_all {D : DS} (hok : DsOk D) (ho : D.ops = []) (hp : D.power = true) (hbud : Bud D 4) (wd : Int) (hw : 1 ≤ wd ∧ wd ≤ 32) (hB : Blank (pgO D.img 0) (pgO D.img 1)) :
    ((D.armed = 0 ∨ 4 < D.armed) → (runS D [.lay (fS D.np wd 0) 0 0, .sync, .lay (fS D.np wd 1) 0 0, .sync]).2 = 0 ∧ Fm (runS D [.lay (fS D.np wd 0) 0 0, .sync, .lay (fS D.np wd 1) 0 0, .sync]).1 D wd) ∧
    ((1 ≤ D.armed ∧ D.armed ≤ 4) → (runS D [.lay (fS D.np wd 0) 0 0, .sync, .lay (fS D.np wd 1) 0 0, .sync]).2 = 2 ∧ DsOk (runS D [.lay (fS D.np wd 0) 0 0, .sync, .lay (fS D.np wd 1) 0 0, .sync]).1 ∧ (runS D [.lay (fS D.np wd 0) 0 0, .sync, .lay (fS D.np wd 1) 0 0, .sync]).1.np = D.np ∧ (runS D [.lay (fS D.np wd 0) 0 0, .sync, .lay (fS D.np wd 1) 0 0, .sync]).1.epoch = D.epoch ∧ (runS D [.lay (fS D.np wd 0) 0 0, .sync, .lay (fS D.np wd 1) 0 0, .sync]).1.reads = D.reads ∧ (runS D [.lay (fS D.np wd 0) 0 0, .sync, .lay (fS D.np wd 1) 0 0, .sync]).1.writes ≤ D.writes + 2 ∧ (runS D [.lay (fS D.np wd 0) 0 0, .sync, .lay (fS D.np wd 1) 0 0, .sync]).1.syncs ≤ D.syncs + 2 ∧
      ∀ fs : List Int, Half (pgO ((runS D [.lay (fS D.np wd 0) 0 0, .sync, .lay (fS D.np wd 1) 0 0, .sync]).1.crashed fs).img 0) (pgO ((runS D [.lay (fS D.np wd 0) 0 0, .sync, .lay (fS D.np wd 1) 0 0, .sync]).1.crashed fs).img 1) (fS D.np wd 0) (fS D.np wd 1)) := by
  obtain ⟨h3, h4, hn, _⟩ := hok.np
  have hv0 : validS (fS D.np wd 0) = true := fS_valid h3 h4 hw ⟨by omega, by omega⟩
  have hv1 : validS (fS D.np wd 1) = true := fS_valid h3 h4 hw ⟨by omega, by omega⟩
  have ha := hok.armed.1
  obtain ⟨n, hnn⟩ : ∃ n, n = D.np := ⟨_, rfl⟩
  rw [← hnn] at hv0 hv1 h3 h4 ⊢
  -- the first write
  obtain ⟨D1, hD1⟩ : ∃ D1, D1 = D.wr ⟨0, secP (fS n wd 0)⟩ := ⟨_, rfl⟩
  have e1 := wr_img D ⟨0, secP (fS n wd 0)⟩
  have a1 := wr_arm D ⟨0, secP (fS n wd 0)⟩ ha
  have ok1 := wr_ok hok (o := ⟨0, secP (fS n wd 0)⟩) ⟨by show 0 < D.np; omega, secP_len _, secP_byts hv0⟩ (by have := hbud.ops; omega) (by have := hbud.writes; omega)
  rw [← hD1] at e1 a1 ok1
  rw [ho, List.nil_append] at e1
  have np1 : D1.np = n := (np_img (by rw [e1.1])).trans hnn.symm
  have st1 : St.go (.lay (fS n wd 0) 0 0) D = (D1, D.actE) := by rw [hD1]; rfl
  -- the first sync
  obtain ⟨D2, hD2⟩ : ∃ D2, D2 = D1.synced := ⟨_, rfl⟩
  have ok2 := synced_ok ok1 (by rw [e1.2.2.2.2.2]; have := hbud.syncs; omega)
  have np2 := (sync_np ok1).trans np1
  have p2 := sync_one ok1 0 _ e1.2.1 (by omega)
  rw [← hD2] at ok2 np2 p2
  have s2 : D2.ops = [] ∧ D2.epoch = D.epoch ∧ D2.reads = D.reads ∧ D2.writes = D.writes + 1 ∧ D2.syncs = D.syncs + 1 := by
    obtain ⟨c1, c2, c3, c4, c5, c6⟩ := acted_same D1
    rw [hD2]
    exact ⟨rfl, c3.trans e1.2.2.1, c4.trans e1.2.2.2.1, c5.trans e1.2.2.2.2.1, by show D1.syncs + 1 = _; rw [e1.2.2.2.2.2]⟩
  -- the second write
  obtain ⟨D3, hD3⟩ : ∃ D3, D3 = D2.wr ⟨1, secP (fS n wd 1)⟩ := ⟨_, rfl⟩
  have e3 := wr_img D2 ⟨1, secP (fS n wd 1)⟩
  have ok3 := wr_ok ok2 (o := ⟨1, secP (fS n wd 1)⟩) ⟨by show 1 < D2.np; omega, secP_len _, secP_byts hv1⟩ (by rw [s2.1]; decide) (by rw [s2.2.2.2.1]; have := hbud.writes; omega)
  rw [← hD3] at e3 ok3
  rw [s2.1, List.nil_append] at e3
  have np3 : D3.np = n := (np_img (by rw [e3.1])).trans np2
  have st3 : St.go (.lay (fS n wd 1) 0 0) D2 = (D3, D2.actE) := by rw [hD3]; rfl
  -- the second sync
  obtain ⟨D4, hD4⟩ : ∃ D4, D4 = D3.synced := ⟨_, rfl⟩
  have ok4 := synced_ok ok3 (by rw [e3.2.2.2.2.2, s2.2.2.2.2]; have := hbud.syncs; omega)
  have np4 := (sync_np ok3).trans np3
  have p4 := sync_one ok3 1 _ e3.2.1 (by omega)
  rw [← hD4] at ok4 np4 p4
  have hsy : ∀ X : DS, X.armed ≠ 1 → St.go .sync X = (X.synced, 0) := fun X hX => by show sy X = _; unfold sy; rw [if_neg hX]
  have hsz : ∀ X : DS, X.armed = 1 → St.go .sync X = (X.acted, 2) := fun X hX => by show sy X = _; unfold sy; rw [if_pos hX]
  have p0img : pgO D3.img 0 = secP (fS n wd 0) := by rw [e3.1]; exact p2.1
  have p1img : pgO D3.img 1 = pgO D.img 1 := by rw [e3.1, p2.2 1 (by omega) (by omega), e1.1]
  have first : ∀ X : DS, DsOk X → X.img = D.img → X.ops = [⟨0, secP (fS n wd 0)⟩] → ∀ fs, Half (pgO (X.crashed fs).img 0) (pgO (X.crashed fs).img 1) (fS n wd 0) (fS n wd 1) := by
    intro X hX hi hx fs
    have npX : X.np = n := (np_img (by rw [hi])).trans hnn.symm
    obtain ⟨b, T, hT, hT8, hE⟩ := crash_one hX fs 0 (by omega) _ hx
    have h1 := crash_page hX fs 1 (by omega) (fun o ho => by rw [hx, List.mem_singleton] at ho; rw [ho]; exact (by decide : (0 : Nat) ≠ 1))
    left
    show Blank (pgO (crashTo X.img X.ops fs X.ops.length) 0) (pgO (crashTo X.img X.ops fs X.ops.length) 1)
    rw [hE, h1, hi]
    exact blank_torn hB hT _ hv0 rfl b
  have second : ∀ X : DS, DsOk X → X.img = D3.img → X.ops = [⟨1, secP (fS n wd 1)⟩] → ∀ fs, Half (pgO (X.crashed fs).img 0) (pgO (X.crashed fs).img 1) (fS n wd 0) (fS n wd 1) := by
    intro X hX hi hx fs
    have npX : X.np = n := (np_img (by rw [hi])).trans np3
    obtain ⟨b, T, hT, hT8, hE⟩ := crash_one hX fs 1 (by omega) _ hx
    have h0 := crash_page hX fs 0 (by omega) (fun o ho => by rw [hx, List.mem_singleton] at ho; rw [ho]; exact (by decide : (1 : Nat) ≠ 0))
    show Half (pgO (crashTo X.img X.ops fs X.ops.length) 0) (pgO (crashTo X.img X.ops fs X.ops.length) 1) _ _
    rw [hE, h0, hi, p0img, p1img]
    cases b with
    | true =>
      right
      show Good _ _ _ ((secP (fS n wd 1)).take 64 ++ T)
      rw [secP_take]
      exact Good.first hv0 hv1 (fS_fol n wd) rfl List.length_replicate hT (rep_byts _) hT8
    | false =>
      left
      obtain ⟨Y, Z, hY, hZ, h1, _⟩ := hB
      refine ⟨List.replicate 192 0, T, List.length_replicate, hT, ?_, Or.inr ⟨_, hv0, rfl, rfl⟩⟩
      show (pgO D.img 1).take 64 ++ T = _
      rw [h1, List.take_left' (by simp [zz])]
  have arm1 := a1.1
  have r0 : runS D [.lay (fS n wd 0) 0 0, .sync, .lay (fS n wd 1) 0 0, .sync] = if D.actE = 0 then runS D1 [.sync, .lay (fS n wd 1) 0 0, .sync] else (D1, D.actE) := by
    rw [runS, st1]
  by_cases k1 : D.armed = 1
  · have hr : runS D [.lay (fS n wd 0) 0 0, .sync, .lay (fS n wd 1) 0 0, .sync] = (D1, 2) := by rw [r0, actE_2 k1]; rfl
    rw [hr]
    exact ⟨fun q => by omega, fun _ => ⟨rfl, ok1, np1, e1.2.2.1, e1.2.2.2.1, by show D1.writes ≤ _; omega, by show D1.syncs ≤ _; omega, first D1 ok1 e1.1 e1.2.1⟩⟩
  rw [actE_0 k1, if_pos rfl] at r0
  by_cases k2 : D.armed = 2
  · have b1 : D1.armed = 1 := by rw [arm1, if_neg (by omega)]; omega
    have hr : runS D [.lay (fS n wd 0) 0 0, .sync, .lay (fS n wd 1) 0 0, .sync] = (D1.acted, 2) := by rw [r0, runS, hsz D1 b1]; rfl
    rw [hr]
    obtain ⟨c1, c2, c3, c4, c5, c6⟩ := acted_same D1
    exact ⟨fun q => by omega, fun _ => ⟨rfl, acted_ok ok1, (np_img (by rw [c1])).trans np1, c3.trans e1.2.2.1, c4.trans e1.2.2.2.1, by show D1.acted.writes ≤ _; omega, by show D1.acted.syncs ≤ _; omega, first D1.acted (acted_ok ok1) (c1.trans e1.1) (c2.trans e1.2.1)⟩⟩
  have b1 : D1.armed ≠ 1 := by rw [arm1]; split <;> omega
  have n1 : 0 ≤ D1.armed := ok1.armed.1
  have arm2 : D2.armed = (if D1.armed = 0 then 0 else D1.armed - 1) := by rw [hD2]; exact (sync_arm D1 n1 b1).1
  have r1 : runS D [.lay (fS n wd 0) 0 0, .sync, .lay (fS n wd 1) 0 0, .sync] = runS D2 [.lay (fS n wd 1) 0 0, .sync] := by rw [r0, runS, hsy D1 b1, if_pos rfl, hD2]
  have n2 : 0 ≤ D2.armed := ok2.armed.1
  by_cases k3 : D.armed = 3
  · have b2 : D2.armed = 1 := by rw [arm2, arm1, if_neg (by omega), if_neg (by omega)]; omega
    have hr : runS D [.lay (fS n wd 0) 0 0, .sync, .lay (fS n wd 1) 0 0, .sync] = (D3, 2) := by rw [r1, runS, st3, actE_2 b2]; rfl
    rw [hr]
    exact ⟨fun q => by omega, fun _ => ⟨rfl, ok3, np3, e3.2.2.1.trans s2.2.1, e3.2.2.2.1.trans s2.2.2.1, by show D3.writes ≤ _; omega, by show D3.syncs ≤ _; omega, second D3 ok3 rfl e3.2.1⟩⟩
  have b2 : D2.armed ≠ 1 := by rw [arm2, arm1]; split <;> split at * <;> omega
  have arm3 : D3.armed = (if D2.armed = 0 then 0 else D2.armed - 1) := by rw [hD3]; exact (wr_arm D2 _ n2).1
  have r2 : runS D [.lay (fS n wd 0) 0 0, .sync, .lay (fS n wd 1) 0 0, .sync] = runS D3 [.sync] := by rw [r1, runS, st3, actE_0 b2, if_pos rfl]
  have n3 : 0 ≤ D3.armed := ok3.armed.1
  have hpw3 : D3.power = true := by
    rw [hD3, (wr_arm D2 _ n2).2.1 b2, hD2, (sync_arm D1 n1 b1).2, a1.2.1 k1, hp]
  by_cases k4 : D.armed = 4
  · have b3 : D3.armed = 1 := by rw [arm3, arm2, arm1, if_neg (by omega), if_neg (by omega), if_neg (by omega)]; omega
    have hr : runS D [.lay (fS n wd 0) 0 0, .sync, .lay (fS n wd 1) 0 0, .sync] = (D3.acted, 2) := by rw [r2, runS, hsz D3 b3]; rfl
    rw [hr]
    obtain ⟨c1, c2, c3, c4, c5, c6⟩ := acted_same D3
    exact ⟨fun q => by omega, fun _ => ⟨rfl, acted_ok ok3, (np_img (by rw [c1])).trans np3, c3.trans (e3.2.2.1.trans s2.2.1), c4.trans (e3.2.2.2.1.trans s2.2.2.1), by show D3.acted.writes ≤ _; omega, by show D3.acted.syncs ≤ _; omega, second D3.acted (acted_ok ok3) c1 (c2.trans e3.2.1)⟩⟩
  have b3 : D3.armed ≠ 1 := by rw [arm3, arm2, arm1]; split <;> (try split at *) <;> (try split at *) <;> omega
  have hr : runS D [.lay (fS n wd 0) 0 0, .sync, .lay (fS n wd 1) 0 0, .sync] = (D4, 0) := by rw [r2, runS, hsy D3 b3, if_pos rfl, hD4]; rfl
  rw [hr]
  obtain ⟨c1, c2, c3, c4, c5, c6⟩ := acted_same D3
  refine ⟨fun q => ⟨rfl, ⟨ok4, np4.trans hnn, by rw [hD4]; rfl, by rw [hD4]; exact (sync_arm D3 n3 b3).2.trans hpw3, ?_, by rw [hD4]; exact c3.trans (e3.2.2.1.trans s2.2.1), by rw [hD4]; exact c4.trans (e3.2.2.2.1.trans s2.2.2.1), ?_, ?_, ?_, ?_, ?_⟩⟩, fun q => by omega⟩
  · show D4.armed = _
    rw [hD4, (sync_arm D3 n3 b3).1, arm3, arm2, arm1]
    rcases q with q | q
    · simp [q]
    · rw [if_neg (by omega), if_neg (by omega), if_neg (by omega), if_neg (by omega), if_neg (by omega)]; omega
  · show D4.writes = _
    rw [hD4]; show D3.acted.writes = _; omega
  · show D4.syncs = _
    rw [hD4]; show D3.syncs + 1 = _; omega
  · show pgO D4.img 0 = _
    rw [p4.2 0 (by omega) (by omega), p0img, hnn]
  · show pgO D4.img 1 = _
    rw [p4.1, hnn]
  · intro r hr2 hrn
    show pgO D4.img r = _
    rw [p4.2 r (by omega) (by omega), e3.1, p2.2 r (by omega) (by omega), e1.1]
end Go.Proofs.Ytihkjfbhmlfonaa
