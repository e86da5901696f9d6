import Derived.Test.YtbpamknebjdicaaK7
namespace Go.Proofs.Ytbpamknebjdicaa.K2
set_option linter.unusedVariables false
set_option linter.unusedSimpArgs false
open Go.RowKit
attribute [local go_sem ↓] Go.wp_at_zero Go.wp_at_succ

theorem drop_end {base p m n : Nat} {s s' s3 : CSi} {w wr w3 w4 : World} {e : Nat} (h1 : LN base p m n s w s' wr) (h2 : LN base p m n s' wr.drew s3 w3) (he : e ∈ s3.bs) (h4 : CK w4 base p m n (s3.drop (s3.E e).key)) (hF : Fr (fpC p m s3) w3.drew w4) :
    (w4.cell? ⟨p, 1, none⟩ = some (.map (some m)) ∧ w4.rangeAt e 0 (ints .u8 (pathL (s3.E e).key))) ∧ LN base p m n s w (s3.drop (s3.E e).key) w4 := by
  have h3 := h1.trans h2.undrew
  refine ⟨⟨h4.c1, h4.ek (b := e) he⟩, h4, h3.2.1.trans' ?_, h3.2.2⟩
  rw [show fpC p m s3 = fpC p m s by simp [fpC, h3.2.2]] at hF
  exact ⟨hF.os, hF.tape, hF.output, hF.size, hF.block⟩
theorem gone_end {base p m n : Nat} {s s3 : CSi} {w w4 : World} (h : LN base p m n s w s3 w4) : w4.cell? ⟨p, 10, none⟩ = some (.int .i64 s3.gone) ∧ w4.frozen? ⟨p, 10, none⟩ = false ∧ LN base p m n s w s3.gone1 (w4.setCell ⟨p, 10, none⟩ (.int .i64 (s3.gone + 1))) :=
  ⟨h.1.c10, h.1.fz 10, h.1.setGone _, h.2.1.setCell (mem_p p m s) _ _, h.2.2⟩
/-- What a call leaves. -/
def LA (base p m n : Nat) (s : CSi) (w : World) (a : AS Int Int) (w' : World) : Prop := ∃ t L, LN base p m n s w t w' ∧ Abs t L none a
set_option maxRecDepth 100000 in
set_option maxHeartbeats 1000000 in
theorem trim_any (w : World) (base p m n : Nat) (s : CSi) (h : CK w base p m n s) (L : Bool → List Nat) (a : AS Int Int) (hA : Abs s L none a) (hl : a.tot < 4000000000000000000) :
    Calls Try.prog 63 #[.pointer (some ⟨p, 0, none⟩)] w fun x w' => x = .returned (.tuple #[]) ∧ LA base p m n s w a.trim w' := by
  obtain ⟨N, hN⟩ : ∃ N, N = a.clean.length := ⟨_, rfl⟩
  have HA := hid hA
  have HC := hid h
  have HL := hid hl
  have HNN := hid hN
  clear h hA hl hN
  go_enter Try.func63, Try.ntmps63
  go_wp2
  go_loopw [2] (fun _ wr => ∃ j s' L', j ≤ N ∧ (j = N ∨ a.room ≤ j) ∧ LN base p m n s w s' wr ∧ Abs s' L' none { a with clean := a.clean.take j, gone := a.gone + (N - j) }) (fun _ wr => (intOf ((wr.cell? ⟨p, 4, none⟩).getD undef)).toNat)
  case atStart =>
    refine ⟨N, s, L, Nat.le_refl _, Or.inl rfl, ⟨HC.out, Fr.refl _ _, rfl⟩, ?_⟩
    have := HA.out
    rw [HNN.out, List.take_of_length_le (Nat.le_refl _), Nat.sub_self]
    exact this
  case round =>
    obtain ⟨j, s', L', hj, hor, hLN, hAb⟩ := hrel
    have c0 := hLN.1.c0
    have c4 := hLN.1.c4
    have hcnt : s'.cl.count = j := by
      have := (hAb.ref.row true).count
      rw [hAb.lenC] at this
      simp only [List.length_take] at this
      show (s'.row true).count = _
      rw [this, Nat.min_eq_left (by have := HNN.out; omega)]
    rw [hcnt] at c4
    rw [hAb.room] at c0
    simp only at c0
    have HAb := hid hAb
    have HLN := hid hLN
    clear hAb hLN
    by_cases hlt : a.room < j
    · have i1 : (a.room : Int) < (j : Int) := by omega
      have hne : L' true ≠ [] := fun q => by have := HAb.out.lenC; rw [q] at this; simp at this; have := HNN.out; omega
      obtain ⟨A, e, hL⟩ : ∃ A e, L' true = A ++ [e] := (List.eq_nil_or_concat (L' true)).resolve_left hne |>.imp fun A h => h.imp fun e h => by rw [h]; simp
      have hlen : A.length + 1 = j := by
        have := HAb.out.lenC
        rw [hL] at this
        simp at this
        have := HNN.out
        omega
      have ht : AS.tot { a with clean := a.clean.take j, gone := a.gone + (N - j) } = a.tot := by
        unfold AS.tot
        simp only [List.length_take]
        have := HNN.out
        omega
      have hlL : (L' true).length < 4000000000000000000 := by
        rw [HAb.out.lenC]
        have h1 := HL.out
        rw [← ht] at h1
        unfold AS.tot at h1
        simp only at h1 ⊢
        omega
      have hgl : 0 ≤ s'.gone ∧ s'.gone < 4000000000000000000 := by
        rw [HAb.out.gone]
        have h1 := HL.out
        rw [← ht] at h1
        unfold AS.tot at h1
        simp only at h1 ⊢
        omega
      obtain ⟨k1, k2, k3, k4, k5, k6⟩ := HAb.out.ref.takeOk (B := []) hL hlL
      have c3 := HLN.out.1.c3
      rw [show s'.cl.last = some e by have := (HAb.out.ref.row true).last; rw [hL, List.getLast?_append] at this; exact this] at c3
      have H1 := hid (takeOut_any wr.drew base p m n s' HLN.out.1.drew true e k1 k2 k3 k4 k5 k6 2 rfl)
      have HG := hid (HAb.out.goes hL)
      have HKW := hid (HLN.out.1.kwf e k1)
      have hsm := Sm.takeOut s' true e
      have hek := hsm.key e
      have hgn := hsm.gone
      have HE := hid (show e ∈ (s'.takeOut true e).bs by rw [hsm.bs]; exact k1)
      have g1 := hgl.1
      have g2 := hgl.2
      clear k1 k2 k3 k4 k5 k6 hlL hgl ht hne hL
      generalize hs3 : s'.takeOut true e = s3 at *
      clear hs3 hsm
      rw [← hek] at HKW HG
      generalize hk : (s3.E e).key = k at *
      have HDE := hid (fun w3 (q : LN base p m n s' wr.drew s3 w3) w4 a b => drop_end (e := e) HLN.out q HE.out (w4 := w4) a b)
      have HCK := hid (fun w3 (q : LN base p m n s' wr.drew s3 w3) => (⟨q.1.c1, q.1.ek HE.out⟩ : w3.cell? ⟨p, 1, none⟩ = some (.map (some m)) ∧ w3.rangeAt e 0 (ints .u8 (pathL (s3.E e).key))))
      rw [hk] at HDE HCK
      have HGE := hid (fun w4 (q : LN base p m n s w (s3.drop k) w4) => gone_end q)
      rw [show (s3.drop k).gone = s3.gone from rfl, hgn] at HGE
      clear hgn hk hek
      generalize s'.gone = G at *
      simp only [optr] at c3
      have HC4 := hid c4
      go_wp2
      go_region_held3 (fun w' => w'.cell? ⟨p, 0, none⟩ = some (.int .i64 a.room) ∧ w'.cell? ⟨p, 4, none⟩ = some (.int .i64 j)) (go_keep) (fail)
      go_wp2_with (first
        | (go_at_call 41; refine H1.out.mono ?_; rintro x w3 ⟨rfl, hl3⟩; clear H1; have HS := hid (HCK.out w3 hl3); have HD := hid (show CK w3 base p m n s3 ∧ wfK k ∧ _ from ⟨hl3.1, HKW.out, HDE.out w3 hl3⟩); clear HCK HDE hl3 c0 c3 c4))
      refine wp_region_noPanic ?_
      refine wp_region_held_drew (S := fun w' => w'.cell? ⟨p, 1, none⟩ = some (.map (some m)) ∧ w'.rangeAt e 0 (ints .u8 (pathL k))) (by kernel_rfl) HS.out (fun hHeld => ?_)
      refine wpAnyH_take (i := 0) (oi := { dst := some 23, op := Op.move (Operand.tmp 0), type := 40, pos := "cache.go:120", after := #[], guard := none }) (v := .pointer (some ⟨p, 0, none⟩)) rfl (by kernel_rfl) (by kernel_rfl) (by kernel_rfl) (fun _ _ _ h => h) (Or.inl ⟨by rfl, by intro w hS; go_simp⟩) hHeld ?_
      try simp only [Act.put, List.setIfInBounds_toArray, List.set_cons_zero, List.set_cons_succ]
      refine wpAnyH_take (i := 4) (oi := { dst := some 27, op := Op.move (Operand.tmp 2), type := 76, pos := "cache.go:120", after := #[], guard := none }) (v := .pointer (some ⟨e, 0, none⟩)) rfl (by kernel_rfl) (by kernel_rfl) (by kernel_rfl) (fun _ _ _ h => h) (Or.inl ⟨by rfl, by intro w hS; go_simp⟩) hHeld ?_
      try simp only [Act.put, List.setIfInBounds_toArray, List.set_cons_zero, List.set_cons_succ]
      refine wpAnyH_take (i := 1) (oi := { dst := some 24, op := Op.nilCheck (Operand.tmp 23), type := 0, pos := "cache.go:120", after := #[{ on := 0, ground := Ground.data }], guard := none }) (v := .pointer (some ⟨p, 0, none⟩)) rfl (by kernel_rfl) (by kernel_rfl) (by kernel_rfl) (fun _ _ _ h => h) (Or.inl ⟨by rfl, by intro w hS; go_simp⟩) hHeld ?_
      try simp only [Act.put, List.setIfInBounds_toArray, List.set_cons_zero, List.set_cons_succ]
      refine wpAnyH_take (i := 5) (oi := { dst := some 28, op := Op.nilCheck (Operand.tmp 27), type := 0, pos := "cache.go:120", after := #[{ on := 4, ground := Ground.data }], guard := none }) (v := .pointer (some ⟨e, 0, none⟩)) rfl (by kernel_rfl) (by kernel_rfl) (by kernel_rfl) (fun _ _ _ h => h) (Or.inl ⟨by rfl, by intro w hS; go_simp⟩) hHeld ?_
      try simp only [Act.put, List.setIfInBounds_toArray, List.set_cons_zero, List.set_cons_succ]
      refine wpAnyH_take (i := 2) (oi := { dst := some 25, op := Op.fieldAddr 80 (Operand.tmp 24) 1, type := 0, pos := "cache.go:120", after := #[{ on := 1, ground := Ground.data }], guard := none }) (v := .pointer (some ⟨p, 1, none⟩)) rfl (by kernel_rfl) (by kernel_rfl) (by kernel_rfl) (fun _ _ _ h => h) (Or.inl ⟨by rfl, by intro w hS; go_simp⟩) hHeld ?_
      try simp only [Act.put, List.setIfInBounds_toArray, List.set_cons_zero, List.set_cons_succ]
      refine wpAnyH_take (i := 6) (oi := { dst := some 29, op := Op.fieldAddr 84 (Operand.tmp 28) 0, type := 0, pos := "cache.go:120", after := #[{ on := 5, ground := Ground.data }], guard := none }) (v := .pointer (some ⟨e, 0, none⟩)) rfl (by kernel_rfl) (by kernel_rfl) (by kernel_rfl) (fun _ _ _ h => h) (Or.inl ⟨by rfl, by intro w hS; go_simp⟩) hHeld ?_
      try simp only [Act.put, List.setIfInBounds_toArray, List.set_cons_zero, List.set_cons_succ]
      refine wpAnyH_take (i := 3) (oi := { dst := some 26, op := Op.load 75 (Operand.tmp 25), type := 75, pos := "cache.go:120", after := #[{ on := 2, ground := Ground.data }], guard := none }) (v := .map (some m)) rfl (by kernel_rfl) (by kernel_rfl) (by kernel_rfl) (fun _ _ _ h => h) (Or.inl ⟨by rfl, by intro w hS; have hc := hS.1; go_simp⟩) hHeld ?_
      try simp only [Act.put, List.setIfInBounds_toArray, List.set_cons_zero, List.set_cons_succ]
      refine wpAnyH_take (i := 7) (oi := { dst := some 30, op := Op.load 43 (Operand.tmp 29), type := 43, pos := "cache.go:120", after := #[{ on := 6, ground := Ground.data }], guard := none }) (v := .agg (ints .u8 (pathL k)).toArray) rfl (by kernel_rfl) (by kernel_rfl) (by kernel_rfl) (fun _ _ _ h => h) (yieldsIf_load_mid (by rfl) 43 _ rfl e (0) rfl (ints .u8 (pathL k)) _ (fun w hS => hS.2) Try.underlying43 rfl (keyN k)) hHeld ?_
      try simp only [Act.put, List.setIfInBounds_toArray, List.set_cons_zero, List.set_cons_succ]
      refine wpAnyH_ready (rs := [8]) (by kernel_rfl) (by simp) ?_
      refine (AllReadyH.cons (o := { dst := none, op := Op.call { callee := Callee.builtin Builtin.delete, args := #[Operand.tmp 26, Operand.tmp 30], argTypes := #[75, 43] }, type := 0, pos := "cache.go:120", after := #[{ on := 3, ground := Ground.data }, { on := 7, ground := Ground.data }], guard := none }) rfl (fun K hK => ?_) AllReadyH.nil)
      refine step_drop (by rfl) (.tmp 26) (.tmp 30) (by rfl) base p m n s3 HD.out.1.drew (by rfl) k (by rfl) HD.out.2.1 ?_
      intro w4 hC4 hF4
      have HP4 := hid (HD.out.2.2 w4 hC4 hF4)
      clear hC4 hF4
      refine hK.out _ _ (HP4.out.1) (fun hHeld2 => ?_)
      clear hK K hHeld
      have hHeld := hHeld2
      clear hHeld2
      have hLN4 := HP4.out.2
      clear HP4 HD HS
      obtain ⟨c10, f10, hL5⟩ := HGE.out w4 hLN4
      clear HGE hLN4
      try simp only [Act.put, List.setIfInBounds_toArray, List.set_cons_zero, List.set_cons_succ]
      refine wpAnyH_done (by kernel_rfl) ?_ _
      refine NoPanic.normal ?_
      go_wp2
      go_roundw
      case rel => exact ⟨j - 1, _, _, by omega, Or.inr (by omega), hL5, by
        have := HG.out
        rw [show A.length = j - 1 by omega] at this
        simp only [List.take_take] at this
        rw [show min (j - 1) j = j - 1 by omega, show a.gone + (N - j) + 1 = a.gone + (N - (j - 1)) by omega] at this
        exact this⟩
      case measure =>
        have e1 := hL5.1.c4
        have e2 := (HG.out.ref.row true).count
        rw [updL_same] at e2
        rw [show ((s3.drop k).gone1).cl.count = (A.length : Int) from e2] at e1
        rw [e1, HC4.out]
        simp [intOf]
        omega
    · have i1 : ¬ (a.room : Int) < (j : Int) := by omega
      go_wp2
      go_region_held3 (fun w' => w'.cell? ⟨p, 0, none⟩ = some (.int .i64 a.room) ∧ w'.cell? ⟨p, 4, none⟩ = some (.int .i64 j)) (go_keep) (fail)
      go_wp2
      go_end0
      refine ⟨rfl, s', L', ⟨HLN.out.1.drew, ⟨HLN.out.2.1.os, HLN.out.2.1.tape, HLN.out.2.1.output, HLN.out.2.1.size, HLN.out.2.1.block⟩, HLN.out.2.2⟩, ?_⟩
      have := HAb.out
      have hN := HNN.out
      have : a.trim = { a with clean := a.clean.take j, gone := a.gone + (N - j) } := by
        unfold AS.trim
        rcases hor with q | q
        · rw [List.take_of_length_le (by omega), List.take_of_length_le (by omega), show a.clean.length - a.room = N - j by omega]
        · rw [show j = a.room by omega, hN]
      rw [this]
      assumption
end Go.Proofs.Ytbpamknebjdicaa.K2
