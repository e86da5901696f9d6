import Derived.Test.YtbpamknebjdicaaL10
namespace Go.Proofs.Ytbpamknebjdicaa
set_option linter.unusedVariables false
set_option linter.unusedSimpArgs false
open Go.RowKit
attribute [local go_sem ↓] Go.wp_at_zero Go.wp_at_succ

theorem LN.setHeld {base p m n : Nat} {s t : CSi} {w w1 : World} {e : Nat} (h : LN base p m n s w t w1) (he : e ∈ t.bs) (f : Bool) : w1.cell? ⟨e, 2, none⟩ = some (.bool (t.E e).held) ∧ w1.frozen? ⟨e, 2, none⟩ = false ∧ LN base p m n s w (t.setHeld e f) (w1.setCell ⟨e, 2, none⟩ (.bool f)) :=
  ⟨h.1.eh he, h.1.fe he _, h.1.held he f, h.2.1.setCell (mem_b (by rw [← h.2.2]; exact he)) _ _, h.2.2⟩
theorem LN.refl {base p m n : Nat} {s : CSi} {w : World} (h : CK w base p m n s) : LN base p m n s w s w := ⟨h, Fr.refl _ _, rfl⟩
set_option maxRecDepth 100000 in
set_option maxHeartbeats 1000000 in
theorem Hold_any (w : World) (base : Nat) (F : List Nat) (p N : Nat) (a : AS Int Int) (h : CA w base F p N a) (k v : Int) (hk : wfK k) (hN : N < 3000000000000000000) :
    Calls Try.prog 13 #[.pointer (some ⟨p, 0, none⟩), argK k, argV v] w fun x w' => x = .returned (.tuple #[]) ∧ Nx base F p N w (a.hold k v) w' := by
  obtain ⟨m, n, s, L, rfl, hC, hA, h1, h2, h3⟩ := h
  have hpt := hold_tot a k v
  have c1 := hC.c1
  have hlenH : (L false).length < 4000000000000000000 := by rw [hA.lenH]; unfold AS.tot at h2; omega
  have hlenC : (L true).length < 4000000000000000000 := by rw [hA.lenC]; unfold AS.tot at h2; omega
  cases hl : s.look k with
  | none =>
    have hlk := hC.look_no hk hl
    have hfb := hC.freshb
    have hA1 := hA.newH hfb hl v
    have e1 : a.hold k v = { a with held := a.held ++ [(k, v)] } := by
      unfold AS.hold; rw [hA.findH_no hl]; simp only
      rw [del_none ((find_none_iff _ _).1 (hA.findC_no hl))]
    have HEN := hid (enter_any w base p m n s hC hC.base k v hk (by omega))
    have hR := (hA.ref.enter hfb hl v).setHeld true
    obtain ⟨j1, j2, j3⟩ := hR.putOk false hlenH
    have HSH := hid (fun w1 (q : CK w1 base p m (n + 1) (s.enter w.heap.size k v)) => (LN.refl q).setHeld (e := w.heap.size) List.mem_cons_self true)
    have HPF := hid (fun w1 (q : LN base p m (n + 1) (s.enter w.heap.size k v) w1 ((s.enter w.heap.size k v).setHeld w.heap.size true) (w1.setCell ⟨w.heap.size, 2, none⟩ (.bool true))) => pushLast_any _ base p m (n + 1) _ q.1 false w.heap.size List.mem_cons_self j2 j3 5 rfl)
    have HND := hid (fun w1 w2 (q1 : Fr (fpC p m s) w w1) (q2 : LN base p m (n + 1) (s.enter w.heap.size k v) w1 ((s.enter w.heap.size k v).setHeld w.heap.size true) (w1.setCell ⟨w.heap.size, 2, none⟩ (.bool true))) (q3 : LN base p m (n + 1) ((s.enter w.heap.size k v).setHeld w.heap.size true) (w1.setCell ⟨w.heap.size, 2, none⟩ (.bool true)) (((s.enter w.heap.size k v).setHeld w.heap.size true).pushLast false w.heap.size) w2) => (by
      rw [e1]
      exact nx_enter q1 (q2.trans q3) hA1 h1 (by rw [← e1]; omega) h3 : Nx base (fpC p m s) p N w (a.hold k v) w2))
    clear hC hA hl hpt hA1 hR j1 j2 j3 e1 hfb hlenH hlenC
    simp only [argK, argV] at *
    generalize hS1 : s.enter w.heap.size k v = s1 at *
    generalize hH : w.heap.size = H at *
    clear hS1 hH
    generalize s1.setHeld H true = s2 at *
    generalize s2.pushLast false H = s3 at *
    go_enter Try.func13, Try.ntmps13
    go_wp2_with (first
      | (go_at_call 33; refine HEN.out.mono ?_; rintro x w1 ⟨rfl, hc1, hf1⟩; obtain ⟨ch, fh, hln⟩ := HSH.out w1 hc1; have HF1 := hid hf1; have HL1 := hid hln; clear HEN HSH hc1 hf1 hln)
      | (go_at_call 37; refine (HPF.out w1 HL1.out).mono ?_; rintro x w2 ⟨rfl, hl2⟩; have HX := hid (HND.out w1 w2 HF1.out HL1.out hl2); clear HPF HND hl2))
    go_end0
    exact ⟨rfl, HX.out⟩
  | some e =>
    obtain ⟨hin, hkey⟩ := hA.ref.look_in hl
    have heb : e ∈ s.bs := hin.elim (hA.ref.dom true e) (hA.ref.dom false e)
    have hlk := hC.look_yes hk hl
    have cv := hC.ev heb
    have fv := hC.fe heb 1
    have ce := hC.eh heb
    have hC1 := hC.val heb v
    have hF1 : Fr (fpC p m s) w (w.setCell ⟨e, 1, none⟩ (argV v)) := (Fr.refl _ w).setCell (mem_b heb) _ _
    rcases hin with hin | hin
    · obtain ⟨A, B, hL⟩ := mem_split' hin
      rw [hA.ref.flag true e hin] at ce
      have hA1 := hA.setValC hin v
      have hM := hA1.moveH hL
      obtain ⟨k1, k2, k3, k4, k5, k6⟩ := hA1.ref.takeOk hL hlenC
      have H1 := hid (takeOut_any _ base p m n _ hC1 true e k1 k2 k3 k4 k5 k6 2 rfl)
      have hR := (hA1.ref.take hL).setHeld true
      obtain ⟨j1, j2, j3⟩ := hR.putOk false (by rw [updL_ne _ _ (by decide)]; exact hlenH)
      have e1 : a.hold k v = { a with clean := delL a.clean k, held := a.held ++ [(k, v)] } := by
        unfold AS.hold
        rw [← hkey, (hA.findC hin).2]
      have heb2 : e ∈ ((s.setVal e v).takeOut true e).bs := by rw [(Sm.takeOut (s.setVal e v) true e).bs]; exact heb
      have HSH := hid (fun w1 (q : LN base p m n (s.setVal e v) (w.setCell ⟨e, 1, none⟩ (argV v)) ((s.setVal e v).takeOut true e) w1) => q.setHeld heb2 true)
      have HPF := hid (fun w1 (q : LN base p m n (s.setVal e v) (w.setCell ⟨e, 1, none⟩ (argV v)) (((s.setVal e v).takeOut true e).setHeld e true) w1) => pushLast_any _ base p m n _ q.1 false e heb2 j2 j3 5 rfl)
      have HND := hid (fun w1 w2 (q : LN base p m n (s.setVal e v) (w.setCell ⟨e, 1, none⟩ (argV v)) (((s.setVal e v).takeOut true e).setHeld e true) w1) (q3 : LN base p m n (((s.setVal e v).takeOut true e).setHeld e true) w1 ((((s.setVal e v).takeOut true e).setHeld e true).pushLast false e) w2) => (by
        rw [E_setVal_same] at hM
        simp only at hM
        rw [del_set, hkey] at hM
        rw [e1] at hpt ⊢
        have q5 := q.trans q3
        exact LN.nx (s := s) ⟨q5.1, hF1.trans' q5.2.1, q5.2.2⟩ hM (by omega) (by omega) (by have := del_le a.clean k; simp only; omega) : Nx base (fpC p m s) p N w (a.hold k v) w2))
      clear hC hA hC1 hA1 hl hpt e1 hF1 hL hin hkey heb heb2 hM hR j1 j2 j3 k1 k2 k3 k4 k5 k6 hlenC hlenH
      simp only [argK, argV, Bool.not_true] at *
      generalize (s.E e).val = VV at *
      generalize s.setVal e v = s1 at *
      generalize hs2 : s1.takeOut true e = s2 at *
      clear hs2
      generalize (s2.E e).held = HB at *
      generalize s2.setHeld e true = s3 at *
      generalize s3.pushLast false e = s4 at *
      go_enter Try.func13, Try.ntmps13
      go_wp2_with (first
        | (go_at_call 36; refine H1.out.mono ?_; rintro x w1 ⟨rfl, hl1⟩; obtain ⟨ch, fh, hln⟩ := HSH.out w1 hl1; have HL1 := hid hln; clear H1 HSH hl1 hln ce)
        | (go_at_call 37; refine (HPF.out _ HL1.out).mono ?_; rintro x w2 ⟨rfl, hl2⟩; have HX := hid (HND.out _ w2 HL1.out hl2); clear HPF HND hl2))
      go_end0
      exact ⟨rfl, HX.out⟩
    · have hA1 := hA.setValH hin v
      rw [hA.ref.flag false e hin] at ce
      have e1 : a.hold k v = { a with held := setL a.held k v } := by
        unfold AS.hold
        rw [← hkey, hA.findH hin]
      rw [hkey] at hA1
      have HE := hid (LN.nx (N := N) ⟨hC1, hF1, rfl⟩ hA1 (by omega) (by rw [← e1]; omega) h3)
      rw [e1]
      clear hC hA hC1 hA1 hl hpt e1 hF1 hin hkey heb hlenC hlenH
      simp only [argK, argV, Bool.not_false] at *
      generalize (s.E e).val = VV at *
      go_enter Try.func13, Try.ntmps13
      go_wp2
      refine bodyPost_ret (results_none rfl _ _ _) rfl ?_
      exact ⟨rfl, HE.out⟩
end Go.Proofs.Ytbpamknebjdicaa
