import Derived.Test.YtihkjfbhmlfonaaSa
namespace Go.Proofs.Ytihkjfbhmlfonaa.Ca
set_option linter.unusedVariables false
set_option linter.unusedSimpArgs false
open Go.RowKit
attribute [local go_sem ↓] Go.wp_at_zero Go.wp_at_succ

/-- The last clean one goes. -/
def CS.gone1 (s : CSi) : CSi := { s with gone := s.gone + 1 }
theorem Abs.goes {s : CSi} {L : Bool → List Nat} {a : AS Int Ct} (h : Abs s L none a) {A : List Nat} {e : Nat} (hL : L true = A ++ [e]) :
    Abs ((s.takeOut true e).drop (s.E e).key).gone1 (updL L true A) none { a with clean := a.clean.take A.length, gone := a.gone + 1 } := by
  have hm := Sm.takeOut s true e
  have hR := h.ref.take (B := []) hL
  have hR2 := hR.drop
  rw [hm.key, List.append_nil] at hR2
  have hR3 : Ref ((s.takeOut true e).drop (s.E e).key).gone1 (updL L true A) none := hR2.same (fun r => by cases r <;> rfl) rfl rfl (fun b => ⟨rfl, rfl⟩) (fun b => rfl) (fun r b _ => rfl)
  have hk : ∀ l, kvs ((s.takeOut true e).drop (s.E e).key).gone1 l = kvs s l := fun l => kvs_congr fun b _ => ⟨hm.key b, hm.val b⟩
  refine ⟨hR3, hm.room.trans h.room, ?_, ?_, hm.hits.trans h.hits, hm.misses.trans h.misses, ?_⟩
  · rw [updL_same, hk, ← h.clean, hL, kvs_append, List.take_append_of_le_length (by rw [kvs_length]; exact Nat.le_refl _), List.take_of_length_le (by rw [kvs_length]; exact Nat.le_refl _)]
  · rw [updL_ne _ _ (by decide), hk]; exact h.held
  · show (s.takeOut true e).gone + 1 = _; rw [hm.gone, h.gone]; push_cast; rfl
theorem Abs.lenC {s : CSi} {L : Bool → List Nat} {x : Option Nat} {a : AS Int Ct} (h : Abs s L x a) : (L true).length = a.clean.length := by rw [← h.clean, kvs_length]
theorem Abs.lenH {s : CSi} {L : Bool → List Nat} {x : Option Nat} {a : AS Int Ct} (h : Abs s L x a) : (L false).length = a.held.length := by rw [← h.held, kvs_length]
theorem drop_end {base p m n : Nat} {s s' s3 : CSi} {w wr w3 w4 : World} {e : Nat} (h1 : LN base p m n s w s' wr) (h2 : LN base p m n s' wr.drew s3 w3) (he : e ∈ s3.bs) (h4 : CK w4 base p m n (s3.drop (s3.E e).key)) (hF : Fr (fpC p m s3) w3.drew w4) :
    (w4.cell? ⟨p, 1, none⟩ = some (.map (some m)) ∧ w4.cell? ⟨e, 0, none⟩ = some (argK (s3.E e).key)) ∧ LN base p m n s w (s3.drop (s3.E e).key) w4 := by
  have h3 := h1.trans h2.undrew
  refine ⟨⟨h4.c1, h4.ek (b := e) he⟩, h4, h3.2.1.trans' ?_, h3.2.2⟩
  rw [show fpC p m s3 = fpC p m s by simp [fpC, h3.2.2]] at hF
  exact ⟨hF.os, hF.tape, hF.output, hF.size, hF.block⟩
theorem gone_end {base p m n : Nat} {s s3 : CSi} {w w4 : World} (h : LN base p m n s w s3 w4) : w4.cell? ⟨p, 10, none⟩ = some (.int .i64 s3.gone) ∧ w4.frozen? ⟨p, 10, none⟩ = false ∧ LN base p m n s w s3.gone1 (w4.setCell ⟨p, 10, none⟩ (.int .i64 (s3.gone + 1))) :=
  ⟨h.1.c10, h.1.fz 10, h.1.setGone _, h.2.1.setCell (mem_p p m s) _ _, h.2.2⟩
/-- What a call leaves. -/
def LA (base p m n : Nat) (s : CSi) (w : World) (a : AS Int Ct) (w' : World) : Prop := ∃ t L, LN base p m n s w t w' ∧ Abs t L none a
set_option maxRecDepth 100000 in
set_option maxHeartbeats 1000000 in
theorem trim_any (w : World) (base p m n : Nat) (s : CSi) (h : CK w base p m n s) (L : Bool → List Nat) (a : AS Int Ct) (hA : Abs s L none a) (hl : a.tot < 4000000000000000000) :
    Calls Try.prog 70 #[.pointer (some ⟨p, 0, none⟩)] w fun x w' => x = .returned (.tuple #[]) ∧ LA base p m n s w a.trim w' := by
  obtain ⟨N, hN⟩ : ∃ N, N = a.clean.length := ⟨_, rfl⟩
  have HA := hid hA
  have HC := hid h
  have HL := hid hl
  have HNN := hid hN
  clear h hA hl hN
  go_enter Try.func70, Try.ntmps70
  go_wp2
  go_loopw [2] (fun _ wr => ∃ j s' L', j ≤ N ∧ (j = N ∨ a.room ≤ j) ∧ LN base p m n s w s' wr ∧ Abs s' L' none { a with clean := a.clean.take j, gone := a.gone + (N - j) }) (fun _ wr => (intOf ((wr.cell? ⟨p, 4, none⟩).getD undef)).toNat)
  case atStart =>
    refine ⟨N, s, L, Nat.le_refl _, Or.inl rfl, ⟨HC.out, Fr.refl _ _, rfl⟩, ?_⟩
    have := HA.out
    rw [HNN.out, List.take_of_length_le (Nat.le_refl _), Nat.sub_self]
    exact this
  case round =>
    obtain ⟨j, s', L', hj, hor, hLN, hAb⟩ := hrel
    have c0 := hLN.1.c0
    have c4 := hLN.1.c4
    have hcnt : s'.cl.count = j := by
      have := (hAb.ref.row true).count
      rw [hAb.lenC] at this
      simp only [List.length_take] at this
      show (s'.row true).count = _
      rw [this, Nat.min_eq_left (by have := HNN.out; omega)]
    rw [hcnt] at c4
    rw [hAb.room] at c0
    simp only at c0
    have HAb := hid hAb
    have HLN := hid hLN
    clear hAb hLN
    by_cases hlt : a.room < j
    · have i1 : (a.room : Int) < (j : Int) := by omega
      have hne : L' true ≠ [] := fun q => by have := HAb.out.lenC; rw [q] at this; simp at this; have := HNN.out; omega
      obtain ⟨A, e, hL⟩ : ∃ A e, L' true = A ++ [e] := (List.eq_nil_or_concat (L' true)).resolve_left hne |>.imp fun A h => h.imp fun e h => by rw [h]; simp
      have hlen : A.length + 1 = j := by
        have := HAb.out.lenC
        rw [hL] at this
        simp at this
        have := HNN.out
        omega
      have ht : AS.tot { a with clean := a.clean.take j, gone := a.gone + (N - j) } = a.tot := by
        unfold AS.tot
        simp only [List.length_take]
        have := HNN.out
        omega
      have hlL : (L' true).length < 4000000000000000000 := by
        rw [HAb.out.lenC]
        have h1 := HL.out
        rw [← ht] at h1
        unfold AS.tot at h1
        simp only at h1 ⊢
        omega
      have hgl : 0 ≤ s'.gone ∧ s'.gone < 4000000000000000000 := by
        rw [HAb.out.gone]
        have h1 := HL.out
        rw [← ht] at h1
        unfold AS.tot at h1
        simp only at h1 ⊢
        omega
      obtain ⟨k1, k2, k3, k4, k5, k6⟩ := HAb.out.ref.takeOk (B := []) hL hlL
      have c3 := HLN.out.1.c3
      rw [show s'.cl.last = some e by have := (HAb.out.ref.row true).last; rw [hL, List.getLast?_append] at this; exact this] at c3
      have H1 := hid (takeOut_any wr.drew base p m n s' HLN.out.1.drew true e k1 k2 k3 k4 k5 k6 2 rfl)
      have HG := hid (HAb.out.goes hL)
      have HKW := hid (HLN.out.1.kwf e k1)
      have hsm := Sm.takeOut s' true e
      have hek := hsm.key e
      have hgn := hsm.gone
      have HE := hid (show e ∈ (s'.takeOut true e).bs by rw [hsm.bs]; exact k1)
      have g1 := hgl.1
      have g2 := hgl.2
      clear k1 k2 k3 k4 k5 k6 hlL hgl ht hne hL
      generalize hs3 : s'.takeOut true e = s3 at *
      clear hs3 hsm
      rw [← hek] at HKW HG
      generalize hk : (s3.E e).key = k at *
      have HDE := hid (fun w3 (q : LN base p m n s' wr.drew s3 w3) w4 a b => drop_end (e := e) HLN.out q HE.out (w4 := w4) a b)
      have HCK := hid (fun w3 (q : LN base p m n s' wr.drew s3 w3) => (⟨q.1.c1, q.1.ek HE.out⟩ : w3.cell? ⟨p, 1, none⟩ = some (.map (some m)) ∧ w3.cell? ⟨e, 0, none⟩ = some (argK (s3.E e).key)))
      rw [hk] at HDE HCK
      have HGE := hid (fun w4 (q : LN base p m n s w (s3.drop k) w4) => gone_end q)
      rw [show (s3.drop k).gone = s3.gone from rfl, hgn] at HGE
      clear hgn hk hek
      generalize s'.gone = G at *
      simp only [optr] at c3
      have HC4 := hid c4
      go_wp2
      go_region_held3 (fun w' => w'.cell? ⟨p, 0, none⟩ = some (.int .i64 a.room) ∧ w'.cell? ⟨p, 4, none⟩ = some (.int .i64 j)) (go_keep) (fail)
      go_wp2_with (first
        | (go_at_call 66; refine H1.out.mono ?_; rintro x w3 ⟨rfl, hl3⟩; clear H1; have HS := hid (HCK.out w3 hl3); have HD := hid (show CK w3 base p m n s3 ∧ wfK k ∧ _ from ⟨hl3.1, HKW.out, HDE.out w3 hl3⟩); clear HCK HDE hl3 c0 c3 c4))
      refine wp_region_noPanic ?_
      refine wp_region_held_drew (S := fun w' => w'.cell? ⟨p, 1, none⟩ = some (.map (some m)) ∧ w'.cell? ⟨e, 0, none⟩ = some (argK k)) (by kernel_rfl) HS.out (fun hHeld => ?_)
      refine wpAnyH_take (i := 0) (oi := { dst := some 23, op := Op.move (Operand.tmp 0), type := 76, pos := "cache.go:120", after := #[], guard := none }) (v := .pointer (some ⟨p, 0, none⟩)) rfl (by kernel_rfl) (by kernel_rfl) (by kernel_rfl) (fun _ _ _ h => h) (Or.inl ⟨by rfl, by intro w hS; go_simp⟩) hHeld ?_
      try simp only [Act.put, List.setIfInBounds_toArray, List.set_cons_zero, List.set_cons_succ]
      refine wpAnyH_take (i := 4) (oi := { dst := some 27, op := Op.move (Operand.tmp 2), type := 104, pos := "cache.go:120", after := #[], guard := none }) (v := .pointer (some ⟨e, 0, none⟩)) rfl (by kernel_rfl) (by kernel_rfl) (by kernel_rfl) (fun _ _ _ h => h) (Or.inl ⟨by rfl, by intro w hS; go_simp⟩) hHeld ?_
      try simp only [Act.put, List.setIfInBounds_toArray, List.set_cons_zero, List.set_cons_succ]
      refine wpAnyH_take (i := 1) (oi := { dst := some 24, op := Op.nilCheck (Operand.tmp 23), type := 0, pos := "cache.go:120", after := #[{ on := 0, ground := Ground.data }], guard := none }) (v := .pointer (some ⟨p, 0, none⟩)) rfl (by kernel_rfl) (by kernel_rfl) (by kernel_rfl) (fun _ _ _ h => h) (Or.inl ⟨by rfl, by intro w hS; go_simp⟩) hHeld ?_
      try simp only [Act.put, List.setIfInBounds_toArray, List.set_cons_zero, List.set_cons_succ]
      refine wpAnyH_take (i := 5) (oi := { dst := some 28, op := Op.nilCheck (Operand.tmp 27), type := 0, pos := "cache.go:120", after := #[{ on := 4, ground := Ground.data }], guard := none }) (v := .pointer (some ⟨e, 0, none⟩)) rfl (by kernel_rfl) (by kernel_rfl) (by kernel_rfl) (fun _ _ _ h => h) (Or.inl ⟨by rfl, by intro w hS; go_simp⟩) hHeld ?_
      try simp only [Act.put, List.setIfInBounds_toArray, List.set_cons_zero, List.set_cons_succ]
      refine wpAnyH_take (i := 2) (oi := { dst := some 25, op := Op.fieldAddr 108 (Operand.tmp 24) 1, type := 0, pos := "cache.go:120", after := #[{ on := 1, ground := Ground.data }], guard := none }) (v := .pointer (some ⟨p, 1, none⟩)) rfl (by kernel_rfl) (by kernel_rfl) (by kernel_rfl) (fun _ _ _ h => h) (Or.inl ⟨by rfl, by intro w hS; go_simp⟩) hHeld ?_
      try simp only [Act.put, List.setIfInBounds_toArray, List.set_cons_zero, List.set_cons_succ]
      refine wpAnyH_take (i := 6) (oi := { dst := some 29, op := Op.fieldAddr 125 (Operand.tmp 28) 0, type := 0, pos := "cache.go:120", after := #[{ on := 5, ground := Ground.data }], guard := none }) (v := .pointer (some ⟨e, 0, none⟩)) rfl (by kernel_rfl) (by kernel_rfl) (by kernel_rfl) (fun _ _ _ h => h) (Or.inl ⟨by rfl, by intro w hS; go_simp⟩) hHeld ?_
      try simp only [Act.put, List.setIfInBounds_toArray, List.set_cons_zero, List.set_cons_succ]
      refine wpAnyH_take (i := 3) (oi := { dst := some 26, op := Op.load 103 (Operand.tmp 25), type := 103, pos := "cache.go:120", after := #[{ on := 2, ground := Ground.data }], guard := none }) (v := .map (some m)) rfl (by kernel_rfl) (by kernel_rfl) (by kernel_rfl) (fun _ _ _ h => h) (Or.inl ⟨by rfl, by intro w hS; have hc := hS.1; go_simp⟩) hHeld ?_
      try simp only [Act.put, List.setIfInBounds_toArray, List.set_cons_zero, List.set_cons_succ]
      refine wpAnyH_take (i := 7) (oi := { dst := some 30, op := Op.load 3 (Operand.tmp 29), type := 3, pos := "cache.go:120", after := #[{ on := 6, ground := Ground.data }], guard := none }) (v := argK k) rfl (by kernel_rfl) (by kernel_rfl) (by kernel_rfl) (fun _ _ _ h => h) (Or.inl ⟨by rfl, by intro w hS; have hc := hS.2; go_simp⟩) hHeld ?_
      try simp only [Act.put, List.setIfInBounds_toArray, List.set_cons_zero, List.set_cons_succ]
      refine wpAnyH_ready (rs := [8]) (by kernel_rfl) (by simp) ?_
      refine (AllReadyH.cons (o := { dst := none, op := Op.call { callee := Callee.builtin Builtin.delete, args := #[Operand.tmp 26, Operand.tmp 30], argTypes := #[103, 3] }, type := 0, pos := "cache.go:120", after := #[{ on := 3, ground := Ground.data }, { on := 7, ground := Ground.data }], guard := none }) rfl (fun K hK => ?_) AllReadyH.nil)
      refine step_drop (by rfl) (.tmp 26) (.tmp 30) (by rfl) base p m n s3 HD.out.1.drew (by rfl) k (by rfl) HD.out.2.1 ?_
      intro w4 hC4 hF4
      have HP4 := hid (HD.out.2.2 w4 hC4 hF4)
      clear hC4 hF4
      refine hK.out _ _ (HP4.out.1) (fun hHeld2 => ?_)
      clear hK K hHeld
      have hHeld := hHeld2
      clear hHeld2
      have hLN4 := HP4.out.2
      clear HP4 HD HS
      obtain ⟨c10, f10, hL5⟩ := HGE.out w4 hLN4
      clear HGE hLN4
      try simp only [Act.put, List.setIfInBounds_toArray, List.set_cons_zero, List.set_cons_succ]
      refine wpAnyH_done (by kernel_rfl) ?_ _
      refine NoPanic.normal ?_
      go_wp2
      go_roundw
      case rel => exact ⟨j - 1, _, _, by omega, Or.inr (by omega), hL5, by
        have := HG.out
        rw [show A.length = j - 1 by omega] at this
        simp only [List.take_take] at this
        rw [show min (j - 1) j = j - 1 by omega, show a.gone + (N - j) + 1 = a.gone + (N - (j - 1)) by omega] at this
        exact this⟩
      case measure =>
        have e1 := hL5.1.c4
        have e2 := (HG.out.ref.row true).count
        rw [updL_same] at e2
        rw [show ((s3.drop k).gone1).cl.count = (A.length : Int) from e2] at e1
        rw [e1, HC4.out]
        simp [intOf]
        omega
    · have i1 : ¬ (a.room : Int) < (j : Int) := by omega
      go_wp2
      go_region_held3 (fun w' => w'.cell? ⟨p, 0, none⟩ = some (.int .i64 a.room) ∧ w'.cell? ⟨p, 4, none⟩ = some (.int .i64 j)) (go_keep) (fail)
      go_wp2
      go_end0
      refine ⟨rfl, s', L', ⟨HLN.out.1.drew, ⟨HLN.out.2.1.os, HLN.out.2.1.tape, HLN.out.2.1.output, HLN.out.2.1.size, HLN.out.2.1.block⟩, HLN.out.2.2⟩, ?_⟩
      have := HAb.out
      have hN := HNN.out
      have : a.trim = { a with clean := a.clean.take j, gone := a.gone + (N - j) } := by
        unfold AS.trim
        rcases hor with q | q
        · rw [List.take_of_length_le (by omega), List.take_of_length_le (by omega), show a.clean.length - a.room = N - j by omega]
        · rw [show j = a.room by omega, hN]
      rw [this]
      assumption
end Go.Proofs.Ytihkjfbhmlfonaa.Ca
namespace Go.Proofs.Ytihkjfbhmlfonaa.Ca
set_option linter.unusedVariables false
set_option linter.unusedSimpArgs false
open Go.RowKit
attribute [local go_sem ↓] Go.wp_at_zero Go.wp_at_succ

theorem zero_pentry (w : World) : (zeroValue 104).run Try.prog w = .ok (.pointer none) w := by kernel_rfl
theorem CK.look_no {w : World} {base p m n : Nat} {s : CSi} (h : CK w base p m n s) {k : Int} (hk : wfK k) (hl : s.look k = none) : (Instr.lookup 103 (.map (some m)) (argK k) true).run Try.prog w = .ok (.tuple #[.pointer none, .bool false]) w := by
  obtain ⟨M, hm, hM⟩ := h.mp
  obtain ⟨v, ps, hrun, hv⟩ := hm.look_ok keyedK Try.underlying103 (zero_pentry w) PR_none (keyOfK hk).2
  obtain ⟨e1, e2⟩ := hM.no k hk hl
  rw [e2] at hv
  rw [hrun, e1, PR_inv0 hv]
theorem CK.look_yes {w : World} {base p m n : Nat} {s : CSi} (h : CK w base p m n s) {k : Int} (hk : wfK k) {b : Nat} (hl : s.look k = some b) : (Instr.lookup 103 (.map (some m)) (argK k) true).run Try.prog w = .ok (.tuple #[.pointer (some ⟨b, 0, none⟩), .bool true]) w := by
  obtain ⟨M, hm, hM⟩ := h.mp
  obtain ⟨v, ps, hrun, hv⟩ := hm.look_ok keyedK Try.underlying103 (zero_pentry w) PR_none (keyOfK hk).2
  obtain ⟨e1, e2⟩ := hM.yes k b hk hl
  rw [e2] at hv
  rw [hrun, e1, PR_inv hv]
theorem del_set (l : List (Int × Ct)) (k : Int) (v : Ct) : delL (setL l k v) k = delL l k := by
  induction l with
  | nil => rfl
  | cons x l ih =>
    unfold delL setL at *
    rw [List.map_cons, List.filter_cons, List.filter_cons]
    by_cases h : x.1 = k
    · simp only [h, if_true, decide_true, Bool.not_true, Bool.false_eq_true, if_false]; exact ih
    · simp only [h, if_false, decide_false, Bool.not_false, if_true]; rw [ih]
/-- A clean one is used. -/
theorem Abs.use {s t : CSi} {L : Bool → List Nat} {a : AS Int Ct} (h : Abs s L none a) {A B : List Nat} {e : Nat} (hL : L true = A ++ e :: B) (hm : Sm s t) (hR : Ref t (updL L true (e :: (A ++ B))) none) :
    Abs t (updL L true (e :: (A ++ B))) none { a with clean := ((s.E e).key, (s.E e).val) :: delL a.clean (s.E e).key } := by
  refine ⟨hR, hm.room.trans h.room, ?_, ?_, hm.hits.trans h.hits, hm.misses.trans h.misses, hm.gone.trans h.gone⟩
  · rw [updL_same, kvs_sm hm, kvs_cons, ← h.clean, hL, h.ref.del_at hL]
  · rw [updL_ne _ _ (by decide), kvs_sm hm]; exact h.held
theorem Abs.use_len {s : CSi} {L : Bool → List Nat} {a : AS Int Ct} (h : Abs s L none a) {A B : List Nat} {e : Nat} (hL : L true = A ++ e :: B) (v : Ct) : (((s.E e).key, v) :: delL a.clean (s.E e).key).length = a.clean.length := by
  rw [← h.clean, hL, h.ref.del_at hL]; simp [kvs]; omega
theorem Abs.findH_no {s : CSi} {L : Bool → List Nat} {a : AS Int Ct} (h : Abs s L none a) {k : Int} (hk : s.look k = none) : findL a.held k = none := by rw [← h.held]; exact h.ref.find_no hk false
theorem Abs.findC_no {s : CSi} {L : Bool → List Nat} {a : AS Int Ct} (h : Abs s L none a) {k : Int} (hk : s.look k = none) : findL a.clean k = none := by rw [← h.clean]; exact h.ref.find_no hk true
theorem Abs.findH {s : CSi} {L : Bool → List Nat} {a : AS Int Ct} (h : Abs s L none a) {e : Nat} (he : e ∈ L false) : findL a.held (s.E e).key = some (s.E e).val := by rw [← h.held]; exact h.ref.find_yes he
theorem Abs.findC {s : CSi} {L : Bool → List Nat} {a : AS Int Ct} (h : Abs s L none a) {e : Nat} (he : e ∈ L true) : findL a.clean (s.E e).key = some (s.E e).val ∧ findL a.held (s.E e).key = none := by rw [← h.clean, ← h.held]; exact ⟨h.ref.find_yes he, h.ref.find_other he (by decide)⟩
theorem Abs.hit {s : CSi} {L : Bool → List Nat} {a : AS Int Ct} (h : Abs s L none a) : Abs { s with hits := s.hits + 1 } L none { a with hits := a.hits + 1 } :=
  ⟨h.ref.same (fun r => by cases r <;> rfl) rfl rfl (fun b => ⟨rfl, rfl⟩) (fun b => rfl) (fun r b _ => rfl), h.room, h.clean, h.held, by show s.hits + 1 = _; rw [h.hits]; push_cast; rfl, h.misses, h.gone⟩
theorem Abs.miss {s : CSi} {L : Bool → List Nat} {a : AS Int Ct} (h : Abs s L none a) : Abs { s with misses := s.misses + 1 } L none { a with misses := a.misses + 1 } :=
  ⟨h.ref.same (fun r => by cases r <;> rfl) rfl rfl (fun b => ⟨rfl, rfl⟩) (fun b => rfl) (fun r b _ => rfl), h.room, h.clean, h.held, h.hits, by show s.misses + 1 = _; rw [h.misses]; push_cast; rfl, h.gone⟩
theorem Abs.setValC {s : CSi} {L : Bool → List Nat} {a : AS Int Ct} (h : Abs s L none a) {e : Nat} (he : e ∈ L true) (v : Ct) : Abs (s.setVal e v) L none { a with clean := setL a.clean (s.E e).key v } :=
  ⟨h.ref.setVal e v, h.room, by rw [← h.ref.set_at he, h.clean], by rw [kvs_setVal_other (h.ref.dis e he)]; exact h.held, h.hits, h.misses, h.gone⟩
theorem Abs.setValH {s : CSi} {L : Bool → List Nat} {a : AS Int Ct} (h : Abs s L none a) {e : Nat} (he : e ∈ L false) (v : Ct) : Abs (s.setVal e v) L none { a with held := setL a.held (s.E e).key v } :=
  ⟨h.ref.setVal e v, h.room, by rw [kvs_setVal_other (fun q => h.ref.dis e q he)]; exact h.clean, by rw [← h.ref.set_at he, h.held], h.hits, h.misses, h.gone⟩
theorem E_setVal_same (s : CSi) (e : Nat) (v : Ct) : (s.setVal e v).E e = { s.E e with val := v } := by rw [CS.setVal, E_setE, if_pos rfl]
/-- A cache in memory, its footprint and its pointer. -/
def CA (w : World) (base : Nat) (F : List Nat) (p : Nat) (N : Nat) (a : AS Int Ct) : Prop :=
  ∃ m n s L, F = fpC p m s ∧ CK w base p m n s ∧ Abs s L none a ∧ n ≤ N ∧ a.tot ≤ N ∧ a.clean.length ≤ a.room
theorem CK.lt {w : World} {base p m n : Nat} {s : CSi} (h : CK w base p m n s) : ∀ k ∈ fpC p m s, base ≤ k ∧ k < w.heap.size := by
  intro k hk
  obtain ⟨M, hm, _⟩ := h.mp
  simp only [fpC, List.mem_cons] at hk
  rcases hk with rfl | rfl | e
  · exact ⟨h.bp, hlt h.cell⟩
  · exact ⟨h.bm, hm.lt⟩
  · exact ⟨h.bb k e, hlt (h.ents k e)⟩
theorem CA.lt {w : World} {base : Nat} {F : List Nat} {p N : Nat} {a : AS Int Ct} (h : CA w base F p N a) : ∀ k ∈ F, base ≤ k ∧ k < w.heap.size := by
  obtain ⟨m, n, s, L, rfl, h, _⟩ := h; exact h.lt
theorem CK.of_heap {w w1 : World} {base p m n : Nat} {s : CSi} (h : CK w base p m n s) (hk : ∀ k ∈ fpC p m s, w1.heap[k]? = w.heap[k]?) : CK w1 base p m n s := by
  obtain ⟨M, hm, hM⟩ := h.mp
  exact ⟨(hk p (mem_p p m s)).trans h.cell, fun b hb => (hk b (mem_b hb)).trans (h.ents b hb), ⟨M, ownsMap_heap' hm (hk m (mem_m p m s)), hM⟩, h.kwf, h.bp, h.bm, h.bb⟩
theorem CA.other {w w1 : World} {base : Nat} {F G : List Nat} {p N : Nat} {a : AS Int Ct} (h : CA w base G p N a) (hf : Fr F w w1) (ha : Apart F G) : CA w1 base G p N a := by
  have hl := h.lt
  obtain ⟨m, n, s, L, rfl, h, r⟩ := h
  exact ⟨m, n, s, L, rfl, h.of_heap fun i hi => hf.block i (hl i hi).2 (fun e => ha i e hi), r⟩
theorem CA.below {w w1 : World} {base : Nat} {F : List Nat} {p N : Nat} {a : AS Int Ct} (h : CA w base F p N a) (hb : Below w.heap.size w w1) : CA w1 base F p N a := by
  have hl := h.lt
  obtain ⟨m, n, s, L, rfl, h, r⟩ := h
  exact ⟨m, n, s, L, rfl, h.of_heap fun i hi => hb.block i (hl i hi).2, r⟩
theorem CA.mono {w : World} {base : Nat} {F : List Nat} {p N N' : Nat} {a : AS Int Ct} (h : CA w base F p N a) (hn : N ≤ N') : CA w base F p N' a := by
  obtain ⟨m, n, s, L, rfl, h, r1, r2, r3, r4⟩ := h
  exact ⟨m, n, s, L, rfl, h, r1, by omega, by omega, r4⟩
/-- What a call leaves. -/
def Nx (base : Nat) (F : List Nat) (p N : Nat) (w : World) (a : AS Int Ct) (w' : World) : Prop := ∃ F', CA w' base F' p (N + 1) a ∧ Fr F w w' ∧ Gr w F F'
theorem LN.nx {base p m n N : Nat} {s t : CSi} {w w' : World} {L : Bool → List Nat} {a : AS Int Ct} (h : LN base p m n s w t w') (hA : Abs t L none a) (h1 : n ≤ N + 1) (h2 : a.tot ≤ N + 1) (h3 : a.clean.length ≤ a.room) : Nx base (fpC p m s) p N w a w' :=
  ⟨fpC p m t, ⟨m, n, t, L, rfl, h.1, hA, h1, h2, h3⟩, h.2.1, by rw [show fpC p m t = fpC p m s by simp [fpC, h.2.2]]; exact Gr.refl _ _⟩
theorem get_tot (a : AS Int Ct) (k : Int) : (a.get k).tot ≤ a.tot + 1 := by
  unfold AS.get
  split
  · unfold AS.tot; simp only; omega
  · split
    · rename_i v hv
      have : (delL a.clean k).length < a.clean.length := by
        unfold delL
        refine List.length_filter_lt_length_iff_exists.2 ?_
        simp only [findL, Option.map_eq_some_iff] at hv
        obtain ⟨x, hx, _⟩ := hv
        exact ⟨x, List.mem_of_find?_eq_some hx, by have := List.find?_some hx; simpa using this⟩
      unfold AS.tot; simp only [List.length_cons]; omega
    · unfold AS.tot; simp only; omega
theorem mem_split' {l : List Nat} {e : Nat} (h : e ∈ l) : ∃ A B, l = A ++ e :: B := List.append_of_mem h
theorem Ref.look_in {s : CSi} {L : Bool → List Nat} (h : Ref s L none) {k : Int} {b : Nat} (hl : s.look k = some b) : (b ∈ L true ∨ b ∈ L false) ∧ (s.E b).key = k := by
  obtain ⟨a, c⟩ := h.only k b hl
  obtain ⟨r, hr⟩ := a.resolve_right (by simp)
  exact ⟨by cases r; exact Or.inr hr; exact Or.inl hr, c⟩
theorem wpList_allocV {P : Program} {t : TypeId} {Z : List Value} (hz : ∀ (a : Act) (o : Oper) (w : World), o.op = .alloc t → (execOp a.eval o).run P w = .ok (.value (.pointer (some ⟨w.heap.size, 0, none⟩))) (w.alloc (.cells Z.toArray t)))
    {ops : Array Oper} {rest : List Oper} {o : Oper} {a : Act} {w : World} {Q : Exit → Act → World → Prop} (hg : o.guard = none) (ho : o.op = .alloc t)
    (h : wpList P ops Q rest (a.put o.dst (.pointer (some ⟨w.heap.size, 0, none⟩))) (w.alloc (.cells Z.toArray t))) : wpList P ops Q (o :: rest) a w := by
  refine wpList_plain hg fun K hK => ?_
  unfold Oper.wp
  rw [hz a o w ho]
  exact hK _ _ h
theorem results_c2 {P : Program} {fn : Func} {p q : Tmp} {ty : TypeId} (h : fn.results = #[.cell p ty, .tmp q]) (tmps : Array Value) (w : World) (g : Nat) (t : TypeId) (cs : Array Value) (fr : Nat × Nat) (d : TypeDesc)
    (hp : tmps.getD p undef = .pointer (some ⟨g, 0, none⟩)) (hg : w.heap[g]? = some (.cells cs t fr))
    (hu : P.underlying ty = some d) (hd : (match d with | .struct _ | .array _ _ => true | _ => false) = true) (hi : (P.info? ty).map (·.size) = some cs.size) :
    (results fn tmps).run P w = .ok (.tuple #[.agg cs, tmps.getD q undef]) w := by
  have hp' : tmps[p]?.getD undef = .pointer (some ⟨g, 0, none⟩) := by simpa using hp
  simp [results, h, hp', asAddr, run_loadVar_row w g t ty cs fr d hg hu hd hi]
theorem allocCt (a : Act) (o : Oper) (w : World) (ho : o.op = .alloc 81) : (execOp a.eval o).run Try.prog w = .ok (.value (.pointer (some ⟨w.heap.size, 0, none⟩))) (w.alloc (.cells (ctC ct0).toArray 81)) := by
  unfold execOp
  rw [ho]
  kernel_rfl
theorem CA.not_in {w : World} {base : Nat} {F : List Nat} {p N : Nat} {a : AS Int Ct} (h : CA w base F p N a) {b : Nat} {cs : Array Value} {t : TypeId} {fr : Nat × Nat} (hb : w.heap[b]? = some (.cells cs t fr)) (h1 : t ≠ 108) (h2 : t ≠ 125) : b ∉ F := by
  obtain ⟨m, n, s, L, rfl, h, _⟩ := h
  intro e
  simp only [fpC, List.mem_cons] at e
  rcases e with e | e | e
  · exact ne_ty hb h.cell h1 e
  · obtain ⟨M, ⟨es, clock, hm, _⟩, _⟩ := h.mp
    rw [← e, hb] at hm; cases hm
  · exact ne_ty hb (h.ents b e) h2 rfl
/-- A block of the call's own is written besides. -/
theorem Nx.res {base : Nat} {F : List Nat} {p N : Nat} {w w2 w3 : World} {o : Obj} {a : AS Int Ct} (h : Nx base F p N (w.alloc o) a w2) {cs : Array Value} {fr : Nat × Nat} (hr : w2.heap[w.heap.size]? = some (.cells cs 81 fr)) (hf : Fr [w.heap.size] w2 w3) : Nx base F p N w a w3 := by
  obtain ⟨F', h1, h2, h3⟩ := h
  have hn : w.heap.size ∉ F' := h1.not_in hr (by decide) (by decide)
  have hs : w.heap.size ≤ (w.alloc o).heap.size := by simp
  refine ⟨F', h1.other hf (fun i hi e => hn (List.mem_singleton.1 hi ▸ e)), ?_, fun i hi => (h3 i hi).imp id (fun q => Nat.le_trans hs q)⟩
  refine ⟨hf.os.trans h2.os, hf.tape.trans h2.tape, hf.output.trans h2.output, Nat.le_trans hs (Nat.le_trans h2.size hf.size), fun i hi hni => ?_⟩
  have e1 := hf.block i (Nat.lt_of_lt_of_le hi (Nat.le_trans hs h2.size)) (fun q => by have := List.mem_singleton.1 q; omega)
  have e2 := h2.block i (by omega) hni
  rw [e1, e2]
  have : (w.alloc o).heap[i]? = w.heap[i]? := by
    show (w.heap.push _)[i]? = _
    rw [Array.getElem?_push, if_neg (by omega)]
  exact this
theorem fr_setRow (w : World) (g : Nat) (cs : Array Value) : Fr [g] w (w.setRow g cs) := ⟨rfl, rfl, rfl, by rw [setRow_size]; exact Nat.le_refl _, fun k hk hn => setRow_other w g k cs (fun e => hn (List.mem_singleton.2 e))⟩
theorem _root_.Go.Proofs.Ytihkjfbhmlfonaa.Fr.alloc1 {F : List Nat} {a b : World} (h : Fr F a b) (o : Obj) : Fr F a (b.alloc o) := h.trans' (Fr.alloc' F b o)
theorem alloc_row {w : World} {g : Nat} {cs : Array Value} {t : TypeId} {fr : Nat × Nat} (h : w.heap[g]? = some (.cells cs t fr)) (o : Obj) : (w.alloc o).heap[g]? = some (.cells cs t fr) := hold h
set_option maxRecDepth 100000 in
set_option maxHeartbeats 2000000 in
theorem Get_any (w : World) (base : Nat) (F : List Nat) (p N : Nat) (a : AS Int Ct) (h : CA w base F p N a) (k : Int) (hk : wfK k) (hN : N < 4000000000000000000) :
    Calls Try.prog 47 #[.pointer (some ⟨p, 0, none⟩), argK k] w fun x w' => x = .returned (.tuple #[argV ((a.val k).getD ct0), .bool (a.val k).isSome]) ∧ Nx base F p N w (a.get k) w' := by
  have hz := h.below ((Below.refl w.heap.size w).alloc (Nat.le_refl _) (.cells (ctC ct0).toArray 81))
  have r0 := hnew w (.cells (ctC ct0).toArray 81)
  have hl0 := hlt r0
  have HNS := hid (fun (w2 w3 : World) (q : Nx base F p N (w.alloc (.cells (ctC ct0).toArray 81)) (a.get k) w2) (f : Fr [w.heap.size] w2 w3) (cs : Array Value) (r : w2.heap[w.heap.size]? = some (.cells cs 81 (0, 0))) => Nx.res q r f)
  have hnf : w.heap.size ∉ F := fun e => by have := (h.lt _ e).2; omega
  have AC := hid allocCt
  have L0 := hid (show (ctC ct0).length = 2 from rfl)
  have OZ := hid (ctC_one ct0)
  have S0 := hid (show (Try.prog.info? 81).map (·.size) = some (ctC ct0).toArray.size by rw [sizeCt]; rfl)
  clear h
  obtain ⟨m, n, s, L, rfl, hC, hA, h1, h2, h3⟩ := hz
  have hgt := get_tot a k
  have c1 := hC.c1
  have gp : w.heap.size ≠ p := fun e => hnf (e ▸ mem_p p m s)
  cases hl : s.look k with
  | none =>
    have hlk := hC.look_no hk hl
    have c9 := hC.c9
    have f9 := hC.fz 9
    have e1 : a.get k = { a with misses := a.misses + 1 } := by unfold AS.get; rw [hA.findH_no hl]; simp only; rw [hA.findC_no hl]
    have e2 : a.val k = none := by unfold AS.val; rw [hA.findH_no hl, hA.findC_no hl]; rfl
    have hE := LN.nx (N := N) ⟨hC.setMisses (s.misses + 1), (Fr.refl _ _).setCell (mem_p p m s) _ _, rfl⟩ hA.miss (by omega) (by rw [← e1]; omega) h3
    rw [← e1] at hE
    have q1 : ((w.alloc (.cells (ctC ct0).toArray 81)).setCell ⟨p, 9, none⟩ (.int .i64 (s.misses + 1))).heap[w.heap.size]? = some (.cells (ctC ct0).toArray 81 (0, 0)) := (heap_setCell_other _ _ _ _ gp).trans r0
    have q2 := alloc_row q1 (.cells (ctC ct0).toArray 81)
    have q3 := hnew ((w.alloc (.cells (ctC ct0).toArray 81)).setCell ⟨p, 9, none⟩ (.int .i64 (s.misses + 1))) (.cells (ctC ct0).toArray 81)
    have HE := hid (HNS.out _ (((((w.alloc (.cells (ctC ct0).toArray 81)).setCell ⟨p, 9, none⟩ (.int .i64 (s.misses + 1))).alloc (.cells (ctC ct0).toArray 81))).setRow w.heap.size (ctC ct0).toArray) hE ((Fr.alloc' _ _ _).trans' (fr_setRow _ _ _)) _ q1)
    rw [e2]
    have g1 : 0 ≤ s.misses := by rw [hA.misses]; omega
    have g2 : s.misses < 4000000000000000000 := by rw [hA.misses]; unfold AS.tot at h2; omega
    clear hC hA hE hl hgt e1 e2 hnf
    simp only [argK] at *
    generalize s.misses = G at *
    rw [show (Option.getD (none : Option Ct) ct0) = ct0 from rfl]
    unfold argV
    generalize ctC ct0 = Z at *
    go_enter Try.func47, Try.ntmps47
    go_wp2_with (first
      | refine wpList_allocV AC.out rfl rfl ?_
      | refine wpList_load_row_w (by rfl) 81 _ (by rfl) _ (by rfl) 81 _ _ _ q3 Try.underlying81 rfl S0.out ?_
      | refine wpList_store_row rfl 81 _ _ (by rfl) w.heap.size Z.toArray (by rfl) (by rfl) 81 _ q2 S0.out (by rfl) (all_oneCell_toArray OZ.out) ?_)
    exact bodyPost_ret (v := .tuple #[.agg Z.toArray, .bool false]) (results_c2 Try.results47 _ _ w.heap.size 81 _ _ _ rfl (setRow_heap _ _ _ _ _ _ q2) Try.underlying81 rfl S0.out) rfl ⟨rfl, HE.out⟩
  | some e =>
    obtain ⟨hin, hkey⟩ := hA.ref.look_in hl
    have heb : e ∈ s.bs := hin.elim (hA.ref.dom true e) (hA.ref.dom false e)
    have hlk := hC.look_yes hk hl
    have c8 := hC.c8
    have f8 := hC.fz 8
    have hC1 := hC.setHits (s.hits + 1)
    have hA1 := hA.hit
    have g1 : 0 ≤ s.hits := by rw [hA.hits]; omega
    have g2 : s.hits < 4000000000000000000 := by rw [hA.hits]; unfold AS.tot at h2; omega
    have hF1 : Fr (fpC p m s) (w.alloc (.cells (ctC ct0).toArray 81)) ((w.alloc (.cells (ctC ct0).toArray 81)).setCell ⟨p, 8, none⟩ (.int .i64 (s.hits + 1))) := (Fr.refl _ _).setCell (mem_p p m s) _ _
    have q1 : ((w.alloc (.cells (ctC ct0).toArray 81)).setCell ⟨p, 8, none⟩ (.int .i64 (s.hits + 1))).heap[w.heap.size]? = some (.cells (ctC ct0).toArray 81 (0, 0)) := (heap_setCell_other _ _ _ _ gp).trans r0
    rcases hin with hin | hin
    · obtain ⟨A, B, hL⟩ := mem_split' hin
      have H1 := hid (use_clean _ base p m n _ hC1 L hA1.ref A B e hL (by rw [hA1.lenC]; unfold AS.tot at h2; simp only; omega))
      have e1 : a.get k = { a with clean := (k, (s.E e).val) :: delL a.clean k, hits := a.hits + 1 } := by
        unfold AS.get
        rw [← hkey, (hA.findC hin).2]; simp only; rw [(hA.findC hin).1]
      have e2 : a.val k = some (s.E e).val := by unfold AS.val; rw [← hkey, (hA.findC hin).2, (hA.findC hin).1]; rfl
      have HE := hid (fun (t : CSi) (w' : World) (q : LN base p m n { s with hits := s.hits + 1 } ((w.alloc (.cells (ctC ct0).toArray 81)).setCell ⟨p, 8, none⟩ (.int .i64 (s.hits + 1))) t w') (x1 : Sm { s with hits := s.hits + 1 } t) (x2 : Ref t (updL L true (e :: (A ++ B))) none) => (by
        have hb : e ∈ t.bs := by rw [q.2.2]; exact heb
        have hv := q.1.ev hb
        rw [x1.val] at hv
        have hrow := (q.2.1.block _ (hlt q1) hnf).trans q1
        refine ⟨hv, hrow, ?_⟩
        have r := hA1.use hL x1 x2
        have hx := hA.use_len hL (s.E e).val
        rw [show (CS.E { s with hits := s.hits + 1 } e) = s.E e from rfl, hkey] at r
        rw [hkey] at hx
        refine HNS.out w' (w'.setRow w.heap.size (ctC (s.E e).val).toArray) ?_ (fr_setRow _ _ _) _ hrow
        rw [e1] at hgt ⊢
        exact LN.nx (s := s) ⟨q.1, hF1.trans' q.2.1, q.2.2⟩ r (by omega) (by omega) (by simp only; omega) : w'.rangeAt e 1 (ctC (s.E e).val) ∧ w'.heap[w.heap.size]? = some (.cells (ctC ct0).toArray 81 (0, 0)) ∧ Nx base (fpC p m s) p N w (a.get k) (w'.setRow w.heap.size (ctC (s.E e).val).toArray)))
      rw [e2]
      have SV := hid (show (Try.prog.info? 81).map (·.size) = some (ctC (s.E e).val).length by rw [sizeCt]; rfl)
      have SW := hid (show (Try.prog.info? 81).map (·.size) = some (ctC (s.E e).val).toArray.size by rw [sizeCt]; rfl)
      have OV := hid (ctC_one (s.E e).val)
      have LV := hid (show (ctC ct0).toArray.size = (ctC (s.E e).val).toArray.size from rfl)
      clear hC hA hC1 hA1 hl hgt e1 e2 hF1 hL hin hkey heb hnf q1
      simp only [argK] at *
      generalize s.hits = G at *
      rw [show (Option.getD (some (s.E e).val) ct0) = (s.E e).val from rfl]
      unfold argV
      generalize ctC (s.E e).val = VV at *
      generalize ctC ct0 = Z at *
      go_enter Try.func47, Try.ntmps47
      go_wp2_with (first
        | refine wpList_allocV AC.out rfl rfl ?_
        | (go_at_call 68; refine H1.out.mono ?_; rintro x w1 ⟨rfl, t, hl1, hs1, hr1⟩; obtain ⟨cv, q2, hnx⟩ := HE.out t w1 hl1 hs1 hr1; have HX := hid hnx; clear H1 HE hl1 hs1 hr1 hnx)
        | refine wpList_load_mid_w (by rfl) 81 _ (by rfl) e 1 (by rfl) _ _ cv Try.underlying81 rfl SV.out ?_
        | refine wpList_store_row rfl 81 _ _ (by rfl) w.heap.size VV.toArray (by rfl) (by rfl) 81 _ q2 SW.out LV.out (all_oneCell_toArray OV.out) ?_)
      exact bodyPost_ret (v := .tuple #[.agg VV.toArray, .bool true]) (results_c2 Try.results47 _ _ w.heap.size 81 _ _ _ rfl (setRow_heap _ _ _ _ _ _ q2) Try.underlying81 rfl SW.out) rfl ⟨rfl, HX.out⟩
    · have H1 := hid (use_held _ base p m n _ hC1 e heb (hA.ref.flag false e hin))
      have cv := hC1.ev (b := e) heb
      have e1 : a.get k = { a with hits := a.hits + 1 } := by
        unfold AS.get
        rw [← hkey, hA.findH hin]
      have e2 : a.val k = some (s.E e).val := by unfold AS.val; rw [← hkey, hA.findH hin]; rfl
      have hE := LN.nx (N := N) ⟨hC1, hF1, rfl⟩ hA1 (by omega) (by rw [← e1]; omega) h3
      rw [← e1] at hE
      have HX := hid (HNS.out _ (((w.alloc (.cells (ctC ct0).toArray 81)).setCell ⟨p, 8, none⟩ (.int .i64 (s.hits + 1))).setRow w.heap.size (ctC (s.E e).val).toArray) hE (fr_setRow _ _ _) _ q1)
      rw [e2]
      have SV := hid (show (Try.prog.info? 81).map (·.size) = some (ctC (s.E e).val).length by rw [sizeCt]; rfl)
      have SW := hid (show (Try.prog.info? 81).map (·.size) = some (ctC (s.E e).val).toArray.size by rw [sizeCt]; rfl)
      have OV := hid (ctC_one (s.E e).val)
      have LV := hid (show (ctC ct0).toArray.size = (ctC (s.E e).val).toArray.size from rfl)
      change ((w.alloc _).setCell _ _).rangeAt e 1 (ctC (s.E e).val) at cv
      clear hC hA hC1 hA1 hl hgt e1 e2 hF1 hin hkey heb hnf hE
      simp only [argK] at *
      generalize s.hits = G at *
      rw [show (Option.getD (some (s.E e).val) ct0) = (s.E e).val from rfl]
      unfold argV
      generalize ctC (s.E e).val = VV at *
      generalize ctC ct0 = Z at *
      go_enter Try.func47, Try.ntmps47
      go_wp2_with (first
        | refine wpList_allocV AC.out rfl rfl ?_
        | (go_at_call 68; refine H1.out.mono ?_; rintro x w1 ⟨rfl, rfl⟩)
        | refine wpList_load_mid_w (by rfl) 81 _ (by rfl) e 1 (by rfl) _ _ cv Try.underlying81 rfl SV.out ?_
        | refine wpList_store_row rfl 81 _ _ (by rfl) w.heap.size VV.toArray (by rfl) (by rfl) 81 _ q1 SW.out LV.out (all_oneCell_toArray OV.out) ?_)
      exact bodyPost_ret (v := .tuple #[.agg VV.toArray, .bool true]) (results_c2 Try.results47 _ _ w.heap.size 81 _ _ _ rfl (setRow_heap _ _ _ _ _ _ q1) Try.underlying81 rfl SW.out) rfl ⟨rfl, HX.out⟩
end Go.Proofs.Ytihkjfbhmlfonaa.Ca
namespace Go.Proofs.Ytihkjfbhmlfonaa.Ca
set_option linter.unusedVariables false
set_option linter.unusedSimpArgs false
open Go.RowKit
attribute [local go_sem ↓] Go.wp_at_zero Go.wp_at_succ

theorem Ref.kvs_enter {s : CSi} {L : Bool → List Nat} (h : Ref s L none) {b : Nat} (hb : b ∉ s.bs) (k : Int) (v : Ct) (r : Bool) : kvs (s.enter b k v) (L r) = kvs s (L r) :=
  kvs_congr fun i hi => by
    have : i ≠ b := fun q => hb (q ▸ h.dom r i hi)
    rw [show (s.enter b k v).E i = s.E i from if_neg this]; exact ⟨rfl, rfl⟩
theorem E_enter (s : CSi) (b : Nat) (k : Int) (v : Ct) : (s.enter b k v).E b = ⟨k, v, false, none, none⟩ := if_pos rfl
theorem row_enter (s : CSi) (b : Nat) (k : Int) (v : Ct) (r : Bool) : (s.enter b k v).row r = s.row r := by cases r <;> rfl
/-- A new one is clean. -/
theorem Abs.newC {s : CSi} {L : Bool → List Nat} {a : AS Int Ct} (h : Abs s L none a) {b : Nat} (hb : b ∉ s.bs) {k : Int} (hk : s.look k = none) (v : Ct) :
    Abs ((s.enter b k v).pushFirst true b) (updL L true (b :: L true)) none { a with clean := (k, v) :: a.clean } := by
  have hR := h.ref.enter hb hk v
  have hR2 := hR.pushFirst (r := true) (by rw [E_enter]; rfl)
  have hm := Sm.link (s.enter b k v) true none b ((s.enter b k v).row true).first
  refine ⟨hR2, hm.room.trans h.room, ?_, ?_, hm.hits.trans h.hits, hm.misses.trans h.misses, hm.gone.trans h.gone⟩
  · rw [updL_same, CS.pushFirst, kvs_sm hm, kvs_cons, E_enter, h.ref.kvs_enter hb, h.clean]
  · rw [updL_ne _ _ (by decide), CS.pushFirst, kvs_sm hm, h.ref.kvs_enter hb]; exact h.held
/-- A new one is held. -/
theorem Abs.newH {s : CSi} {L : Bool → List Nat} {a : AS Int Ct} (h : Abs s L none a) {b : Nat} (hb : b ∉ s.bs) {k : Int} (hk : s.look k = none) (v : Ct) :
    Abs (((s.enter b k v).setHeld b true).pushLast false b) (updL L false (L false ++ [b])) none { a with held := a.held ++ [(k, v)] } := by
  have hR := (h.ref.enter hb hk v).setHeld true
  have hE : ((s.enter b k v).setHeld b true).E b = ⟨k, v, true, none, none⟩ := by rw [CS.setHeld, E_setE, if_pos rfl, E_enter]
  have hR2 := hR.pushLast (r := false) (by rw [hE]; rfl)
  have hm := Sm.link ((s.enter b k v).setHeld b true) false (((s.enter b k v).setHeld b true).row false).last b none
  have hkv : ∀ l, kvs ((s.enter b k v).setHeld b true) l = kvs (s.enter b k v) l := fun l => kvs_congr fun i _ => by rw [CS.setHeld, E_setE]; split <;> simp_all
  refine ⟨hR2, hm.room.trans h.room, ?_, ?_, hm.hits.trans h.hits, hm.misses.trans h.misses, hm.gone.trans h.gone⟩
  · rw [updL_ne _ _ (by decide), CS.pushLast, kvs_sm hm, hkv, h.ref.kvs_enter hb]; exact h.clean
  · rw [updL_same, CS.pushLast, kvs_sm hm, kvs_append, hkv, hkv, h.ref.kvs_enter hb, h.held]
    simp [kvs, E_enter]
/-- A clean one is held. -/
theorem Abs.moveH {s : CSi} {L : Bool → List Nat} {a : AS Int Ct} (h : Abs s L none a) {A B : List Nat} {e : Nat} (hL : L true = A ++ e :: B) :
    Abs (((s.takeOut true e).setHeld e true).pushLast false e) (updL (updL L true (A ++ B)) false (L false ++ [e])) none { a with clean := delL a.clean (s.E e).key, held := a.held ++ [((s.E e).key, (s.E e).val)] } := by
  have hm1 := Sm.takeOut s true e
  have hR := (h.ref.take hL).setHeld true
  have hE : (((s.takeOut true e).setHeld e true).E e).held = true := by rw [CS.setHeld, E_setE, if_pos rfl]
  have hR2 := hR.pushLast (r := false) (by rw [hE]; rfl)
  rw [updL_ne _ _ (by decide)] at hR2
  have hm := Sm.link ((s.takeOut true e).setHeld e true) false (((s.takeOut true e).setHeld e true).row false).last e none
  have hkv : ∀ l, kvs ((s.takeOut true e).setHeld e true) l = kvs s l := fun l => kvs_congr fun i _ => by
    rw [CS.setHeld, E_setE]
    split
    · subst i; exact ⟨hm1.key e, hm1.val e⟩
    · exact ⟨hm1.key i, hm1.val i⟩
  refine ⟨hR2, (hm.room.trans hm1.room).trans h.room, ?_, ?_, (hm.hits.trans hm1.hits).trans h.hits, (hm.misses.trans hm1.misses).trans h.misses, (hm.gone.trans hm1.gone).trans h.gone⟩
  · rw [updL_ne _ _ (by decide), updL_same, CS.pushLast, kvs_sm hm, hkv, ← h.clean, hL, h.ref.del_at hL]
  · rw [updL_same, CS.pushLast, kvs_sm hm, kvs_append, hkv, hkv, h.held]
    rfl
theorem del_le (l : List (Int × Ct)) (k : Int) : (delL l k).length ≤ l.length := List.length_filter_le _ _
theorem put_tot (a : AS Int Ct) (k : Int) (v : Ct) : (a.put k v).tot ≤ a.tot + 1 := by
  unfold AS.put
  split
  · unfold AS.tot setL; simp
  · rw [AS.trim_tot]
    have := del_le a.clean k
    unfold AS.tot; simp only [List.length_cons]; omega
theorem hold_tot (a : AS Int Ct) (k : Int) (v : Ct) : (a.hold k v).tot ≤ a.tot + 1 := by
  unfold AS.hold
  split
  · unfold AS.tot setL; simp
  · have := del_le a.clean k
    unfold AS.tot; simp only [List.length_append, List.length_singleton]; omega
theorem trim_room (a : AS Int Ct) : a.trim.clean.length ≤ a.trim.room := by unfold AS.trim; simp only [List.length_take]; omega
theorem CK.base {w : World} {base p m n : Nat} {s : CSi} (h : CK w base p m n s) : base ≤ w.heap.size := by have := h.bp; have := hlt h.cell; omega
theorem CK.freshb {w : World} {base p m n : Nat} {s : CSi} (h : CK w base p m n s) : w.heap.size ∉ s.bs := fun q => by have := hlt (h.ents _ q); omega
theorem fp_enter {w : World} {p m : Nat} {s t : CSi} (k : Int) (v : Ct) (h : t.bs = (s.enter w.heap.size k v).bs) : Gr w (fpC p m s) (fpC p m t) := fun i hi => by
  simp only [fpC, h, List.mem_cons] at hi ⊢
  rcases hi with e | e | e
  · exact Or.inl (Or.inl e)
  · exact Or.inl (Or.inr (Or.inl e))
  · rcases List.mem_cons.1 e with e | e
    · exact Or.inr (by omega)
    · exact Or.inl (Or.inr (Or.inr e))
theorem Nx.unal {base : Nat} {F : List Nat} {p N : Nat} {w w' : World} {o : Obj} {a : AS Int Ct} (h : Nx base F p N (w.alloc o) a w') : Nx base F p N w a w' := by
  obtain ⟨F', h1, h2, h3⟩ := h
  exact ⟨F', h1, (Fr.alloc' F w o).trans' h2, fun k hk => (h3 k hk).imp id (fun q => by have : (w.alloc o).heap.size ≤ k := q; simp at this; omega)⟩
theorem Abs.look_no {s : CSi} {L : Bool → List Nat} {a : AS Int Ct} (h : Abs s L none a) {k : Int} (hv : a.val k = none) : s.look k = none := by
  cases hl : s.look k with
  | none => rfl
  | some e =>
    obtain ⟨hin, hkey⟩ := h.ref.look_in hl
    rcases hin with hin | hin
    · have := h.findC hin
      rw [hkey] at this
      unfold AS.val at hv
      rw [this.1, this.2] at hv
      cases hv
    · have := h.findH hin
      rw [hkey] at this
      unfold AS.val at hv
      rw [this] at hv
      cases hv
theorem CK.fresh1 {w : World} {base p m n : Nat} {s : CSi} (h : CK w base p m n s) : w.heap.size + 1 ∉ s.bs := fun q => by have := hlt (h.ents _ q); omega
theorem fp_enter1 {w : World} {p m : Nat} {s t : CSi} (k : Int) (v : Ct) (h : t.bs = (s.enter (w.heap.size + 1) k v).bs) : Gr w (fpC p m s) (fpC p m t) := fun i hi => by
  simp only [fpC, h, List.mem_cons] at hi ⊢
  rcases hi with e | e | e
  · exact Or.inl (Or.inl e)
  · exact Or.inl (Or.inr (Or.inl e))
  · rcases List.mem_cons.1 e with e | e
    · exact Or.inr (by omega)
    · exact Or.inl (Or.inr (Or.inr e))
theorem nx_enter {base p m n N : Nat} {s t : CSi} {w w1 w' : World} {k : Int} {v : Ct} {L : Bool → List Nat} {a : AS Int Ct} (h1 : Fr (fpC p m s) w w1) (h : LN base p m (n + 1) (s.enter (w.heap.size + 1) k v) w1 t w') (hA : Abs t L none a) (hn : n ≤ N) (h2 : a.tot ≤ N + 1) (h3 : a.clean.length ≤ a.room) : Nx base (fpC p m s) p N w a w' :=
  ⟨fpC p m t, ⟨m, n + 1, t, L, rfl, h.1, hA, by omega, h2, h3⟩, h1.trans h.2.1 (fp_enter1 k v rfl), fp_enter1 k v h.2.2⟩
set_option maxRecDepth 100000 in
set_option maxHeartbeats 2000000 in
theorem Put_new (w : World) (base : Nat) (F : List Nat) (p N : Nat) (a : AS Int Ct) (h : CA w base F p N a) (k : Int) (v : Ct) (hk : wfK k) (hN : N < 3000000000000000000) (hv : a.val k = none) :
    Calls Try.prog 48 #[.pointer (some ⟨p, 0, none⟩), argK k, argV v] w fun x w' => x = .returned (.tuple #[]) ∧ Nx base F p N w (a.put k v) w' := by
  have hz := h.below ((Below.refl w.heap.size w).alloc (Nat.le_refl _) (.cells (ctC v).toArray 81))
  have r0 := hnew w (.cells (ctC v).toArray 81)
  have hnf : w.heap.size ∉ F := fun e => by have := (h.lt _ e).2; omega
  have hs : (w.alloc (.cells (ctC v).toArray 81)).heap.size = w.heap.size + 1 := by simp
  have HUN := hid (fun w' (q : Nx base F p N (w.alloc (.cells (ctC v).toArray 81)) (a.put k v) w') => q.unal)
  have LC := hid (show (Try.prog.info? 81).map (·.size) = some (ctC v).length by rw [sizeCt]; rfl)
  clear h
  obtain ⟨m, n, s, L, rfl, hC, hA, h1, h2, h3⟩ := hz
  have hl := hA.look_no hv
  have hpt := put_tot a k v
  have c1 := hC.c1
  have hlk := hC.look_no hk hl
  have hfb := hC.fresh1
  rw [hs] at hfb
  have hA1 := hA.newC hfb hl v
  have e1 : a.put k v = AS.trim { a with clean := (k, v) :: a.clean } := by
    unfold AS.put; rw [hA.findH_no hl]; simp only
    rw [del_none ((find_none_iff _ _).1 (hA.findC_no hl))]
  have HEN := hid (enter_any (w.alloc (.cells (ctC v).toArray 81)).drew base p m n s hC.drew hC.base k v hk (by omega))
  change Hid (Calls _ _ _ _ fun x w' => x = .returned (.pointer (some ⟨(w.alloc (.cells (ctC v).toArray 81)).heap.size + 1, 0, none⟩)) ∧ CK w' base p m (n + 1) (s.enter ((w.alloc (.cells (ctC v).toArray 81)).heap.size + 1) k v) ∧ Fr (fpC p m s) (w.alloc (.cells (ctC v).toArray 81)).drew w') at HEN
  have hR := hA.ref.enter hfb hl v
  have hlen : (L true).length < 4000000000000000000 := by rw [hA.lenC]; unfold AS.tot at h2; omega
  obtain ⟨j1, j2, j3⟩ := hR.putOk true hlen
  have hnx := fun (w1 w2 w3 : World) (q1 : Fr (fpC p m s) (w.alloc (.cells (ctC v).toArray 81)).drew w1) (q2 : LN base p m (n + 1) (s.enter ((w.alloc (.cells (ctC v).toArray 81)).heap.size + 1) k v) w1 ((s.enter ((w.alloc (.cells (ctC v).toArray 81)).heap.size + 1) k v).pushFirst true ((w.alloc (.cells (ctC v).toArray 81)).heap.size + 1)) w2) (q3 : LA base p m (n + 1) ((s.enter ((w.alloc (.cells (ctC v).toArray 81)).heap.size + 1) k v).pushFirst true ((w.alloc (.cells (ctC v).toArray 81)).heap.size + 1)) w2 (AS.trim { a with clean := (k, v) :: a.clean }) w3) => (by
    obtain ⟨t, L', q4, q5⟩ := q3
    refine HUN.out w3 ?_
    rw [e1]
    exact nx_enter ⟨q1.os, q1.tape, q1.output, q1.size, q1.block⟩ (q2.trans q4) q5 h1 (by rw [← e1]; omega) (trim_room _) : Nx base (fpC p m s) p N w (a.put k v) w3)
  rw [hs] at HEN hnx
  have HPF := hid (fun w1 (q : CK w1 base p m (n + 1) (s.enter (w.heap.size + 1 + 1) k v)) => pushFirst_any w1 base p m (n + 1) _ q true (w.heap.size + 1 + 1) List.mem_cons_self j1 j3 2 rfl)
  have HTR := hid (fun w1 w2 (q : LN base p m (n + 1) (s.enter (w.heap.size + 1 + 1) k v) w1 ((s.enter (w.heap.size + 1 + 1) k v).pushFirst true (w.heap.size + 1 + 1)) w2) => trim_any w2 base p m (n + 1) _ q.1 _ _ hA1 (by unfold AS.tot at h2 ⊢; simp only [List.length_cons]; omega))
  have HND := hid hnx
  have HKE := hid (fun w1 (x : Fr (fpC p m s) (w.alloc (.cells (ctC v).toArray 81)).drew w1) => ((x.block _ (hlt r0) hnf).trans r0 : w1.heap[w.heap.size]? = some (.cells (ctC v).toArray 81 (0, 0))))
  have HKP := hid (fun w1 w2 (y : w1.heap[w.heap.size]? = some (.cells (ctC v).toArray 81 (0, 0))) (x : LN base p m (n + 1) (s.enter (w.heap.size + 1 + 1) k v) w1 ((s.enter (w.heap.size + 1 + 1) k v).pushFirst true (w.heap.size + 1 + 1)) w2) => ((x.2.1.block _ (hlt y) (fun e => by
    simp only [fpC, List.mem_cons] at e
    simp only [fpC, List.mem_cons, not_or] at hnf
    rcases e with e | e | e
    · exact hnf.1 e
    · exact hnf.2.1 e
    · rcases List.mem_cons.1 e with e | e
      · omega
      · exact hnf.2.2 e)).trans y : w2.heap[w.heap.size]? = some (.cells (ctC v).toArray 81 (0, 0))))
  clear hC hA hl hpt hA1 hR j1 j2 j3 hlen e1 hfb hv hnx hnf
  simp only [argK, argV] at *
  obtain ⟨H, hH⟩ : ∃ H, H = w.heap.size + 1 + 1 := ⟨_, rfl⟩
  rw [← hH] at HEN HPF HTR HND HKP
  clear hH hs
  generalize ctC v = C at *
  go_enter Try.func48, Try.ntmps48
  go_wp2
  refine wp_region_noPanic ?_
  refine wp_region_held_drew (S := fun w' => w'.heap[w.heap.size]? = some (.cells C.toArray 81 (0, 0))) (by kernel_rfl) r0 (fun hHeld => ?_)
  refine wpAnyH_take (i := 0) (oi := { dst := some 25, op := Op.move (Operand.tmp 0), type := 76, pos := "cache.go:44", after := #[], guard := none }) (v := .pointer (some ⟨p, 0, none⟩)) rfl (by kernel_rfl) (by kernel_rfl) (by kernel_rfl) (fun _ _ _ h => h) (Or.inl ⟨by rfl, by intro w hS; go_simp⟩) hHeld ?_
  try simp only [Act.put, List.setIfInBounds_toArray, List.set_cons_zero, List.set_cons_succ]
  refine wpAnyH_take (i := 3) (oi := { dst := some 28, op := Op.move (Operand.tmp 0), type := 76, pos := "cache.go:44", after := #[], guard := none }) (v := .pointer (some ⟨p, 0, none⟩)) rfl (by kernel_rfl) (by kernel_rfl) (by kernel_rfl) (fun _ _ _ h => h) (Or.inl ⟨by rfl, by intro w hS; go_simp⟩) hHeld ?_
  try simp only [Act.put, List.setIfInBounds_toArray, List.set_cons_zero, List.set_cons_succ]
  refine wpAnyH_take (i := 4) (oi := { dst := some 29, op := Op.move (Operand.tmp 1), type := 3, pos := "cache.go:44", after := #[], guard := none }) (v := .int .i64 k) rfl (by kernel_rfl) (by kernel_rfl) (by kernel_rfl) (fun _ _ _ h => h) (Or.inl ⟨by rfl, by intro w hS; go_simp⟩) hHeld ?_
  try simp only [Act.put, List.setIfInBounds_toArray, List.set_cons_zero, List.set_cons_succ]
  refine wpAnyH_take (i := 5) (oi := { dst := some 30, op := Op.load 81 (Operand.tmp 5), type := 81, pos := "cache.go:44", after := #[], guard := none }) (v := .agg (C).toArray) rfl (by kernel_rfl) (by kernel_rfl) (by kernel_rfl) (fun _ _ _ h => h) (yieldsIf_load_mid (by rfl) 81 _ rfl w.heap.size (0) rfl (C) _ (fun w hS => rng hS) Try.underlying81 rfl LC.out) hHeld ?_
  try simp only [Act.put, List.setIfInBounds_toArray, List.set_cons_zero, List.set_cons_succ]
  refine wpAnyH_take (i := 1) (oi := { dst := some 26, op := Op.nilCheck (Operand.tmp 25), type := 0, pos := "cache.go:44", after := #[{ on := 0, ground := Ground.data }], guard := none }) (v := .pointer (some ⟨p, 0, none⟩)) rfl (by kernel_rfl) (by kernel_rfl) (by kernel_rfl) (fun _ _ _ h => h) (Or.inl ⟨by rfl, by intro w hS; go_simp⟩) hHeld ?_
  try simp only [Act.put, List.setIfInBounds_toArray, List.set_cons_zero, List.set_cons_succ]
  refine wpAnyH_take (i := 2) (oi := { dst := some 27, op := Op.fieldAddr 108 (Operand.tmp 26) 2, type := 0, pos := "cache.go:44", after := #[{ on := 1, ground := Ground.data }], guard := none }) (v := .pointer (some ⟨p, 2, none⟩)) rfl (by kernel_rfl) (by kernel_rfl) (by kernel_rfl) (fun _ _ _ h => h) (Or.inl ⟨by rfl, by intro w hS; go_simp⟩) hHeld ?_
  try simp only [Act.put, List.setIfInBounds_toArray, List.set_cons_zero, List.set_cons_succ]
  refine wpAnyH_ready (rs := [6]) (by kernel_rfl) (by simp) ?_
  refine (AllReadyH.cons (o := { dst := some 31, op := Op.call { callee := Callee.value (Operand.func 65), args := #[Operand.tmp 28, Operand.tmp 29, Operand.tmp 30], argTypes := #[76, 3, 81] }, type := 104, pos := "cache.go:44", after := #[{ on := 3, ground := Ground.data }, { on := 4, ground := Ground.data }, { on := 5, ground := Ground.data }], guard := none }) rfl (fun K hK => ?_) AllReadyH.nil)
  go_simp
  go_at_call 65
  refine (HEN.out).mono ?_
  rintro e w1 ⟨rfl, hc1, hf1⟩
  have HC1 := hid hc1
  have HF1 := hid hf1
  clear hc1 hf1
  go_wp2_with fail
  refine hK.out _ _ (HKE.out w1 HF1.out) (fun hHeld2 => ?_)
  clear hK K hHeld
  have hHeld := hHeld2
  clear hHeld2
  try simp only [Act.put, List.setIfInBounds_toArray, List.set_cons_zero, List.set_cons_succ]
  refine wpAnyH_ready (rs := [7]) (by kernel_rfl) (by simp) ?_
  refine (AllReadyH.cons (o := { dst := some 32, op := Op.call { callee := Callee.value (Operand.func 69), args := #[Operand.tmp 27, Operand.tmp 31], argTypes := #[106, 104] }, type := 0, pos := "cache.go:44", after := #[{ on := 2, ground := Ground.data }, { on := 6, ground := Ground.data }, { on := 6, ground := Ground.chain }], guard := none }) rfl (fun K hK => ?_) AllReadyH.nil)
  go_simp
  go_at_call 69
  refine (HPF.out w1 HC1.out).mono ?_
  rintro e w2 ⟨rfl, hl2⟩
  have HL2 := hid hl2
  clear hl2
  go_wp2_with fail
  refine hK.out _ _ (HKP.out w1 w2 hHeld HL2.out) (fun hHeld2 => ?_)
  clear hK K hHeld
  have hHeld := hHeld2
  clear hHeld2
  try simp only [Act.put, List.setIfInBounds_toArray, List.set_cons_zero, List.set_cons_succ]
  refine wpAnyH_done (by kernel_rfl) ?_ _
  refine NoPanic.normal ?_
  go_wp2_with (go_at_call 70; refine (HTR.out w1 w2 HL2.out).mono ?_; rintro x w3 ⟨rfl, hr⟩)
  go_end0
  exact ⟨rfl, HND.out w1 w2 w3 HF1.out HL2.out hr⟩
end Go.Proofs.Ytihkjfbhmlfonaa.Ca
namespace Go.Proofs.Ytihkjfbhmlfonaa.Ca
set_option linter.unusedVariables false
set_option linter.unusedSimpArgs false
open Go.RowKit
attribute [local go_sem ↓] Go.wp_at_zero Go.wp_at_succ

theorem LN.setHeld {base p m n : Nat} {s t : CSi} {w w1 : World} {e : Nat} (h : LN base p m n s w t w1) (he : e ∈ t.bs) (f : Bool) : w1.cell? ⟨e, 3, none⟩ = some (.bool (t.E e).held) ∧ w1.frozen? ⟨e, 3, none⟩ = false ∧ LN base p m n s w (t.setHeld e f) (w1.setCell ⟨e, 3, none⟩ (.bool f)) :=
  ⟨h.1.eh he, h.1.fe he _, h.1.held he f, h.2.1.setCell (mem_b (by rw [← h.2.2]; exact he)) _ _, h.2.2⟩
theorem LN.refl {base p m n : Nat} {s : CSi} {w : World} (h : CK w base p m n s) : LN base p m n s w s w := ⟨h, Fr.refl _ _, rfl⟩
set_option maxRecDepth 100000 in
set_option maxHeartbeats 2000000 in
theorem Hold_new (w : World) (base : Nat) (F : List Nat) (p N : Nat) (a : AS Int Ct) (h : CA w base F p N a) (k : Int) (v : Ct) (hk : wfK k) (hN : N < 3000000000000000000) (hv : a.val k = none) :
    Calls Try.prog 45 #[.pointer (some ⟨p, 0, none⟩), argK k, argV v] w fun x w' => x = .returned (.tuple #[]) ∧ Nx base F p N w (a.hold k v) w' ∧ a.hold k v = { a with held := a.held ++ [(k, v)] } := by
  have hz := h.below ((Below.refl w.heap.size w).alloc (Nat.le_refl _) (.cells (ctC v).toArray 81))
  have r0 := hnew w (.cells (ctC v).toArray 81)
  have hs : (w.alloc (.cells (ctC v).toArray 81)).heap.size = w.heap.size + 1 := by simp
  have HUN := hid (fun w' (q : Nx base F p N (w.alloc (.cells (ctC v).toArray 81)) (a.hold k v) w') => q.unal)
  have LC := hid (show (Try.prog.info? 81).map (·.size) = some (ctC v).toArray.size by rw [sizeCt]; rfl)
  clear h
  obtain ⟨m, n, s, L, rfl, hC, hA, h1, h2, h3⟩ := hz
  have hl := hA.look_no hv
  have hpt := hold_tot a k v
  have c1 := hC.c1
  have hlenH : (L false).length < 4000000000000000000 := by rw [hA.lenH]; unfold AS.tot at h2; omega
  have hlk := hC.look_no hk hl
  have hfb := hC.fresh1
  rw [hs] at hfb
  have hA1 := hA.newH hfb hl v
  have e1 : a.hold k v = { a with held := a.held ++ [(k, v)] } := by
    unfold AS.hold; rw [hA.findH_no hl]; simp only
    rw [del_none ((find_none_iff _ _).1 (hA.findC_no hl))]
  have E1 := hid e1
  have HEN := hid (enter_any (w.alloc (.cells (ctC v).toArray 81)) base p m n s hC hC.base k v hk (by omega))
  have hR := (hA.ref.enter hfb hl v).setHeld true
  obtain ⟨j1, j2, j3⟩ := hR.putOk false hlenH
  have hnx := fun (w1 w2 : World) (q1 : Fr (fpC p m s) (w.alloc (.cells (ctC v).toArray 81)) w1) (q2 : LN base p m (n + 1) (s.enter ((w.alloc (.cells (ctC v).toArray 81)).heap.size + 1) k v) w1 ((s.enter ((w.alloc (.cells (ctC v).toArray 81)).heap.size + 1) k v).setHeld ((w.alloc (.cells (ctC v).toArray 81)).heap.size + 1) true) (w1.setCell ⟨(w.alloc (.cells (ctC v).toArray 81)).heap.size + 1, 3, none⟩ (.bool true))) (q3 : LN base p m (n + 1) ((s.enter ((w.alloc (.cells (ctC v).toArray 81)).heap.size + 1) k v).setHeld ((w.alloc (.cells (ctC v).toArray 81)).heap.size + 1) true) (w1.setCell ⟨(w.alloc (.cells (ctC v).toArray 81)).heap.size + 1, 3, none⟩ (.bool true)) (((s.enter ((w.alloc (.cells (ctC v).toArray 81)).heap.size + 1) k v).setHeld ((w.alloc (.cells (ctC v).toArray 81)).heap.size + 1) true).pushLast false ((w.alloc (.cells (ctC v).toArray 81)).heap.size + 1)) w2) => (by
      refine HUN.out w2 ?_
      rw [e1]
      have hA2 := hA1
      rw [← hs] at hA2
      exact nx_enter q1 (q2.trans q3) hA2 h1 (by rw [← e1]; omega) h3 : Nx base (fpC p m s) p N w (a.hold k v) w2)
  rw [hs] at HEN hnx
  have HSH := hid (fun w1 (q : CK w1 base p m (n + 1) (s.enter (w.heap.size + 1 + 1) k v)) => (LN.refl q).setHeld (e := w.heap.size + 1 + 1) List.mem_cons_self true)
  have HPF := hid (fun w1 (q : LN base p m (n + 1) (s.enter (w.heap.size + 1 + 1) k v) w1 ((s.enter (w.heap.size + 1 + 1) k v).setHeld (w.heap.size + 1 + 1) true) (w1.setCell ⟨w.heap.size + 1 + 1, 3, none⟩ (.bool true))) => pushLast_any _ base p m (n + 1) _ q.1 false (w.heap.size + 1 + 1) List.mem_cons_self j2 j3 5 rfl)
  have HND := hid hnx
  clear hC hA hl hpt hA1 hR j1 j2 j3 e1 hfb hlenH hnx hv
  simp only [argK, argV] at *
  generalize hS1 : s.enter (w.heap.size + 1 + 1) k v = s1 at *
  obtain ⟨H, hH⟩ : ∃ H, H = w.heap.size + 1 + 1 := ⟨_, rfl⟩
  rw [← hH] at HEN HSH HPF HND
  clear hS1 hH hs
  generalize s1.setHeld H true = s2 at *
  generalize s2.pushLast false H = s3 at *
  generalize ctC v = C at *
  go_enter Try.func45, Try.ntmps45
  go_wp2_with (first
    | refine wpList_load_row_w (by rfl) 81 _ (by rfl) w.heap.size (by rfl) 81 _ _ _ r0 Try.underlying81 rfl LC.out ?_
    | (go_at_call 65; refine HEN.out.mono ?_; rintro x w1 ⟨rfl, hc1, hf1⟩; obtain ⟨ch, fh, hln⟩ := HSH.out w1 hc1; have HF1 := hid hf1; have HL1 := hid hln; clear HEN HSH hc1 hf1 hln)
    | (go_at_call 67; refine (HPF.out w1 HL1.out).mono ?_; rintro x w2 ⟨rfl, hl2⟩; have HX := hid (HND.out w1 w2 HF1.out HL1.out hl2); clear HPF HND hl2))
  go_end0
  exact ⟨rfl, HX.out, E1.out⟩
end Go.Proofs.Ytihkjfbhmlfonaa.Ca
namespace Go.Proofs.Ytihkjfbhmlfonaa.Ca
set_option linter.unusedVariables false
set_option linter.unusedSimpArgs false
open Go.RowKit
attribute [local go_sem ↓] Go.wp_at_zero Go.wp_at_succ

/-- The first held one becomes clean. -/
theorem Abs.settle1 {s : CSi} {L : Bool → List Nat} {a : AS Int Ct} (h : Abs s L none a) {R : List Nat} {e : Nat} (hL : L false = e :: R) :
    Abs (((s.takeOut false e).setHeld e false).pushFirst true e) (updL (updL L false R) true (e :: L true)) none { a with clean := ((s.E e).key, (s.E e).val) :: a.clean, held := a.held.tail } := by
  have hm1 := Sm.takeOut s false e
  have hR := (h.ref.take (A := []) hL).setHeld false
  have hE : (((s.takeOut false e).setHeld e false).E e).held = false := by rw [CS.setHeld, E_setE, if_pos rfl]
  have hR2 := hR.pushFirst (r := true) (by rw [hE]; rfl)
  rw [updL_ne _ _ (by decide)] at hR2
  have hm := Sm.link ((s.takeOut false e).setHeld e false) true none e (((s.takeOut false e).setHeld e false).row true).first
  have hkv : ∀ l, kvs ((s.takeOut false e).setHeld e false) l = kvs s l := fun l => kvs_congr fun i _ => by
    rw [CS.setHeld, E_setE]
    split
    · subst i; exact ⟨hm1.key e, hm1.val e⟩
    · exact ⟨hm1.key i, hm1.val i⟩
  refine ⟨hR2, (hm.room.trans hm1.room).trans h.room, ?_, ?_, (hm.hits.trans hm1.hits).trans h.hits, (hm.misses.trans hm1.misses).trans h.misses, (hm.gone.trans hm1.gone).trans h.gone⟩
  · rw [updL_same, CS.pushFirst, kvs_sm hm, hkv, kvs_cons, h.clean]
  · rw [updL_ne _ _ (by decide), updL_same, CS.pushFirst, kvs_sm hm, hkv, ← h.held, hL]
    rfl
theorem drop_end' {base p m n : Nat} {s s' s3 : CSi} {w wr w3 w4 : World} {e : Nat} (h1 : LN base p m n s w s' wr) (h2 : LN base p m n s' wr s3 w3) (he : e ∈ s3.bs) (h4 : CK w4 base p m n (s3.drop (s3.E e).key)) (hF : Fr (fpC p m s3) w3.drew w4) :
    (w4.cell? ⟨p, 1, none⟩ = some (.map (some m)) ∧ w4.cell? ⟨e, 0, none⟩ = some (argK (s3.E e).key)) ∧ LN base p m n s w (s3.drop (s3.E e).key) w4 := by
  have h3 := h1.trans h2
  refine ⟨⟨h4.c1, h4.ek (b := e) he⟩, h4, h3.2.1.trans' ?_, h3.2.2⟩
  rw [show fpC p m s3 = fpC p m s by simp [fpC, h3.2.2]] at hF
  exact ⟨hF.os, hF.tape, hF.output, hF.size, hF.block⟩
/-- The last held one is forgotten. -/
theorem Abs.release1 {s : CSi} {L : Bool → List Nat} {a : AS Int Ct} (h : Abs s L none a) {A : List Nat} {e : Nat} (hL : L false = A ++ [e]) :
    Abs ((s.takeOut false e).drop (s.E e).key) (updL L false A) none { a with held := a.held.take A.length } := by
  have hm := Sm.takeOut s false e
  have hR2 := (h.ref.take (B := []) hL).drop
  rw [hm.key, List.append_nil] at hR2
  have hk : ∀ l, kvs ((s.takeOut false e).drop (s.E e).key) l = kvs s l := fun l => kvs_congr fun b _ => ⟨hm.key b, hm.val b⟩
  refine ⟨hR2, hm.room.trans h.room, ?_, ?_, hm.hits.trans h.hits, hm.misses.trans h.misses, hm.gone.trans h.gone⟩
  · rw [updL_ne _ _ (by decide), hk]; exact h.clean
  · rw [updL_same, hk, ← h.held, hL, kvs_append, List.take_append_of_le_length (by rw [kvs_length]; exact Nat.le_refl _), List.take_of_length_le (by rw [kvs_length]; exact Nat.le_refl _)]
theorem run_max (x y : Int) (w : World) : (Builtin.max_ #[3, 3] 3 #[.int .i64 x, .int .i64 y]).run Try.prog w = .ok (.int .i64 (if y > x then y else x)) w := by
  simp [Builtin.max_, Builtin.max2, List.foldlM]
theorem run_min (x y : Int) (w : World) : (Builtin.min_ #[3, 3] 3 #[.int .i64 x, .int .i64 y]).run Try.prog w = .ok (.int .i64 (if y < x then y else x)) w := by
  simp [Builtin.min_, Builtin.min2, List.foldlM]
theorem settle_tot (a : AS Int Ct) (j : Nat) : AS.tot { a with clean := (a.held.take j).reverse ++ a.clean, held := a.held.drop j } = a.tot := by
  unfold AS.tot; simp; omega
set_option maxRecDepth 100000 in
set_option maxHeartbeats 1000000 in
theorem Settle_any (w : World) (base : Nat) (F : List Nat) (p N : Nat) (a : AS Int Ct) (h : CA w base F p N a) (hN : N < 3000000000000000000) :
    Calls Try.prog 53 #[.pointer (some ⟨p, 0, none⟩)] w fun x w' => x = .returned (.tuple #[]) ∧ Nx base F p N w a.settle w' := by
  obtain ⟨m, n, s, L, rfl, hC, hA, h1, h2, h3⟩ := h
  have HA := hid hA
  have HC := hid hC
  clear hC hA
  go_enter Try.func53, Try.ntmps53
  go_wp2
  go_loopw [2] (fun _ wr => ∃ j s' L', j ≤ a.held.length ∧ LN base p m n s w s' wr ∧ Abs s' L' none { a with clean := (a.held.take j).reverse ++ a.clean, held := a.held.drop j }) (fun _ wr => (intOf ((wr.cell? ⟨p, 7, none⟩).getD undef)).toNat)
  case atStart => exact ⟨0, s, L, by omega, LN.refl HC.out, HA.out⟩
  case round =>
    obtain ⟨j, s', L', hj, hLN, hAb⟩ := hrel
    have ht := settle_tot a j
    have c7 := hLN.1.c7
    have hcnt : s'.hd.count = ((a.held.length - j : Nat) : Int) := by
      have := (hAb.ref.row false).count
      rw [hAb.lenH] at this
      simp only [List.length_drop] at this
      exact this
    rw [hcnt] at c7
    by_cases hlt : j < a.held.length
    · obtain ⟨e, R, hL⟩ : ∃ e R, L' false = e :: R := List.exists_cons_of_length_pos (by rw [hAb.lenH]; simp only [List.length_drop]; omega)
      have hlH : (L' false).length < 4000000000000000000 := by rw [hAb.lenH]; unfold AS.tot at ht h2; simp only at ht ⊢; omega
      have hlC : (L' true).length < 4000000000000000000 := by rw [hAb.lenC]; unfold AS.tot at ht h2; simp only at ht ⊢; omega
      obtain ⟨k1, k2, k3, k4, k5, k6⟩ := hAb.ref.takeOk (A := []) hL hlH
      have c5 := hLN.1.c5
      rw [show s'.hd.first = some e by have := (hAb.ref.row false).first; rw [hL] at this; exact this] at c5
      have H1 := hid (takeOut_any wr base p m n s' hLN.1 false e k1 k2 k3 k4 k5 k6 5 rfl)
      have hR := (hAb.ref.take (A := []) hL).setHeld false
      obtain ⟨j1, j2, j3⟩ := hR.putOk true (by rw [updL_ne _ _ (by decide)]; exact hlC)
      have heb2 : e ∈ (s'.takeOut false e).bs := by rw [(Sm.takeOut s' false e).bs]; exact k1
      have HSH := hid (fun w1 (q : LN base p m n s' wr (s'.takeOut false e) w1) => (hLN.trans q).setHeld heb2 false)
      have HPF := hid (fun w1 (q : LN base p m n s w ((s'.takeOut false e).setHeld e false) w1) => pushFirst_any _ base p m n _ q.1 true e heb2 j1 j3 2 rfl)
      have HG := hid (hAb.settle1 hL)
      have HAB := hid hAb
      have g1 : (0 : Int) < ((a.held.length - j : Nat) : Int) := by omega
      have HC7 := hid c7
      clear hAb hLN k1 k2 k3 k4 k5 k6 hR j1 j2 j3 heb2 hlC ht
      have HLL := hid hL
      have HLH := hid hlH
      clear hL hlH
      generalize hs2 : s'.takeOut false e = s2 at *
      generalize (s2.E e).held = HB at *
      generalize hs3 : s2.setHeld e false = s3 at *
      generalize hs4 : s3.pushFirst true e = s4 at *
      clear hs2 hs3 hs4
      simp only [optr] at c5
      generalize hD : a.held.length - j = D at *
      go_wp2_with (first
        | (go_at_call 66; refine H1.out.mono ?_; rintro x w1 ⟨rfl, hl1⟩; obtain ⟨ch, fh, hln⟩ := HSH.out w1 hl1; have HL1 := hid hln; clear H1 HSH hl1 hln)
        | (go_at_call 69; refine (HPF.out _ HL1.out).mono ?_; rintro x w2 ⟨rfl, hl2⟩; have HX := hid (HL1.out.trans hl2); clear HPF hl2))
      go_roundw
      case rel =>
        refine ⟨j + 1, _, updL (updL L' false R) true (e :: L' true), by omega, HX.out, ?_⟩
        have h5 := HG.out
        have e1 : a.held.drop j = ((s'.E e).key, (s'.E e).val) :: a.held.drop (j + 1) := by
          have h6 : a.held.drop j = kvs s' (L' false) := HAB.out.held.symm
          rw [HLL.out] at h6
          rw [h6, kvs_cons]
          congr 1
          have := congrArg List.tail h6
          rw [List.tail_drop] at this
          rw [this]; rfl
        simp only [List.tail_drop] at h5
        have e2 : a.held.take (j + 1) = a.held.take j ++ [((s'.E e).key, (s'.E e).val)] := by
          rw [List.take_add_one]
          congr 1
          have := congrArg List.head? e1
          simp only [List.head?_drop, List.head?_cons] at this
          rw [this]; rfl
        rw [e2, List.reverse_append]
        exact h5
      case measure =>
        have e1 := HX.out.1.c7
        have e2 := (HG.out.ref.row false).count
        rw [updL_ne _ _ (by decide), updL_same] at e2
        rw [show s4.hd.count = (R.length : Int) from e2] at e1
        rw [e1, HC7.out]
        have := HAB.out.lenH
        rw [HLL.out] at this
        simp at this
        simp [intOf]
        omega
    · have g1 : ¬ ((0 : Int) < ((a.held.length - j : Nat) : Int)) := by omega
      obtain rfl : j = a.held.length := by omega
      have HT := hid (trim_any wr base p m n s' hLN.1 L' _ hAb (by rw [ht]; omega))
      have HND := hid (fun w1 (q : LA base p m n s' wr (AS.trim { a with clean := (a.held.take a.held.length).reverse ++ a.clean, held := a.held.drop a.held.length }) w1) => (by
        obtain ⟨t, L2, q4, q5⟩ := q
        simp only [List.take_length, List.drop_length] at q5
        have : AS.tot a.settle ≤ N + 1 := by
          unfold AS.settle
          rw [AS.trim_tot]
          simp only [List.take_length, List.drop_length] at ht
          omega
        exact LN.nx (hLN.trans q4) q5 (by omega) this (trim_room _) : Nx base (fpC p m s) p N w a.settle w1))
      clear hAb hLN hcnt ht
      generalize hD : a.held.length - a.held.length = D at *
      go_wp2_with (go_at_call 70; refine HT.out.mono ?_; rintro x w1 ⟨rfl, hr⟩; have HX := hid (HND.out w1 hr); clear HT HND hr)
      go_end0
      exact ⟨rfl, HX.out⟩
set_option maxRecDepth 100000 in
set_option maxHeartbeats 1000000 in
theorem Release_any (w : World) (base : Nat) (F : List Nat) (p N : Nat) (a : AS Int Ct) (h : CA w base F p N a) (f : Int) (hN : N < 3000000000000000000) :
    Calls Try.prog 51 #[.pointer (some ⟨p, 0, none⟩), .int .i64 f] w fun x w' => x = .returned (.tuple #[]) ∧ Nx base F p N w (a.release f.toNat) w' := by
  obtain ⟨m, n, s, L, rfl, hC, hA, h1, h2, h3⟩ := h
  have HA := hid hA
  have HC := hid hC
  have hmax := run_max f 0
  rw [show (if (0 : Int) > f then (0 : Int) else f) = (f.toNat : Int) by split <;> omega] at hmax
  clear hC hA
  go_enter Try.func51, Try.ntmps51
  go_wp2
  go_loopw [4] (fun _ wr => ∃ j s' L', j ≤ a.held.length ∧ (j = a.held.length ∨ f.toNat ≤ j) ∧ LN base p m n s w s' wr ∧ Abs s' L' none { a with held := a.held.take j }) (fun _ wr => (intOf ((wr.cell? ⟨p, 7, none⟩).getD undef)).toNat)
  case atStart => exact ⟨a.held.length, s, L, by omega, Or.inl rfl, LN.refl HC.out, by rw [List.take_length]; exact HA.out⟩
  case round =>
    obtain ⟨j, s', L', hj, hor, hLN, hAb⟩ := hrel
    have c7 := hLN.1.c7
    have hcnt : s'.hd.count = (j : Int) := by
      have := (hAb.ref.row false).count
      rw [hAb.lenH] at this
      simp only [List.length_take, Nat.min_eq_left hj] at this
      exact this
    rw [hcnt] at c7
    have HAb := hid hAb
    have HLN := hid hLN
    clear hAb hLN
    by_cases hlt : f.toNat < j
    · have i1 : ((f.toNat : Nat) : Int) < (j : Int) := by omega
      have hne : L' false ≠ [] := fun q => by have := HAb.out.lenH; rw [q] at this; simp at this; omega
      obtain ⟨A, e, hL⟩ : ∃ A e, L' false = A ++ [e] := (List.eq_nil_or_concat (L' false)).resolve_left hne |>.imp fun A h => h.imp fun e h => by rw [h]; simp
      have hlen : A.length + 1 = j := by
        have := HAb.out.lenH
        rw [hL] at this
        simp at this
        omega
      have hlL : (L' false).length < 4000000000000000000 := by
        rw [HAb.out.lenH]
        unfold AS.tot at h2
        simp only [List.length_take]
        omega
      obtain ⟨k1, k2, k3, k4, k5, k6⟩ := HAb.out.ref.takeOk (B := []) hL hlL
      have c6 := HLN.out.1.c6
      rw [show s'.hd.last = some e by have := (HAb.out.ref.row false).last; rw [hL, List.getLast?_append] at this; exact this] at c6
      have H1 := hid (takeOut_any wr base p m n s' HLN.out.1 false e k1 k2 k3 k4 k5 k6 5 rfl)
      have HG := hid (HAb.out.release1 hL)
      have HKW := hid (HLN.out.1.kwf e k1)
      have hsm := Sm.takeOut s' false e
      have hek := hsm.key e
      have HE := hid (show e ∈ (s'.takeOut false e).bs by rw [hsm.bs]; exact k1)
      clear k1 k2 k3 k4 k5 k6 hlL hne hL
      generalize hs3 : s'.takeOut false e = s3 at *
      clear hs3 hsm
      rw [← hek] at HKW HG
      generalize hk : (s3.E e).key = k at *
      have HDE := hid (fun w3 (q : LN base p m n s' wr s3 w3) w4 a b => drop_end' (e := e) HLN.out q HE.out (w4 := w4) a b)
      have HCK := hid (fun w3 (q : LN base p m n s' wr s3 w3) => (⟨q.1.c1, q.1.ek HE.out⟩ : w3.cell? ⟨p, 1, none⟩ = some (.map (some m)) ∧ w3.cell? ⟨e, 0, none⟩ = some (argK (s3.E e).key)))
      rw [hk] at HDE HCK
      clear hk hek
      simp only [optr] at c6
      have HC7 := hid c7
      go_wp2_with (first
        | (go_at_call 66; refine H1.out.mono ?_; rintro x w3 ⟨rfl, hl3⟩; clear H1; have HS := hid (HCK.out w3 hl3); have HD := hid (show CK w3 base p m n s3 ∧ wfK k ∧ _ from ⟨hl3.1, HKW.out, HDE.out w3 hl3⟩); clear HCK HDE hl3 c7 c6))
      refine wp_region_noPanic ?_
      refine wp_region_held_drew (S := fun w' => w'.cell? ⟨p, 1, none⟩ = some (.map (some m)) ∧ w'.cell? ⟨e, 0, none⟩ = some (argK k)) (by kernel_rfl) HS.out (fun hHeld => ?_)
      refine wpAnyH_take (i := 0) (oi := { dst := some 23, op := Op.move (Operand.tmp 0), type := 76, pos := "cache.go:82", after := #[], guard := none }) (v := .pointer (some ⟨p, 0, none⟩)) rfl (by kernel_rfl) (by kernel_rfl) (by kernel_rfl) (fun _ _ _ h => h) (Or.inl ⟨by rfl, by intro w hS; go_simp⟩) hHeld ?_
      try simp only [Act.put, List.setIfInBounds_toArray, List.set_cons_zero, List.set_cons_succ]
      refine wpAnyH_take (i := 4) (oi := { dst := some 27, op := Op.move (Operand.tmp 4), type := 104, pos := "cache.go:82", after := #[], guard := none }) (v := .pointer (some ⟨e, 0, none⟩)) rfl (by kernel_rfl) (by kernel_rfl) (by kernel_rfl) (fun _ _ _ h => h) (Or.inl ⟨by rfl, by intro w hS; go_simp⟩) hHeld ?_
      try simp only [Act.put, List.setIfInBounds_toArray, List.set_cons_zero, List.set_cons_succ]
      refine wpAnyH_take (i := 1) (oi := { dst := some 24, op := Op.nilCheck (Operand.tmp 23), type := 0, pos := "cache.go:82", after := #[{ on := 0, ground := Ground.data }], guard := none }) (v := .pointer (some ⟨p, 0, none⟩)) rfl (by kernel_rfl) (by kernel_rfl) (by kernel_rfl) (fun _ _ _ h => h) (Or.inl ⟨by rfl, by intro w hS; go_simp⟩) hHeld ?_
      try simp only [Act.put, List.setIfInBounds_toArray, List.set_cons_zero, List.set_cons_succ]
      refine wpAnyH_take (i := 5) (oi := { dst := some 28, op := Op.nilCheck (Operand.tmp 27), type := 0, pos := "cache.go:82", after := #[{ on := 4, ground := Ground.data }], guard := none }) (v := .pointer (some ⟨e, 0, none⟩)) rfl (by kernel_rfl) (by kernel_rfl) (by kernel_rfl) (fun _ _ _ h => h) (Or.inl ⟨by rfl, by intro w hS; go_simp⟩) hHeld ?_
      try simp only [Act.put, List.setIfInBounds_toArray, List.set_cons_zero, List.set_cons_succ]
      refine wpAnyH_take (i := 2) (oi := { dst := some 25, op := Op.fieldAddr 108 (Operand.tmp 24) 1, type := 0, pos := "cache.go:82", after := #[{ on := 1, ground := Ground.data }], guard := none }) (v := .pointer (some ⟨p, 1, none⟩)) rfl (by kernel_rfl) (by kernel_rfl) (by kernel_rfl) (fun _ _ _ h => h) (Or.inl ⟨by rfl, by intro w hS; go_simp⟩) hHeld ?_
      try simp only [Act.put, List.setIfInBounds_toArray, List.set_cons_zero, List.set_cons_succ]
      refine wpAnyH_take (i := 6) (oi := { dst := some 29, op := Op.fieldAddr 125 (Operand.tmp 28) 0, type := 0, pos := "cache.go:82", after := #[{ on := 5, ground := Ground.data }], guard := none }) (v := .pointer (some ⟨e, 0, none⟩)) rfl (by kernel_rfl) (by kernel_rfl) (by kernel_rfl) (fun _ _ _ h => h) (Or.inl ⟨by rfl, by intro w hS; go_simp⟩) hHeld ?_
      try simp only [Act.put, List.setIfInBounds_toArray, List.set_cons_zero, List.set_cons_succ]
      refine wpAnyH_take (i := 3) (oi := { dst := some 26, op := Op.load 103 (Operand.tmp 25), type := 103, pos := "cache.go:82", after := #[{ on := 2, ground := Ground.data }], guard := none }) (v := .map (some m)) rfl (by kernel_rfl) (by kernel_rfl) (by kernel_rfl) (fun _ _ _ h => h) (Or.inl ⟨by rfl, by intro w hS; have hc := hS.1; go_simp⟩) hHeld ?_
      try simp only [Act.put, List.setIfInBounds_toArray, List.set_cons_zero, List.set_cons_succ]
      refine wpAnyH_take (i := 7) (oi := { dst := some 30, op := Op.load 3 (Operand.tmp 29), type := 3, pos := "cache.go:82", after := #[{ on := 6, ground := Ground.data }], guard := none }) (v := argK k) rfl (by kernel_rfl) (by kernel_rfl) (by kernel_rfl) (fun _ _ _ h => h) (Or.inl ⟨by rfl, by intro w hS; have hc := hS.2; go_simp⟩) hHeld ?_
      try simp only [Act.put, List.setIfInBounds_toArray, List.set_cons_zero, List.set_cons_succ]
      refine wpAnyH_ready (rs := [8]) (by kernel_rfl) (by simp) ?_
      refine (AllReadyH.cons (o := { dst := none, op := Op.call { callee := Callee.builtin Builtin.delete, args := #[Operand.tmp 26, Operand.tmp 30], argTypes := #[103, 3] }, type := 0, pos := "cache.go:82", after := #[{ on := 3, ground := Ground.data }, { on := 7, ground := Ground.data }], guard := none }) rfl (fun K hK => ?_) AllReadyH.nil)
      refine step_drop (by rfl) (.tmp 26) (.tmp 30) (by rfl) base p m n s3 HD.out.1.drew (by rfl) k (by rfl) HD.out.2.1 ?_
      intro w4 hC4 hF4
      have HP4 := hid (HD.out.2.2 w4 hC4 hF4)
      clear hC4 hF4
      refine hK.out _ _ (HP4.out.1) (fun hHeld2 => ?_)
      clear hK K hHeld
      have hHeld := hHeld2
      clear hHeld2
      have hL5 := HP4.out.2
      clear HP4 HD HS
      try simp only [Act.put, List.setIfInBounds_toArray, List.set_cons_zero, List.set_cons_succ]
      refine wpAnyH_done (by kernel_rfl) ?_ _
      refine NoPanic.normal ?_
      go_wp2
      go_roundw
      case rel => exact ⟨j - 1, _, _, by omega, Or.inr (by omega), hL5, by
        have := HG.out
        rw [show A.length = j - 1 by omega] at this
        simp only [List.take_take] at this
        rw [show min (j - 1) j = j - 1 by omega] at this
        exact this⟩
      case measure =>
        have e1 := hL5.1.c7
        have e2 := (HG.out.ref.row false).count
        rw [updL_same] at e2
        rw [show (s3.drop k).hd.count = (A.length : Int) from e2] at e1
        rw [e1, HC7.out]
        simp [intOf]
        omega
    · have i1 : ¬ ((f.toNat : Nat) : Int) < (j : Int) := by omega
      go_wp2
      go_end0
      have e1 : a.release f.toNat = { a with held := a.held.take j } := by
        unfold AS.release
        rcases hor with q | q
        · rw [List.take_of_length_le (by omega), List.take_of_length_le (by omega)]
        · rw [show j = f.toNat by omega]
      refine ⟨rfl, ?_⟩
      rw [e1]
      exact LN.nx HLN.out HAb.out (by omega) (by unfold AS.tot at h2 ⊢; simp only [List.length_take]; omega) h3
end Go.Proofs.Ytihkjfbhmlfonaa.Ca
namespace Go.Proofs.Ytihkjfbhmlfonaa.Ca
set_option linter.unusedVariables false
set_option linter.unusedSimpArgs false
open Go.RowKit
attribute [local go_sem ↓] Go.wp_at_zero Go.wp_at_succ

theorem build_cache (r : Int) (m : Nat) (w : World) : (Instr.build 108 #[(0, .int .i64 r), (1, .map (some m))]).run Try.prog w = .ok (.agg #[.int .i64 r, .map (some m), .pointer none, .pointer none, .int .i64 0, .pointer none, .pointer none, .int .i64 0, .int .i64 0, .int .i64 0, .int .i64 0, .int .i64 0, .int .i64 0]) w := by kernel_rfl
def newA (room : Int) : AS Int Ct := ⟨(min (max room 0) 4096).toNat, [], [], 0, 0, 0⟩
def newS (room : Int) : CSi := ⟨min (max room 0) 4096, ⟨none, none, 0⟩, ⟨none, none, 0⟩, 0, 0, 0, fun _ => ⟨0, ct0, false, none, none⟩, [], fun _ => none⟩
theorem newS_abs (room : Int) : Abs (newS room) (fun _ => []) none (newA room) := by
  refine ⟨⟨fun r => by cases r <;> exact ⟨rfl, rfl, rfl, trivial⟩, fun r => List.nodup_nil, fun b hb => (by cases hb), fun e he => (by cases he), fun r b hb => (by cases hb), fun e he => (by cases he), fun r b hb => (by cases hb), fun b hb => ?_, fun k b hb => (by cases hb)⟩, ?_, rfl, rfl, rfl, rfl, rfl⟩
  · rcases hb with ⟨r, hr⟩ | h
    · cases hr
    · cases h
  · show min (max room 0) 4096 = (((min (max room 0) 4096).toNat : Nat) : Int)
    omega
theorem mapIs_nil : MapIs (.map []) (fun _ => none) := ⟨Maps.isMap_empty, fun k _ _ => ⟨rfl, rfl⟩, fun k b _ h => by cases h⟩
set_option maxHeartbeats 400000 in
theorem New_any (w : World) (room : Int) :
    Calls Try.prog 43 #[.int .i64 room] w fun x w' => x = .returned (.pointer (some ⟨w.heap.size + 1, 0, none⟩)) ∧ CA w' w.heap.size [w.heap.size + 1, w.heap.size] (w.heap.size + 1) 0 (newA room) ∧ Below w.heap.size w w' := by
  have hmm := @run_makeMap Try.prog
  have hbd := build_cache (min (max room 0) 4096) w.heap.size
  have hmx := run_max room 0
  rw [show (if (0 : Int) > room then (0 : Int) else room) = max room 0 by split <;> omega] at hmx
  have hmn := run_min (max room 0) 4096
  rw [show (if (4096 : Int) < max room 0 then (4096 : Int) else max room 0) = min (max room 0) 4096 by split <;> omega] at hmn
  have hS : (newS room).room = min (max room 0) 4096 := rfl
  have HS := hid hS
  clear hS
  generalize max room 0 = r0 at *
  generalize min r0 4096 = r1 at *
  go_enter Try.func43, Try.ntmps43
  go_wp2
  go_ret
  have hB1 : Below w.heap.size w (w.alloc (.map #[] 0)) := (Below.refl _ w).alloc (Nat.le_refl _) _
  have hB2 : ∀ o, Below (w.alloc (.map #[] 0)).heap.size (w.alloc (.map #[] 0)) ((w.alloc (.map #[] 0)).alloc o) := fun o => (Below.refl _ _).alloc (Nat.le_refl _) o
  have hs : (w.alloc (.map #[] 0)).heap.size = w.heap.size + 1 := by simp
  refine ⟨rfl, ⟨w.heap.size, 0, newS room, fun _ => [], rfl, ⟨?_, fun b hb => (by cases hb), ⟨_, ?_, mapIs_nil⟩, fun b hb => (by cases hb), by omega, Nat.le_refl _, fun b hb => (by cases hb)⟩, newS_abs room, Nat.le_refl _, by simp [AS.tot, newA], by simp [newA]⟩, hB1.alloc (by rw [hs]; omega) _⟩
  · have := hnew (w.alloc (.map #[] 0)) (.cells (ccells w.heap.size (newS room)) 108)
    rw [hs] at this
    rw [show ccells w.heap.size (newS room) = #[.int .i64 r1, .map (some w.heap.size), .pointer none, .pointer none, .int .i64 0, .pointer none, .pointer none, .int .i64 0, .int .i64 0, .int .i64 0, .int .i64 0, .int .i64 0, .int .i64 0] by unfold ccells; rw [HS.out]; rfl] at this ⊢
    exact this
  · exact ownsMap_heap' (World.ownsMap_made w Try.prog 3 _) ((hB2 _).block w.heap.size (by rw [hs]; omega))
/-! Tally. -/
end Go.Proofs.Ytihkjfbhmlfonaa.Ca
