import Derived.Test.YtbpamknebjdicaaL11
namespace Go.Proofs.Ytbpamknebjdicaa
set_option linter.unusedVariables false
set_option linter.unusedSimpArgs false
open Go.RowKit
attribute [local go_sem ↓] Go.wp_at_zero Go.wp_at_succ

/-- The first held one becomes clean. -/
theorem Abs.settle1 {s : CSi} {L : Bool → List Nat} {a : AS Int Int} (h : Abs s L none a) {R : List Nat} {e : Nat} (hL : L false = e :: R) :
    Abs (((s.takeOut false e).setHeld e false).pushFirst true e) (updL (updL L false R) true (e :: L true)) none { a with clean := ((s.E e).key, (s.E e).val) :: a.clean, held := a.held.tail } := by
  have hm1 := Sm.takeOut s false e
  have hR := (h.ref.take (A := []) hL).setHeld false
  have hE : (((s.takeOut false e).setHeld e false).E e).held = false := by rw [CS.setHeld, E_setE, if_pos rfl]
  have hR2 := hR.pushFirst (r := true) (by rw [hE]; rfl)
  rw [updL_ne _ _ (by decide)] at hR2
  have hm := Sm.link ((s.takeOut false e).setHeld e false) true none e (((s.takeOut false e).setHeld e false).row true).first
  have hkv : ∀ l, kvs ((s.takeOut false e).setHeld e false) l = kvs s l := fun l => kvs_congr fun i _ => by
    rw [CS.setHeld, E_setE]
    split
    · subst i; exact ⟨hm1.key e, hm1.val e⟩
    · exact ⟨hm1.key i, hm1.val i⟩
  refine ⟨hR2, (hm.room.trans hm1.room).trans h.room, ?_, ?_, (hm.hits.trans hm1.hits).trans h.hits, (hm.misses.trans hm1.misses).trans h.misses, (hm.gone.trans hm1.gone).trans h.gone⟩
  · rw [updL_same, CS.pushFirst, kvs_sm hm, hkv, kvs_cons, h.clean]
  · rw [updL_ne _ _ (by decide), updL_same, CS.pushFirst, kvs_sm hm, hkv, ← h.held, hL]
    rfl
theorem drop_end' {base p m n : Nat} {s s' s3 : CSi} {w wr w3 w4 : World} {e : Nat} (h1 : LN base p m n s w s' wr) (h2 : LN base p m n s' wr s3 w3) (he : e ∈ s3.bs) (h4 : CK w4 base p m n (s3.drop (s3.E e).key)) (hF : Fr (fpC p m s3) w3.drew w4) :
    (w4.cell? ⟨p, 1, none⟩ = some (.map (some m)) ∧ w4.cell? ⟨e, 0, none⟩ = some (argK (s3.E e).key)) ∧ LN base p m n s w (s3.drop (s3.E e).key) w4 := by
  have h3 := h1.trans h2
  refine ⟨⟨h4.c1, h4.ek (b := e) he⟩, h4, h3.2.1.trans' ?_, h3.2.2⟩
  rw [show fpC p m s3 = fpC p m s by simp [fpC, h3.2.2]] at hF
  exact ⟨hF.os, hF.tape, hF.output, hF.size, hF.block⟩
/-- The last held one is forgotten. -/
theorem Abs.release1 {s : CSi} {L : Bool → List Nat} {a : AS Int Int} (h : Abs s L none a) {A : List Nat} {e : Nat} (hL : L false = A ++ [e]) :
    Abs ((s.takeOut false e).drop (s.E e).key) (updL L false A) none { a with held := a.held.take A.length } := by
  have hm := Sm.takeOut s false e
  have hR2 := (h.ref.take (B := []) hL).drop
  rw [hm.key, List.append_nil] at hR2
  have hk : ∀ l, kvs ((s.takeOut false e).drop (s.E e).key) l = kvs s l := fun l => kvs_congr fun b _ => ⟨hm.key b, hm.val b⟩
  refine ⟨hR2, hm.room.trans h.room, ?_, ?_, hm.hits.trans h.hits, hm.misses.trans h.misses, hm.gone.trans h.gone⟩
  · rw [updL_ne _ _ (by decide), hk]; exact h.clean
  · rw [updL_same, hk, ← h.held, hL, kvs_append, List.take_append_of_le_length (by rw [kvs_length]; exact Nat.le_refl _), List.take_of_length_le (by rw [kvs_length]; exact Nat.le_refl _)]
theorem run_max (x y : Int) (w : World) : (Builtin.max_ #[3, 3] 3 #[.int .i64 x, .int .i64 y]).run Try.prog w = .ok (.int .i64 (if y > x then y else x)) w := by
  simp [Builtin.max_, Builtin.max2, List.foldlM]
theorem run_min (x y : Int) (w : World) : (Builtin.min_ #[3, 3] 3 #[.int .i64 x, .int .i64 y]).run Try.prog w = .ok (.int .i64 (if y < x then y else x)) w := by
  simp [Builtin.min_, Builtin.min2, List.foldlM]
theorem settle_tot (a : AS Int Int) (j : Nat) : AS.tot { a with clean := (a.held.take j).reverse ++ a.clean, held := a.held.drop j } = a.tot := by
  unfold AS.tot; simp; omega
set_option maxRecDepth 100000 in
set_option maxHeartbeats 1000000 in
theorem Settle_any (w : World) (base : Nat) (F : List Nat) (p N : Nat) (a : AS Int Int) (h : CA w base F p N a) (hN : N < 3000000000000000000) :
    Calls Try.prog 38 #[.pointer (some ⟨p, 0, none⟩)] w fun x w' => x = .returned (.tuple #[]) ∧ Nx base F p N w a.settle w' := by
  obtain ⟨m, n, s, L, rfl, hC, hA, h1, h2, h3⟩ := h
  have HA := hid hA
  have HC := hid hC
  clear hC hA
  go_enter Try.func38, Try.ntmps38
  go_wp2
  go_loopw [2] (fun _ wr => ∃ j s' L', j ≤ a.held.length ∧ LN base p m n s w s' wr ∧ Abs s' L' none { a with clean := (a.held.take j).reverse ++ a.clean, held := a.held.drop j }) (fun _ wr => (intOf ((wr.cell? ⟨p, 7, none⟩).getD undef)).toNat)
  case atStart => exact ⟨0, s, L, by omega, LN.refl HC.out, HA.out⟩
  case round =>
    obtain ⟨j, s', L', hj, hLN, hAb⟩ := hrel
    have ht := settle_tot a j
    have c7 := hLN.1.c7
    have hcnt : s'.hd.count = ((a.held.length - j : Nat) : Int) := by
      have := (hAb.ref.row false).count
      rw [hAb.lenH] at this
      simp only [List.length_drop] at this
      exact this
    rw [hcnt] at c7
    by_cases hlt : j < a.held.length
    · obtain ⟨e, R, hL⟩ : ∃ e R, L' false = e :: R := List.exists_cons_of_length_pos (by rw [hAb.lenH]; simp only [List.length_drop]; omega)
      have hlH : (L' false).length < 4000000000000000000 := by rw [hAb.lenH]; unfold AS.tot at ht h2; simp only at ht ⊢; omega
      have hlC : (L' true).length < 4000000000000000000 := by rw [hAb.lenC]; unfold AS.tot at ht h2; simp only at ht ⊢; omega
      obtain ⟨k1, k2, k3, k4, k5, k6⟩ := hAb.ref.takeOk (A := []) hL hlH
      have c5 := hLN.1.c5
      rw [show s'.hd.first = some e by have := (hAb.ref.row false).first; rw [hL] at this; exact this] at c5
      have H1 := hid (takeOut_any wr base p m n s' hLN.1 false e k1 k2 k3 k4 k5 k6 5 rfl)
      have hR := (hAb.ref.take (A := []) hL).setHeld false
      obtain ⟨j1, j2, j3⟩ := hR.putOk true (by rw [updL_ne _ _ (by decide)]; exact hlC)
      have heb2 : e ∈ (s'.takeOut false e).bs := by rw [(Sm.takeOut s' false e).bs]; exact k1
      have HSH := hid (fun w1 (q : LN base p m n s' wr (s'.takeOut false e) w1) => (hLN.trans q).setHeld heb2 false)
      have HPF := hid (fun w1 (q : LN base p m n s w ((s'.takeOut false e).setHeld e false) w1) => pushFirst_any _ base p m n _ q.1 true e heb2 j1 j3 2 rfl)
      have HG := hid (hAb.settle1 hL)
      have HAB := hid hAb
      have g1 : (0 : Int) < ((a.held.length - j : Nat) : Int) := by omega
      have HC7 := hid c7
      clear hAb hLN k1 k2 k3 k4 k5 k6 hR j1 j2 j3 heb2 hlC ht
      have HLL := hid hL
      have HLH := hid hlH
      clear hL hlH
      generalize hs2 : s'.takeOut false e = s2 at *
      generalize (s2.E e).held = HB at *
      generalize hs3 : s2.setHeld e false = s3 at *
      generalize hs4 : s3.pushFirst true e = s4 at *
      clear hs2 hs3 hs4
      simp only [optr] at c5
      generalize hD : a.held.length - j = D at *
      go_wp2_with (first
        | (go_at_call 36; refine H1.out.mono ?_; rintro x w1 ⟨rfl, hl1⟩; obtain ⟨ch, fh, hln⟩ := HSH.out w1 hl1; have HL1 := hid hln; clear H1 HSH hl1 hln)
        | (go_at_call 32; refine (HPF.out _ HL1.out).mono ?_; rintro x w2 ⟨rfl, hl2⟩; have HX := hid (HL1.out.trans hl2); clear HPF hl2))
      go_roundw
      case rel =>
        refine ⟨j + 1, _, updL (updL L' false R) true (e :: L' true), by omega, HX.out, ?_⟩
        have h5 := HG.out
        have e1 : a.held.drop j = ((s'.E e).key, (s'.E e).val) :: a.held.drop (j + 1) := by
          have h6 : a.held.drop j = kvs s' (L' false) := HAB.out.held.symm
          rw [HLL.out] at h6
          rw [h6, kvs_cons]
          congr 1
          have := congrArg List.tail h6
          rw [List.tail_drop] at this
          rw [this]; rfl
        simp only [List.tail_drop] at h5
        have e2 : a.held.take (j + 1) = a.held.take j ++ [((s'.E e).key, (s'.E e).val)] := by
          rw [List.take_add_one]
          congr 1
          have := congrArg List.head? e1
          simp only [List.head?_drop, List.head?_cons] at this
          rw [this]; rfl
        rw [e2, List.reverse_append]
        exact h5
      case measure =>
        have e1 := HX.out.1.c7
        have e2 := (HG.out.ref.row false).count
        rw [updL_ne _ _ (by decide), updL_same] at e2
        rw [show s4.hd.count = (R.length : Int) from e2] at e1
        rw [e1, HC7.out]
        have := HAB.out.lenH
        rw [HLL.out] at this
        simp at this
        simp [intOf]
        omega
    · have g1 : ¬ ((0 : Int) < ((a.held.length - j : Nat) : Int)) := by omega
      obtain rfl : j = a.held.length := by omega
      have HT := hid (trim_any wr base p m n s' hLN.1 L' _ hAb (by rw [ht]; omega))
      have HND := hid (fun w1 (q : LA base p m n s' wr (AS.trim { a with clean := (a.held.take a.held.length).reverse ++ a.clean, held := a.held.drop a.held.length }) w1) => (by
        obtain ⟨t, L2, q4, q5⟩ := q
        simp only [List.take_length, List.drop_length] at q5
        have : AS.tot a.settle ≤ N + 1 := by
          unfold AS.settle
          rw [AS.trim_tot]
          simp only [List.take_length, List.drop_length] at ht
          omega
        exact LN.nx (hLN.trans q4) q5 (by omega) this (trim_room _) : Nx base (fpC p m s) p N w a.settle w1))
      clear hAb hLN hcnt ht
      generalize hD : a.held.length - a.held.length = D at *
      go_wp2_with (go_at_call 34; refine HT.out.mono ?_; rintro x w1 ⟨rfl, hr⟩; have HX := hid (HND.out w1 hr); clear HT HND hr)
      go_end0
      exact ⟨rfl, HX.out⟩
set_option maxRecDepth 100000 in
set_option maxHeartbeats 1000000 in
theorem Release_any (w : World) (base : Nat) (F : List Nat) (p N : Nat) (a : AS Int Int) (h : CA w base F p N a) (f : Int) (hN : N < 3000000000000000000) :
    Calls Try.prog 39 #[.pointer (some ⟨p, 0, none⟩), .int .i64 f] w fun x w' => x = .returned (.tuple #[]) ∧ Nx base F p N w (a.release f.toNat) w' := by
  obtain ⟨m, n, s, L, rfl, hC, hA, h1, h2, h3⟩ := h
  have HA := hid hA
  have HC := hid hC
  have hmax := run_max f 0
  rw [show (if (0 : Int) > f then (0 : Int) else f) = (f.toNat : Int) by split <;> omega] at hmax
  clear hC hA
  go_enter Try.func39, Try.ntmps39
  go_wp2
  go_loopw [4] (fun _ wr => ∃ j s' L', j ≤ a.held.length ∧ (j = a.held.length ∨ f.toNat ≤ j) ∧ LN base p m n s w s' wr ∧ Abs s' L' none { a with held := a.held.take j }) (fun _ wr => (intOf ((wr.cell? ⟨p, 7, none⟩).getD undef)).toNat)
  case atStart => exact ⟨a.held.length, s, L, by omega, Or.inl rfl, LN.refl HC.out, by rw [List.take_length]; exact HA.out⟩
  case round =>
    obtain ⟨j, s', L', hj, hor, hLN, hAb⟩ := hrel
    have c7 := hLN.1.c7
    have hcnt : s'.hd.count = (j : Int) := by
      have := (hAb.ref.row false).count
      rw [hAb.lenH] at this
      simp only [List.length_take, Nat.min_eq_left hj] at this
      exact this
    rw [hcnt] at c7
    have HAb := hid hAb
    have HLN := hid hLN
    clear hAb hLN
    by_cases hlt : f.toNat < j
    · have i1 : ((f.toNat : Nat) : Int) < (j : Int) := by omega
      have hne : L' false ≠ [] := fun q => by have := HAb.out.lenH; rw [q] at this; simp at this; omega
      obtain ⟨A, e, hL⟩ : ∃ A e, L' false = A ++ [e] := (List.eq_nil_or_concat (L' false)).resolve_left hne |>.imp fun A h => h.imp fun e h => by rw [h]; simp
      have hlen : A.length + 1 = j := by
        have := HAb.out.lenH
        rw [hL] at this
        simp at this
        omega
      have hlL : (L' false).length < 4000000000000000000 := by
        rw [HAb.out.lenH]
        unfold AS.tot at h2
        simp only [List.length_take]
        omega
      obtain ⟨k1, k2, k3, k4, k5, k6⟩ := HAb.out.ref.takeOk (B := []) hL hlL
      have c6 := HLN.out.1.c6
      rw [show s'.hd.last = some e by have := (HAb.out.ref.row false).last; rw [hL, List.getLast?_append] at this; exact this] at c6
      have H1 := hid (takeOut_any wr base p m n s' HLN.out.1 false e k1 k2 k3 k4 k5 k6 5 rfl)
      have HG := hid (HAb.out.release1 hL)
      have HKW := hid (HLN.out.1.kwf e k1)
      have hsm := Sm.takeOut s' false e
      have hek := hsm.key e
      have HE := hid (show e ∈ (s'.takeOut false e).bs by rw [hsm.bs]; exact k1)
      clear k1 k2 k3 k4 k5 k6 hlL hne hL
      generalize hs3 : s'.takeOut false e = s3 at *
      clear hs3 hsm
      rw [← hek] at HKW HG
      generalize hk : (s3.E e).key = k at *
      have HDE := hid (fun w3 (q : LN base p m n s' wr s3 w3) w4 a b => drop_end' (e := e) HLN.out q HE.out (w4 := w4) a b)
      have HCK := hid (fun w3 (q : LN base p m n s' wr s3 w3) => (⟨q.1.c1, q.1.ek HE.out⟩ : w3.cell? ⟨p, 1, none⟩ = some (.map (some m)) ∧ w3.cell? ⟨e, 0, none⟩ = some (argK (s3.E e).key)))
      rw [hk] at HDE HCK
      clear hk hek
      simp only [optr] at c6
      have HC7 := hid c7
      go_wp2_with (first
        | (go_at_call 36; refine H1.out.mono ?_; rintro x w3 ⟨rfl, hl3⟩; clear H1; have HS := hid (HCK.out w3 hl3); have HD := hid (show CK w3 base p m n s3 ∧ wfK k ∧ _ from ⟨hl3.1, HKW.out, HDE.out w3 hl3⟩); clear HCK HDE hl3 c7 c6))
      refine wp_region_noPanic ?_
      refine wp_region_held_drew (S := fun w' => w'.cell? ⟨p, 1, none⟩ = some (.map (some m)) ∧ w'.cell? ⟨e, 0, none⟩ = some (argK k)) (by kernel_rfl) HS.out (fun hHeld => ?_)
      refine wpAnyH_take (i := 0) (oi := { dst := some 23, op := Op.move (Operand.tmp 0), type := 22, pos := "cache.go:82", after := #[], guard := none }) (v := .pointer (some ⟨p, 0, none⟩)) rfl (by kernel_rfl) (by kernel_rfl) (by kernel_rfl) (fun _ _ _ h => h) (Or.inl ⟨by rfl, by intro w hS; go_simp⟩) hHeld ?_
      try simp only [Act.put, List.setIfInBounds_toArray, List.set_cons_zero, List.set_cons_succ]
      refine wpAnyH_take (i := 4) (oi := { dst := some 27, op := Op.move (Operand.tmp 4), type := 64, pos := "cache.go:82", after := #[], guard := none }) (v := .pointer (some ⟨e, 0, none⟩)) rfl (by kernel_rfl) (by kernel_rfl) (by kernel_rfl) (fun _ _ _ h => h) (Or.inl ⟨by rfl, by intro w hS; go_simp⟩) hHeld ?_
      try simp only [Act.put, List.setIfInBounds_toArray, List.set_cons_zero, List.set_cons_succ]
      refine wpAnyH_take (i := 1) (oi := { dst := some 24, op := Op.nilCheck (Operand.tmp 23), type := 0, pos := "cache.go:82", after := #[{ on := 0, ground := Ground.data }], guard := none }) (v := .pointer (some ⟨p, 0, none⟩)) rfl (by kernel_rfl) (by kernel_rfl) (by kernel_rfl) (fun _ _ _ h => h) (Or.inl ⟨by rfl, by intro w hS; go_simp⟩) hHeld ?_
      try simp only [Act.put, List.setIfInBounds_toArray, List.set_cons_zero, List.set_cons_succ]
      refine wpAnyH_take (i := 5) (oi := { dst := some 28, op := Op.nilCheck (Operand.tmp 27), type := 0, pos := "cache.go:82", after := #[{ on := 4, ground := Ground.data }], guard := none }) (v := .pointer (some ⟨e, 0, none⟩)) rfl (by kernel_rfl) (by kernel_rfl) (by kernel_rfl) (fun _ _ _ h => h) (Or.inl ⟨by rfl, by intro w hS; go_simp⟩) hHeld ?_
      try simp only [Act.put, List.setIfInBounds_toArray, List.set_cons_zero, List.set_cons_succ]
      refine wpAnyH_take (i := 2) (oi := { dst := some 25, op := Op.fieldAddr 68 (Operand.tmp 24) 1, type := 0, pos := "cache.go:82", after := #[{ on := 1, ground := Ground.data }], guard := none }) (v := .pointer (some ⟨p, 1, none⟩)) rfl (by kernel_rfl) (by kernel_rfl) (by kernel_rfl) (fun _ _ _ h => h) (Or.inl ⟨by rfl, by intro w hS; go_simp⟩) hHeld ?_
      try simp only [Act.put, List.setIfInBounds_toArray, List.set_cons_zero, List.set_cons_succ]
      refine wpAnyH_take (i := 6) (oi := { dst := some 29, op := Op.fieldAddr 71 (Operand.tmp 28) 0, type := 0, pos := "cache.go:82", after := #[{ on := 5, ground := Ground.data }], guard := none }) (v := .pointer (some ⟨e, 0, none⟩)) rfl (by kernel_rfl) (by kernel_rfl) (by kernel_rfl) (fun _ _ _ h => h) (Or.inl ⟨by rfl, by intro w hS; go_simp⟩) hHeld ?_
      try simp only [Act.put, List.setIfInBounds_toArray, List.set_cons_zero, List.set_cons_succ]
      refine wpAnyH_take (i := 3) (oi := { dst := some 26, op := Op.load 63 (Operand.tmp 25), type := 63, pos := "cache.go:82", after := #[{ on := 2, ground := Ground.data }], guard := none }) (v := .map (some m)) rfl (by kernel_rfl) (by kernel_rfl) (by kernel_rfl) (fun _ _ _ h => h) (Or.inl ⟨by rfl, by intro w hS; have hc := hS.1; go_simp⟩) hHeld ?_
      try simp only [Act.put, List.setIfInBounds_toArray, List.set_cons_zero, List.set_cons_succ]
      refine wpAnyH_take (i := 7) (oi := { dst := some 30, op := Op.load 3 (Operand.tmp 29), type := 3, pos := "cache.go:82", after := #[{ on := 6, ground := Ground.data }], guard := none }) (v := argK k) rfl (by kernel_rfl) (by kernel_rfl) (by kernel_rfl) (fun _ _ _ h => h) (Or.inl ⟨by rfl, by intro w hS; have hc := hS.2; go_simp⟩) hHeld ?_
      try simp only [Act.put, List.setIfInBounds_toArray, List.set_cons_zero, List.set_cons_succ]
      refine wpAnyH_ready (rs := [8]) (by kernel_rfl) (by simp) ?_
      refine (AllReadyH.cons (o := { dst := none, op := Op.call { callee := Callee.builtin Builtin.delete, args := #[Operand.tmp 26, Operand.tmp 30], argTypes := #[63, 3] }, type := 0, pos := "cache.go:82", after := #[{ on := 3, ground := Ground.data }, { on := 7, ground := Ground.data }], guard := none }) rfl (fun K hK => ?_) AllReadyH.nil)
      refine step_drop (by rfl) (.tmp 26) (.tmp 30) (by rfl) base p m n s3 HD.out.1.drew (by rfl) k (by rfl) HD.out.2.1 ?_
      intro w4 hC4 hF4
      have HP4 := hid (HD.out.2.2 w4 hC4 hF4)
      clear hC4 hF4
      refine hK.out _ _ (HP4.out.1) (fun hHeld2 => ?_)
      clear hK K hHeld
      have hHeld := hHeld2
      clear hHeld2
      have hL5 := HP4.out.2
      clear HP4 HD HS
      try simp only [Act.put, List.setIfInBounds_toArray, List.set_cons_zero, List.set_cons_succ]
      refine wpAnyH_done (by kernel_rfl) ?_ _
      refine NoPanic.normal ?_
      go_wp2
      go_roundw
      case rel => exact ⟨j - 1, _, _, by omega, Or.inr (by omega), hL5, by
        have := HG.out
        rw [show A.length = j - 1 by omega] at this
        simp only [List.take_take] at this
        rw [show min (j - 1) j = j - 1 by omega] at this
        exact this⟩
      case measure =>
        have e1 := hL5.1.c7
        have e2 := (HG.out.ref.row false).count
        rw [updL_same] at e2
        rw [show (s3.drop k).hd.count = (A.length : Int) from e2] at e1
        rw [e1, HC7.out]
        simp [intOf]
        omega
    · have i1 : ¬ ((f.toNat : Nat) : Int) < (j : Int) := by omega
      go_wp2
      go_end0
      have e1 : a.release f.toNat = { a with held := a.held.take j } := by
        unfold AS.release
        rcases hor with q | q
        · rw [List.take_of_length_le (by omega), List.take_of_length_le (by omega)]
        · rw [show j = f.toNat by omega]
      refine ⟨rfl, ?_⟩
      rw [e1]
      exact LN.nx HLN.out HAb.out (by omega) (by unfold AS.tot at h2 ⊢; simp only [List.length_take]; omega) h3
end Go.Proofs.Ytbpamknebjdicaa
