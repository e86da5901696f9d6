import Derived.Test.YtbpamknebjdicaaL9
namespace Go.Proofs.Ytbpamknebjdicaa
set_option linter.unusedVariables false
set_option linter.unusedSimpArgs false
open Go.RowKit
attribute [local go_sem ↓] Go.wp_at_zero Go.wp_at_succ

theorem Ref.kvs_enter {s : CSi} {L : Bool → List Nat} (h : Ref s L none) {b : Nat} (hb : b ∉ s.bs) (k v : Int) (r : Bool) : kvs (s.enter b k v) (L r) = kvs s (L r) :=
  kvs_congr fun i hi => by
    have : i ≠ b := fun q => hb (q ▸ h.dom r i hi)
    rw [show (s.enter b k v).E i = s.E i from if_neg this]; exact ⟨rfl, rfl⟩
theorem E_enter (s : CSi) (b : Nat) (k v : Int) : (s.enter b k v).E b = ⟨k, v, false, none, none⟩ := if_pos rfl
theorem row_enter (s : CSi) (b : Nat) (k v : Int) (r : Bool) : (s.enter b k v).row r = s.row r := by cases r <;> rfl
/-- A new one is clean. -/
theorem Abs.newC {s : CSi} {L : Bool → List Nat} {a : AS Int Int} (h : Abs s L none a) {b : Nat} (hb : b ∉ s.bs) {k : Int} (hk : s.look k = none) (v : Int) :
    Abs ((s.enter b k v).pushFirst true b) (updL L true (b :: L true)) none { a with clean := (k, v) :: a.clean } := by
  have hR := h.ref.enter hb hk v
  have hR2 := hR.pushFirst (r := true) (by rw [E_enter]; rfl)
  have hm := Sm.link (s.enter b k v) true none b ((s.enter b k v).row true).first
  refine ⟨hR2, hm.room.trans h.room, ?_, ?_, hm.hits.trans h.hits, hm.misses.trans h.misses, hm.gone.trans h.gone⟩
  · rw [updL_same, CS.pushFirst, kvs_sm hm, kvs_cons, E_enter, h.ref.kvs_enter hb, h.clean]
  · rw [updL_ne _ _ (by decide), CS.pushFirst, kvs_sm hm, h.ref.kvs_enter hb]; exact h.held
/-- A new one is held. -/
theorem Abs.newH {s : CSi} {L : Bool → List Nat} {a : AS Int Int} (h : Abs s L none a) {b : Nat} (hb : b ∉ s.bs) {k : Int} (hk : s.look k = none) (v : Int) :
    Abs (((s.enter b k v).setHeld b true).pushLast false b) (updL L false (L false ++ [b])) none { a with held := a.held ++ [(k, v)] } := by
  have hR := (h.ref.enter hb hk v).setHeld true
  have hE : ((s.enter b k v).setHeld b true).E b = ⟨k, v, true, none, none⟩ := by rw [CS.setHeld, E_setE, if_pos rfl, E_enter]
  have hR2 := hR.pushLast (r := false) (by rw [hE]; rfl)
  have hm := Sm.link ((s.enter b k v).setHeld b true) false (((s.enter b k v).setHeld b true).row false).last b none
  have hkv : ∀ l, kvs ((s.enter b k v).setHeld b true) l = kvs (s.enter b k v) l := fun l => kvs_congr fun i _ => by rw [CS.setHeld, E_setE]; split <;> simp_all
  refine ⟨hR2, hm.room.trans h.room, ?_, ?_, hm.hits.trans h.hits, hm.misses.trans h.misses, hm.gone.trans h.gone⟩
  · rw [updL_ne _ _ (by decide), CS.pushLast, kvs_sm hm, hkv, h.ref.kvs_enter hb]; exact h.clean
  · rw [updL_same, CS.pushLast, kvs_sm hm, kvs_append, hkv, hkv, h.ref.kvs_enter hb, h.held]
    simp [kvs, E_enter]
/-- A clean one is held. -/
theorem Abs.moveH {s : CSi} {L : Bool → List Nat} {a : AS Int Int} (h : Abs s L none a) {A B : List Nat} {e : Nat} (hL : L true = A ++ e :: B) :
    Abs (((s.takeOut true e).setHeld e true).pushLast false e) (updL (updL L true (A ++ B)) false (L false ++ [e])) none { a with clean := delL a.clean (s.E e).key, held := a.held ++ [((s.E e).key, (s.E e).val)] } := by
  have hm1 := Sm.takeOut s true e
  have hR := (h.ref.take hL).setHeld true
  have hE : (((s.takeOut true e).setHeld e true).E e).held = true := by rw [CS.setHeld, E_setE, if_pos rfl]
  have hR2 := hR.pushLast (r := false) (by rw [hE]; rfl)
  rw [updL_ne _ _ (by decide)] at hR2
  have hm := Sm.link ((s.takeOut true e).setHeld e true) false (((s.takeOut true e).setHeld e true).row false).last e none
  have hkv : ∀ l, kvs ((s.takeOut true e).setHeld e true) l = kvs s l := fun l => kvs_congr fun i _ => by
    rw [CS.setHeld, E_setE]
    split
    · subst i; exact ⟨hm1.key e, hm1.val e⟩
    · exact ⟨hm1.key i, hm1.val i⟩
  refine ⟨hR2, (hm.room.trans hm1.room).trans h.room, ?_, ?_, (hm.hits.trans hm1.hits).trans h.hits, (hm.misses.trans hm1.misses).trans h.misses, (hm.gone.trans hm1.gone).trans h.gone⟩
  · rw [updL_ne _ _ (by decide), updL_same, CS.pushLast, kvs_sm hm, hkv, ← h.clean, hL, h.ref.del_at hL]
  · rw [updL_same, CS.pushLast, kvs_sm hm, kvs_append, hkv, hkv, h.held]
    rfl
theorem del_le (l : List (Int × Int)) (k : Int) : (delL l k).length ≤ l.length := List.length_filter_le _ _
theorem put_tot (a : AS Int Int) (k v : Int) : (a.put k v).tot ≤ a.tot + 1 := by
  unfold AS.put
  split
  · unfold AS.tot setL; simp
  · rw [AS.trim_tot]
    have := del_le a.clean k
    unfold AS.tot; simp only [List.length_cons]; omega
theorem hold_tot (a : AS Int Int) (k v : Int) : (a.hold k v).tot ≤ a.tot + 1 := by
  unfold AS.hold
  split
  · unfold AS.tot setL; simp
  · have := del_le a.clean k
    unfold AS.tot; simp only [List.length_append, List.length_singleton]; omega
theorem trim_room (a : AS Int Int) : a.trim.clean.length ≤ a.trim.room := by unfold AS.trim; simp only [List.length_take]; omega
theorem CK.base {w : World} {base p m n : Nat} {s : CSi} (h : CK w base p m n s) : base ≤ w.heap.size := by have := h.bp; have := hlt h.cell; omega
theorem CK.freshb {w : World} {base p m n : Nat} {s : CSi} (h : CK w base p m n s) : w.heap.size ∉ s.bs := fun q => by have := hlt (h.ents _ q); omega
theorem fp_enter {w : World} {p m : Nat} {s t : CSi} (k v : Int) (h : t.bs = (s.enter w.heap.size k v).bs) : Gr w (fpC p m s) (fpC p m t) := fun i hi => by
  simp only [fpC, h, List.mem_cons] at hi ⊢
  rcases hi with e | e | e
  · exact Or.inl (Or.inl e)
  · exact Or.inl (Or.inr (Or.inl e))
  · rcases List.mem_cons.1 e with e | e
    · exact Or.inr (by omega)
    · exact Or.inl (Or.inr (Or.inr e))
theorem nx_enter {base p m n N : Nat} {s t : CSi} {w w1 w' : World} {k v : Int} {L : Bool → List Nat} {a : AS Int Int} (h1 : Fr (fpC p m s) w w1) (h : LN base p m (n + 1) (s.enter w.heap.size k v) w1 t w') (hA : Abs t L none a) (hn : n ≤ N) (h2 : a.tot ≤ N + 1) (h3 : a.clean.length ≤ a.room) : Nx base (fpC p m s) p N w a w' :=
  ⟨fpC p m t, ⟨m, n + 1, t, L, rfl, h.1, hA, by omega, h2, h3⟩, h1.trans h.2.1 (fp_enter k v rfl), fp_enter k v h.2.2⟩
set_option maxRecDepth 100000 in
set_option maxHeartbeats 1000000 in
theorem Put_any (w : World) (base : Nat) (F : List Nat) (p N : Nat) (a : AS Int Int) (h : CA w base F p N a) (k v : Int) (hk : wfK k) (hN : N < 3000000000000000000) :
    Calls Try.prog 9 #[.pointer (some ⟨p, 0, none⟩), argK k, argV v] w fun x w' => x = .returned (.tuple #[]) ∧ Nx base F p N w (a.put k v) w' := by
  obtain ⟨m, n, s, L, rfl, hC, hA, h1, h2, h3⟩ := h
  have hpt := put_tot a k v
  have c1 := hC.c1
  cases hl : s.look k with
  | none =>
    have hlk := hC.look_no hk hl
    have hfb := hC.freshb
    have hA1 := hA.newC hfb hl v
    have e1 : a.put k v = AS.trim { a with clean := (k, v) :: a.clean } := by
      unfold AS.put; rw [hA.findH_no hl]; simp only
      rw [del_none ((find_none_iff _ _).1 (hA.findC_no hl))]
    have HEN := hid (enter_any w.drew base p m n s hC.drew hC.base k v hk (by omega))
    have hR := hA.ref.enter hfb hl v
    have hlen : (L true).length < 4000000000000000000 := by rw [hA.lenC]; unfold AS.tot at h2; omega
    obtain ⟨j1, j2, j3⟩ := hR.putOk true hlen
    have HPF := hid (fun w1 (q : CK w1 base p m (n + 1) (s.enter w.heap.size k v)) => pushFirst_any w1 base p m (n + 1) _ q true w.heap.size List.mem_cons_self j1 j3 2 rfl)
    have HTR := hid (fun w1 w2 (q : LN base p m (n + 1) (s.enter w.heap.size k v) w1 ((s.enter w.heap.size k v).pushFirst true w.heap.size) w2) => trim_any w2 base p m (n + 1) _ q.1 _ _ hA1 (by unfold AS.tot at h2 ⊢; simp only [List.length_cons]; omega))
    have HND := hid (fun w1 w2 w3 (q1 : Fr (fpC p m s) w.drew w1) (q2 : LN base p m (n + 1) (s.enter w.heap.size k v) w1 ((s.enter w.heap.size k v).pushFirst true w.heap.size) w2) (q3 : LA base p m (n + 1) ((s.enter w.heap.size k v).pushFirst true w.heap.size) w2 (AS.trim { a with clean := (k, v) :: a.clean }) w3) => (by
      obtain ⟨t, L', q4, q5⟩ := q3
      rw [e1]
      exact nx_enter ⟨q1.os, q1.tape, q1.output, q1.size, q1.block⟩ (q2.trans q4) q5 h1 (by rw [← e1]; omega) (trim_room _) : Nx base (fpC p m s) p N w (a.put k v) w3))
    change Hid (Calls _ _ _ _ fun x w' => x = .returned (.pointer (some ⟨w.heap.size, 0, none⟩)) ∧ CK w' base p m (n + 1) (s.enter w.heap.size k v) ∧ Fr (fpC p m s) w.drew w') at HEN
    clear hC hA hl hpt hA1 hR j1 j2 j3 hlen e1 hfb
    simp only [argK, argV] at *
    generalize w.heap.size = H at *
    go_enter Try.func9, Try.ntmps9
    go_wp2
    refine wp_region_noPanic ?_
    refine wp_region_held_drew (S := fun _ => True) (by kernel_rfl) trivial (fun hHeld => ?_)
    refine wpAnyH_take (i := 0) (oi := { dst := some 25, op := Op.move (Operand.tmp 0), type := 22, pos := "cache.go:44", after := #[], guard := none }) (v := .pointer (some ⟨p, 0, none⟩)) rfl (by kernel_rfl) (by kernel_rfl) (by kernel_rfl) (fun _ _ _ h => h) (Or.inl ⟨by rfl, by intro w hS; go_simp⟩) hHeld ?_
    try simp only [Act.put, List.setIfInBounds_toArray, List.set_cons_zero, List.set_cons_succ]
    refine wpAnyH_take (i := 3) (oi := { dst := some 28, op := Op.move (Operand.tmp 0), type := 22, pos := "cache.go:44", after := #[], guard := none }) (v := .pointer (some ⟨p, 0, none⟩)) rfl (by kernel_rfl) (by kernel_rfl) (by kernel_rfl) (fun _ _ _ h => h) (Or.inl ⟨by rfl, by intro w hS; go_simp⟩) hHeld ?_
    try simp only [Act.put, List.setIfInBounds_toArray, List.set_cons_zero, List.set_cons_succ]
    refine wpAnyH_take (i := 4) (oi := { dst := some 29, op := Op.move (Operand.tmp 1), type := 3, pos := "cache.go:44", after := #[], guard := none }) (v := .int .i64 k) rfl (by kernel_rfl) (by kernel_rfl) (by kernel_rfl) (fun _ _ _ h => h) (Or.inl ⟨by rfl, by intro w hS; go_simp⟩) hHeld ?_
    try simp only [Act.put, List.setIfInBounds_toArray, List.set_cons_zero, List.set_cons_succ]
    refine wpAnyH_take (i := 5) (oi := { dst := some 30, op := Op.move (Operand.tmp 2), type := 3, pos := "cache.go:44", after := #[], guard := none }) (v := .int .i64 v) rfl (by kernel_rfl) (by kernel_rfl) (by kernel_rfl) (fun _ _ _ h => h) (Or.inl ⟨by rfl, by intro w hS; go_simp⟩) hHeld ?_
    try simp only [Act.put, List.setIfInBounds_toArray, List.set_cons_zero, List.set_cons_succ]
    refine wpAnyH_take (i := 1) (oi := { dst := some 26, op := Op.nilCheck (Operand.tmp 25), type := 0, pos := "cache.go:44", after := #[{ on := 0, ground := Ground.data }], guard := none }) (v := .pointer (some ⟨p, 0, none⟩)) rfl (by kernel_rfl) (by kernel_rfl) (by kernel_rfl) (fun _ _ _ h => h) (Or.inl ⟨by rfl, by intro w hS; go_simp⟩) hHeld ?_
    try simp only [Act.put, List.setIfInBounds_toArray, List.set_cons_zero, List.set_cons_succ]
    refine wpAnyH_take (i := 2) (oi := { dst := some 27, op := Op.fieldAddr 68 (Operand.tmp 26) 2, type := 0, pos := "cache.go:44", after := #[{ on := 1, ground := Ground.data }], guard := none }) (v := .pointer (some ⟨p, 2, none⟩)) rfl (by kernel_rfl) (by kernel_rfl) (by kernel_rfl) (fun _ _ _ h => h) (Or.inl ⟨by rfl, by intro w hS; go_simp⟩) hHeld ?_
    try simp only [Act.put, List.setIfInBounds_toArray, List.set_cons_zero, List.set_cons_succ]
    refine wpAnyH_ready (rs := [6]) (by kernel_rfl) (by simp) ?_
    refine (AllReadyH.cons (o := { dst := some 31, op := Op.call { callee := Callee.value (Operand.func 33), args := #[Operand.tmp 28, Operand.tmp 29, Operand.tmp 30], argTypes := #[22, 3, 3] }, type := 64, pos := "cache.go:44", after := #[{ on := 3, ground := Ground.data }, { on := 4, ground := Ground.data }, { on := 5, ground := Ground.data }], guard := none }) rfl (fun K hK => ?_) AllReadyH.nil)
    go_simp
    go_at_call 33
    refine (HEN.out).mono ?_
    rintro e w1 ⟨rfl, hc1, hf1⟩
    have HC1 := hid hc1
    have HF1 := hid hf1
    clear hc1 hf1
    go_wp2_with fail
    refine hK.out _ _ (trivial) (fun hHeld2 => ?_)
    clear hK K hHeld
    have hHeld := hHeld2
    clear hHeld2
    try simp only [Act.put, List.setIfInBounds_toArray, List.set_cons_zero, List.set_cons_succ]
    refine wpAnyH_ready (rs := [7]) (by kernel_rfl) (by simp) ?_
    refine (AllReadyH.cons (o := { dst := some 32, op := Op.call { callee := Callee.value (Operand.func 32), args := #[Operand.tmp 27, Operand.tmp 31], argTypes := #[66, 64] }, type := 0, pos := "cache.go:44", after := #[{ on := 2, ground := Ground.data }, { on := 6, ground := Ground.data }, { on := 6, ground := Ground.chain }], guard := none }) rfl (fun K hK => ?_) AllReadyH.nil)
    go_simp
    go_at_call 32
    refine (HPF.out w1 HC1.out).mono ?_
    rintro e w2 ⟨rfl, hl2⟩
    have HL2 := hid hl2
    clear hl2
    go_wp2_with fail
    refine hK.out _ _ (trivial) (fun hHeld2 => ?_)
    clear hK K hHeld
    have hHeld := hHeld2
    clear hHeld2
    try simp only [Act.put, List.setIfInBounds_toArray, List.set_cons_zero, List.set_cons_succ]
    refine wpAnyH_done (by kernel_rfl) ?_ _
    refine NoPanic.normal ?_
    go_wp2_with (go_at_call 34; refine (HTR.out w1 w2 HL2.out).mono ?_; rintro x w3 ⟨rfl, hr⟩)
    go_end0
    exact ⟨rfl, HND.out w1 w2 w3 HF1.out HL2.out hr⟩
  | some e =>
    obtain ⟨hin, hkey⟩ := hA.ref.look_in hl
    have heb : e ∈ s.bs := hin.elim (hA.ref.dom true e) (hA.ref.dom false e)
    have hlk := hC.look_yes hk hl
    have cv := hC.ev heb
    have fv := hC.fe heb 1
    have hC1 := hC.val heb v
    have hF1 : Fr (fpC p m s) w (w.setCell ⟨e, 1, none⟩ (argV v)) := (Fr.refl _ w).setCell (mem_b heb) _ _
    rcases hin with hin | hin
    · obtain ⟨A, B, hL⟩ := mem_split' hin
      have hA1 := hA.setValC hin v
      have H1 := hid (use_clean _ base p m n _ hC1 L hA1.ref A B e hL (by rw [hA.lenC]; unfold AS.tot at h2; omega))
      have e1 : a.put k v = { a with clean := (k, v) :: delL a.clean k } := by
        unfold AS.put
        rw [← hkey, (hA.findC hin).2]; simp only
        refine AS.trim_id ?_
        have := hA.use_len hL v
        simp only at this ⊢
        omega
      have HE := hid (fun (t : CSi) (w' : World) (q : LN base p m n (s.setVal e v) (w.setCell ⟨e, 1, none⟩ (argV v)) t w') (q1 : Sm (s.setVal e v) t) (q2 : Ref t (updL L true (e :: (A ++ B))) none) => (by
        have r := hA1.use hL q1 q2
        rw [E_setVal_same] at r
        simp only at r
        rw [del_set, hkey] at r
        have hx := hA.use_len hL v
        rw [hkey] at hx
        rw [e1] at hpt ⊢
        exact LN.nx (s := s) ⟨q.1, hF1.trans' q.2.1, q.2.2⟩ r (by omega) (by omega) (by simp only; omega) : Nx base (fpC p m s) p N w (a.put k v) w'))
      clear hC hA hC1 hA1 hl hpt e1 hF1 hL hin hkey heb
      simp only [argK, argV] at *
      generalize (s.E e).val = VV at *
      go_enter Try.func9, Try.ntmps9
      go_wp2_with (go_at_call 31; refine H1.out.mono ?_; rintro x w1 ⟨rfl, t, hl1, hs1, hr1⟩; have HX := hid (HE.out t w1 hl1 hs1 hr1); clear H1 HE hl1 hs1 hr1)
      refine bodyPost_ret (results_none rfl _ _ _) rfl ?_
      exact ⟨rfl, HX.out⟩
    · have hA1 := hA.setValH hin v
      have H1 := hid (use_held _ base p m n _ hC1 e heb (by rw [E_setVal_same]; exact hA.ref.flag false e hin))
      have e1 : a.put k v = { a with held := setL a.held k v } := by
        unfold AS.put
        rw [← hkey, hA.findH hin]
      rw [hkey] at hA1
      have HE := hid (LN.nx (N := N) ⟨hC1, hF1, rfl⟩ hA1 (by omega) (by rw [← e1]; omega) h3)
      rw [e1]
      clear hC hA hC1 hA1 hl hpt e1 hF1 hin hkey heb
      simp only [argK, argV] at *
      generalize (s.E e).val = VV at *
      go_enter Try.func9, Try.ntmps9
      go_wp2_with (go_at_call 31; refine H1.out.mono ?_; rintro x w1 ⟨rfl, rfl⟩)
      refine bodyPost_ret (results_none rfl _ _ _) rfl ?_
      exact ⟨rfl, HE.out⟩
end Go.Proofs.Ytbpamknebjdicaa
