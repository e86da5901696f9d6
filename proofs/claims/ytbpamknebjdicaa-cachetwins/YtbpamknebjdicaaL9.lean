import Derived.Test.YtbpamknebjdicaaL8
namespace Go.Proofs.Ytbpamknebjdicaa
set_option linter.unusedVariables false
set_option linter.unusedSimpArgs false
open Go.RowKit
attribute [local go_sem ↓] Go.wp_at_zero Go.wp_at_succ

theorem zero_pentry (w : World) : (zeroValue 64).run Try.prog w = .ok (.pointer none) w := by kernel_rfl
theorem CK.look_no {w : World} {base p m n : Nat} {s : CSi} (h : CK w base p m n s) {k : Int} (hk : wfK k) (hl : s.look k = none) : (Instr.lookup 63 (.map (some m)) (argK k) true).run Try.prog w = .ok (.tuple #[.pointer none, .bool false]) w := by
  obtain ⟨M, hm, hM⟩ := h.mp
  obtain ⟨v, ps, hrun, hv⟩ := hm.look_ok keyedK Try.underlying63 (zero_pentry w) PR_none (keyOfK hk).2
  obtain ⟨e1, e2⟩ := hM.no k hk hl
  rw [e2] at hv
  rw [hrun, e1, PR_inv0 hv]
theorem CK.look_yes {w : World} {base p m n : Nat} {s : CSi} (h : CK w base p m n s) {k : Int} (hk : wfK k) {b : Nat} (hl : s.look k = some b) : (Instr.lookup 63 (.map (some m)) (argK k) true).run Try.prog w = .ok (.tuple #[.pointer (some ⟨b, 0, none⟩), .bool true]) w := by
  obtain ⟨M, hm, hM⟩ := h.mp
  obtain ⟨v, ps, hrun, hv⟩ := hm.look_ok keyedK Try.underlying63 (zero_pentry w) PR_none (keyOfK hk).2
  obtain ⟨e1, e2⟩ := hM.yes k b hk hl
  rw [e2] at hv
  rw [hrun, e1, PR_inv hv]
theorem del_set (l : List (Int × Int)) (k v : Int) : delL (setL l k v) k = delL l k := by
  induction l with
  | nil => rfl
  | cons x l ih =>
    unfold delL setL at *
    rw [List.map_cons, List.filter_cons, List.filter_cons]
    by_cases h : x.1 = k
    · simp only [h, if_true, decide_true, Bool.not_true, Bool.false_eq_true, if_false]; exact ih
    · simp only [h, if_false, decide_false, Bool.not_false, if_true]; rw [ih]
/-- A clean one is used. -/
theorem Abs.use {s t : CSi} {L : Bool → List Nat} {a : AS Int Int} (h : Abs s L none a) {A B : List Nat} {e : Nat} (hL : L true = A ++ e :: B) (hm : Sm s t) (hR : Ref t (updL L true (e :: (A ++ B))) none) :
    Abs t (updL L true (e :: (A ++ B))) none { a with clean := ((s.E e).key, (s.E e).val) :: delL a.clean (s.E e).key } := by
  refine ⟨hR, hm.room.trans h.room, ?_, ?_, hm.hits.trans h.hits, hm.misses.trans h.misses, hm.gone.trans h.gone⟩
  · rw [updL_same, kvs_sm hm, kvs_cons, ← h.clean, hL, h.ref.del_at hL]
  · rw [updL_ne _ _ (by decide), kvs_sm hm]; exact h.held
theorem Abs.use_len {s : CSi} {L : Bool → List Nat} {a : AS Int Int} (h : Abs s L none a) {A B : List Nat} {e : Nat} (hL : L true = A ++ e :: B) (v : Int) : (((s.E e).key, v) :: delL a.clean (s.E e).key).length = a.clean.length := by
  rw [← h.clean, hL, h.ref.del_at hL]; simp [kvs]; omega
theorem Abs.findH_no {s : CSi} {L : Bool → List Nat} {a : AS Int Int} (h : Abs s L none a) {k : Int} (hk : s.look k = none) : findL a.held k = none := by rw [← h.held]; exact h.ref.find_no hk false
theorem Abs.findC_no {s : CSi} {L : Bool → List Nat} {a : AS Int Int} (h : Abs s L none a) {k : Int} (hk : s.look k = none) : findL a.clean k = none := by rw [← h.clean]; exact h.ref.find_no hk true
theorem Abs.findH {s : CSi} {L : Bool → List Nat} {a : AS Int Int} (h : Abs s L none a) {e : Nat} (he : e ∈ L false) : findL a.held (s.E e).key = some (s.E e).val := by rw [← h.held]; exact h.ref.find_yes he
theorem Abs.findC {s : CSi} {L : Bool → List Nat} {a : AS Int Int} (h : Abs s L none a) {e : Nat} (he : e ∈ L true) : findL a.clean (s.E e).key = some (s.E e).val ∧ findL a.held (s.E e).key = none := by rw [← h.clean, ← h.held]; exact ⟨h.ref.find_yes he, h.ref.find_other he (by decide)⟩
theorem Abs.hit {s : CSi} {L : Bool → List Nat} {a : AS Int Int} (h : Abs s L none a) : Abs { s with hits := s.hits + 1 } L none { a with hits := a.hits + 1 } :=
  ⟨h.ref.same (fun r => by cases r <;> rfl) rfl rfl (fun b => ⟨rfl, rfl⟩) (fun b => rfl) (fun r b _ => rfl), h.room, h.clean, h.held, by show s.hits + 1 = _; rw [h.hits]; push_cast; rfl, h.misses, h.gone⟩
theorem Abs.miss {s : CSi} {L : Bool → List Nat} {a : AS Int Int} (h : Abs s L none a) : Abs { s with misses := s.misses + 1 } L none { a with misses := a.misses + 1 } :=
  ⟨h.ref.same (fun r => by cases r <;> rfl) rfl rfl (fun b => ⟨rfl, rfl⟩) (fun b => rfl) (fun r b _ => rfl), h.room, h.clean, h.held, h.hits, by show s.misses + 1 = _; rw [h.misses]; push_cast; rfl, h.gone⟩
theorem Abs.setValC {s : CSi} {L : Bool → List Nat} {a : AS Int Int} (h : Abs s L none a) {e : Nat} (he : e ∈ L true) (v : Int) : Abs (s.setVal e v) L none { a with clean := setL a.clean (s.E e).key v } :=
  ⟨h.ref.setVal e v, h.room, by rw [← h.ref.set_at he, h.clean], by rw [kvs_setVal_other (h.ref.dis e he)]; exact h.held, h.hits, h.misses, h.gone⟩
theorem Abs.setValH {s : CSi} {L : Bool → List Nat} {a : AS Int Int} (h : Abs s L none a) {e : Nat} (he : e ∈ L false) (v : Int) : Abs (s.setVal e v) L none { a with held := setL a.held (s.E e).key v } :=
  ⟨h.ref.setVal e v, h.room, by rw [kvs_setVal_other (fun q => h.ref.dis e q he)]; exact h.clean, by rw [← h.ref.set_at he, h.held], h.hits, h.misses, h.gone⟩
theorem E_setVal_same (s : CSi) (e : Nat) (v : Int) : (s.setVal e v).E e = { s.E e with val := v } := by rw [CS.setVal, E_setE, if_pos rfl]
/-- A cache in memory, its footprint and its pointer. -/
def CA (w : World) (base : Nat) (F : List Nat) (p : Nat) (N : Nat) (a : AS Int Int) : Prop :=
  ∃ m n s L, F = fpC p m s ∧ CK w base p m n s ∧ Abs s L none a ∧ n ≤ N ∧ a.tot ≤ N ∧ a.clean.length ≤ a.room
theorem CK.lt {w : World} {base p m n : Nat} {s : CSi} (h : CK w base p m n s) : ∀ k ∈ fpC p m s, base ≤ k ∧ k < w.heap.size := by
  intro k hk
  obtain ⟨M, hm, _⟩ := h.mp
  simp only [fpC, List.mem_cons] at hk
  rcases hk with rfl | rfl | e
  · exact ⟨h.bp, hlt h.cell⟩
  · exact ⟨h.bm, hm.lt⟩
  · exact ⟨h.bb k e, hlt (h.ents k e)⟩
theorem CA.lt {w : World} {base : Nat} {F : List Nat} {p N : Nat} {a : AS Int Int} (h : CA w base F p N a) : ∀ k ∈ F, base ≤ k ∧ k < w.heap.size := by
  obtain ⟨m, n, s, L, rfl, h, _⟩ := h; exact h.lt
theorem CK.of_heap {w w1 : World} {base p m n : Nat} {s : CSi} (h : CK w base p m n s) (hk : ∀ k ∈ fpC p m s, w1.heap[k]? = w.heap[k]?) : CK w1 base p m n s := by
  obtain ⟨M, hm, hM⟩ := h.mp
  exact ⟨(hk p (mem_p p m s)).trans h.cell, fun b hb => (hk b (mem_b hb)).trans (h.ents b hb), ⟨M, ownsMap_heap' hm (hk m (mem_m p m s)), hM⟩, h.kwf, h.bp, h.bm, h.bb⟩
theorem CA.other {w w1 : World} {base : Nat} {F G : List Nat} {p N : Nat} {a : AS Int Int} (h : CA w base G p N a) (hf : Fr F w w1) (ha : Apart F G) : CA w1 base G p N a := by
  have hl := h.lt
  obtain ⟨m, n, s, L, rfl, h, r⟩ := h
  exact ⟨m, n, s, L, rfl, h.of_heap fun i hi => hf.block i (hl i hi).2 (fun e => ha i e hi), r⟩
theorem CA.below {w w1 : World} {base : Nat} {F : List Nat} {p N : Nat} {a : AS Int Int} (h : CA w base F p N a) (hb : Below w.heap.size w w1) : CA w1 base F p N a := by
  have hl := h.lt
  obtain ⟨m, n, s, L, rfl, h, r⟩ := h
  exact ⟨m, n, s, L, rfl, h.of_heap fun i hi => hb.block i (hl i hi).2, r⟩
theorem CA.mono {w : World} {base : Nat} {F : List Nat} {p N N' : Nat} {a : AS Int Int} (h : CA w base F p N a) (hn : N ≤ N') : CA w base F p N' a := by
  obtain ⟨m, n, s, L, rfl, h, r1, r2, r3, r4⟩ := h
  exact ⟨m, n, s, L, rfl, h, r1, by omega, by omega, r4⟩
/-- What a call leaves. -/
def Nx (base : Nat) (F : List Nat) (p N : Nat) (w : World) (a : AS Int Int) (w' : World) : Prop := ∃ F', CA w' base F' p (N + 1) a ∧ Fr F w w' ∧ Gr w F F'
theorem LN.nx {base p m n N : Nat} {s t : CSi} {w w' : World} {L : Bool → List Nat} {a : AS Int Int} (h : LN base p m n s w t w') (hA : Abs t L none a) (h1 : n ≤ N + 1) (h2 : a.tot ≤ N + 1) (h3 : a.clean.length ≤ a.room) : Nx base (fpC p m s) p N w a w' :=
  ⟨fpC p m t, ⟨m, n, t, L, rfl, h.1, hA, h1, h2, h3⟩, h.2.1, by rw [show fpC p m t = fpC p m s by simp [fpC, h.2.2]]; exact Gr.refl _ _⟩
theorem get_tot (a : AS Int Int) (k : Int) : (a.get k).tot ≤ a.tot + 1 := by
  unfold AS.get
  split
  · unfold AS.tot; simp only; omega
  · split
    · rename_i v hv
      have : (delL a.clean k).length < a.clean.length := by
        unfold delL
        refine List.length_filter_lt_length_iff_exists.2 ?_
        simp only [findL, Option.map_eq_some_iff] at hv
        obtain ⟨x, hx, _⟩ := hv
        exact ⟨x, List.mem_of_find?_eq_some hx, by have := List.find?_some hx; simpa using this⟩
      unfold AS.tot; simp only [List.length_cons]; omega
    · unfold AS.tot; simp only; omega
theorem mem_split' {l : List Nat} {e : Nat} (h : e ∈ l) : ∃ A B, l = A ++ e :: B := List.append_of_mem h
theorem Ref.look_in {s : CSi} {L : Bool → List Nat} (h : Ref s L none) {k : Int} {b : Nat} (hl : s.look k = some b) : (b ∈ L true ∨ b ∈ L false) ∧ (s.E b).key = k := by
  obtain ⟨a, c⟩ := h.only k b hl
  obtain ⟨r, hr⟩ := a.resolve_right (by simp)
  exact ⟨by cases r; exact Or.inr hr; exact Or.inl hr, c⟩
set_option maxHeartbeats 1000000 in
theorem Get_any (w : World) (base : Nat) (F : List Nat) (p N : Nat) (a : AS Int Int) (h : CA w base F p N a) (k : Int) (hk : wfK k) (hN : N < 4000000000000000000) :
    Calls Try.prog 12 #[.pointer (some ⟨p, 0, none⟩), argK k] w fun x w' => x = .returned (.tuple #[.int .i64 ((a.val k).getD 0), .bool (a.val k).isSome]) ∧ Nx base F p N w (a.get k) w' := by
  obtain ⟨m, n, s, L, rfl, hC, hA, h1, h2, h3⟩ := h
  have hgt := get_tot a k
  have c1 := hC.c1
  cases hl : s.look k with
  | none =>
    have hlk := hC.look_no hk hl
    have c9 := hC.c9
    have f9 := hC.fz 9
    have e1 : a.get k = { a with misses := a.misses + 1 } := by unfold AS.get; rw [hA.findH_no hl]; simp only; rw [hA.findC_no hl]
    have e2 : a.val k = none := by unfold AS.val; rw [hA.findH_no hl, hA.findC_no hl]; rfl
    have hE := LN.nx (N := N) ⟨hC.setMisses (s.misses + 1), (Fr.refl _ w).setCell (mem_p p m s) _ _, rfl⟩ hA.miss (by omega) (by rw [← e1]; omega) h3
    have HE := hid hE
    rw [e1, e2]
    have g1 : 0 ≤ s.misses := by rw [hA.misses]; omega
    have g2 : s.misses < 4000000000000000000 := by rw [hA.misses]; unfold AS.tot at h2; omega
    clear hC hA hE hl hgt e1 e2
    simp only [argK] at *
    generalize s.misses = G at *
    go_enter Try.func12, Try.ntmps12
    go_wp2
    go_ret2
    exact ⟨rfl, HE.out⟩
  | some e =>
    obtain ⟨hin, hkey⟩ := hA.ref.look_in hl
    have heb : e ∈ s.bs := hin.elim (hA.ref.dom true e) (hA.ref.dom false e)
    have hlk := hC.look_yes hk hl
    have c8 := hC.c8
    have f8 := hC.fz 8
    have hC1 := hC.setHits (s.hits + 1)
    have hA1 := hA.hit
    have g1 : 0 ≤ s.hits := by rw [hA.hits]; omega
    have g2 : s.hits < 4000000000000000000 := by rw [hA.hits]; unfold AS.tot at h2; omega
    have hF1 : Fr (fpC p m s) w (w.setCell ⟨p, 8, none⟩ (.int .i64 (s.hits + 1))) := (Fr.refl _ w).setCell (mem_p p m s) _ _
    rcases hin with hin | hin
    · obtain ⟨A, B, hL⟩ := mem_split' hin
      have H1 := hid (use_clean _ base p m n _ hC1 L hA1.ref A B e hL (by rw [hA1.lenC]; unfold AS.tot at h2; simp only; omega))
      have e1 : a.get k = { a with clean := (k, (s.E e).val) :: delL a.clean k, hits := a.hits + 1 } := by
        unfold AS.get
        rw [← hkey, (hA.findC hin).2]; simp only; rw [(hA.findC hin).1]
      have e2 : a.val k = some (s.E e).val := by unfold AS.val; rw [← hkey, (hA.findC hin).2, (hA.findC hin).1]; rfl
      have HE := hid (fun (t : CSi) (w' : World) (q : LN base p m n { s with hits := s.hits + 1 } (w.setCell ⟨p, 8, none⟩ (.int .i64 (s.hits + 1))) t w') (q1 : Sm { s with hits := s.hits + 1 } t) (q2 : Ref t (updL L true (e :: (A ++ B))) none) => (by
        have hb : e ∈ t.bs := by rw [q.2.2]; exact heb
        have hv := q.1.ev hb
        rw [q1.val] at hv
        refine ⟨hv, ?_⟩
        have r := hA1.use hL q1 q2
        have hx := hA.use_len hL (s.E e).val
        rw [show (CS.E { s with hits := s.hits + 1 } e) = s.E e from rfl, hkey] at r
        rw [hkey] at hx
        rw [e1] at hgt ⊢
        exact LN.nx (s := s) ⟨q.1, hF1.trans' q.2.1, q.2.2⟩ r (by omega) (by omega) (by simp only; omega) : w'.cell? ⟨e, 1, none⟩ = some (argV (s.E e).val) ∧ Nx base (fpC p m s) p N w (a.get k) w'))
      rw [e2]
      clear hC hA hC1 hA1 hl hgt e1 e2 hF1 hL hin hkey heb
      simp only [argK, argV] at *
      generalize s.hits = G at *
      generalize (s.E e).val = VV at *
      go_enter Try.func12, Try.ntmps12
      go_wp2_with (go_at_call 31; refine H1.out.mono ?_; rintro x w1 ⟨rfl, t, hl1, hs1, hr1⟩; obtain ⟨cv, hnx⟩ := HE.out t w1 hl1 hs1 hr1; have HX := hid hnx; clear H1 HE hl1 hs1 hr1 hnx)
      go_ret2
      exact ⟨rfl, HX.out⟩
    · have H1 := hid (use_held _ base p m n _ hC1 e heb (hA.ref.flag false e hin))
      have cv := hC1.ev (b := e) heb
      have e1 : a.get k = { a with hits := a.hits + 1 } := by
        unfold AS.get
        rw [← hkey, hA.findH hin]
      have e2 : a.val k = some (s.E e).val := by unfold AS.val; rw [← hkey, hA.findH hin]; rfl
      have HE := hid (LN.nx (N := N) ⟨hC1, hF1, rfl⟩ hA1 (by omega) (by rw [← e1]; omega) h3)
      rw [e1, e2]
      clear hC hA hC1 hA1 hl hgt e1 e2 hF1 hin hkey heb
      change (w.setCell _ _).cell? _ = some (argV (s.E e).val) at cv
      simp only [argK, argV] at *
      generalize s.hits = G at *
      generalize (s.E e).val = VV at *
      go_enter Try.func12, Try.ntmps12
      go_wp2_with (go_at_call 31; refine H1.out.mono ?_; rintro x w1 ⟨rfl, rfl⟩)
      go_ret2
      exact ⟨rfl, HE.out⟩
end Go.Proofs.Ytbpamknebjdicaa
