import Derived.Test.YtbgjnihkiolmlaaG4
namespace Go.Proofs.Ytbgjnihkiolmlaa
set_option linter.unusedVariables false
set_option linter.unusedSimpArgs false
open Go.RowKit
attribute [local go_sem ↓] Go.wp_at_zero Go.wp_at_succ

/-! Steps of a Format and of a Publish. -/
inductive St where
  | sync
  | lay (s : Sup) (a b : Nat)
def St.fn : St → Nat
  | .sync => 41
  | .lay _ _ _ => 62
def St.first (p : Nat) : St → Array Value
  | .sync => #[.pointer (some ⟨p, 0, none⟩)]
  | .lay _ _ _ => #[]
def St.cap : St → Array Value
  | .sync => #[]
  | .lay _ a b => #[.pointer (some ⟨b, 0, none⟩), .pointer (some ⟨a, 0, none⟩)]
def St.there (w : World) (p : Nat) : St → Prop
  | .sync => True
  | .lay s a b => validS s = true ∧ w.heap[a]? = some (.cells #[.pointer (some ⟨p, 0, none⟩)] 24 (0, 0)) ∧ w.heap[b]? = some (.cells (supC s) 37 (0, 0))
/-- A sync. -/
def sy (D : DS) : DS × Int := if D.armed = 1 then (D.acted, 2) else (D.synced, 0)
def St.go : St → DS → DS × Int
  | .sync, D => sy D
  | .lay s _ _, D => (D.wr ⟨(s.ge % 2).toNat, secP s⟩, D.actE)
def runS (D : DS) : List St → DS × Int
  | [] => (D, 0)
  | x :: r => if (x.go D).2 = 0 then runS (x.go D).1 r else x.go D
/-- Room for so many more. -/
structure Bud (D : DS) (k : Nat) : Prop where
  pw : D.power = true
  ops : D.ops.length + k < 400000000000
  writes : D.writes + k < 4000000000000000000
  syncs : D.syncs + k < 4000000000000000000
theorem Bud.less {D : DS} {k m : Nat} (h : Bud D k) (hm : m ≤ k) : Bud D m := ⟨h.pw, by have := h.ops; omega, by have := h.writes; omega, by have := h.syncs; omega⟩
theorem acted_pw {D : DS} (h : D.armed ≠ 1) : D.acted.power = D.power := by
  unfold DS.acted; split
  · rfl
  · first | rfl | (rw [if_neg h])
theorem St.bud {D : DS} {k : Nat} (h : Bud D (k + 1)) (x : St) (h0 : (x.go D).2 = 0) : Bud (x.go D).1 k := by
  obtain ⟨h1, h2, h3, h4⟩ := h
  cases x with
  | sync =>
    show Bud (sy D).1 k
    change (sy D).2 = 0 at h0
    unfold sy at h0 ⊢
    by_cases c : D.armed = 1
    · rw [if_pos c] at h0; exact absurd (show (2 : Int) = 0 from h0) (by decide)
    · rw [if_neg c]
      obtain ⟨e1, e2, e3, e4, e5, e6⟩ := acted_same D
      exact ⟨(acted_pw c).trans h1, by show ([] : List OW).length + k < _; simp; omega, by show D.acted.writes + k < _; rw [e5]; omega, by show D.syncs + 1 + k < _; omega⟩
  | lay s a b =>
    change D.actE = 0 at h0
    have c : D.armed ≠ 1 := by intro c; unfold DS.actE at h0; rw [if_pos c] at h0; exact absurd h0 (by decide)
    have e := acted_same { D.pushed ⟨(s.ge % 2).toNat, secP s⟩ with writes := D.writes + 1 }
    obtain ⟨e1, e2, e3, e4, e5, e6⟩ := e
    show Bud (D.wr ⟨(s.ge % 2).toNat, secP s⟩) k
    refine ⟨?_, ?_, ?_, ?_⟩
    · unfold DS.wr; rw [acted_pw (by exact c)]; exact h1
    · unfold DS.wr; rw [e2]; simp [DS.pushed]; omega
    · unfold DS.wr; rw [e5]; show D.writes + 1 + k < _; omega
    · unfold DS.wr; rw [e6]; show D.syncs + k < _; omega
theorem St.call {w : World} {base : Nat} {F : List Nat} {p : Nat} {D : DS} (h : DA w base F p D) (hbw : base ≤ w.heap.size) {k : Nat} (hb : Bud D (k + 1)) (x : St) (ht : x.there w p) :
    Calls Try.prog x.fn (x.first p ++ x.cap) w fun e w' => e = .returned (.int .i64 (x.go D).2) ∧ Nx base F p w (x.go D).1 w' := by
  obtain ⟨h1, h2, h3, h4⟩ := hb
  cases x with
  | sync =>
    show Calls Try.prog 41 #[.pointer (some ⟨p, 0, none⟩)] w fun e w' => e = .returned (.int .i64 (sy D).2) ∧ Nx base F p w (sy D).1 w'
    unfold sy
    by_cases c : D.armed = 1
    · rw [if_pos c]; exact Sync_last w base F p D h h1 c
    · rw [if_neg c]; exact Sync_any w base F p D h h1 c (by omega)
  | lay s a b =>
    obtain ⟨hv, ha, hb⟩ := ht
    have hvv := (validS_iff s).1 hv
    exact laying1_any w base F p D h hbw h1 s hv (by omega) (by omega) a b ha hb (s.ge % 2).toNat (by omega)
theorem St.keep {w w1 : World} {F : List Nat} {p base : Nat} {D : DS} (h : DA w base F p D) (hf : Fr F w w1) (x : St) (ht : x.there w p) : x.there w1 p := by
  cases x with
  | sync => trivial
  | lay s a b =>
    obtain ⟨hv, ha, hb⟩ := ht
    exact ⟨hv, hf.keep ha (h.not_in ha (by decide) (by decide) (by decide)), hf.keep hb (h.not_in hb (by decide) (by decide) (by decide))⟩
/-- Ahead of step k. -/
def TI (w w' : World) (base : Nat) (F : List Nat) (p : Nat) (D0 : DS) (all : List St) (k : Nat) : Prop :=
  ∃ D F', DA w' base F' p D ∧ Fr F w w' ∧ Gr w F F' ∧ runS D (all.drop k) = runS D0 all ∧ Bud D (all.length - k)
theorem TI.start {w : World} {base : Nat} {F : List Nat} {p : Nat} {D0 : DS} (h : DA w base F p D0) (all : List St) (hb : Bud D0 all.length) : TI w w base F p D0 all 0 :=
  ⟨D0, F, h, Fr.refl _ _, Gr.refl _ _, rfl, hb⟩
theorem TI.step {w w' : World} {base : Nat} {F : List Nat} {p : Nat} {D0 : DS} (h0 : DA w base F p D0) (hbw : base ≤ w.heap.size) {all : List St} {k : Nat} (h : TI w w' base F p D0 all k) (hk : k < all.length) (ht : ∀ x ∈ all, x.there w p) :
    Calls Try.prog (all.getD k .sync).fn ((all.getD k .sync).first p ++ (all.getD k .sync).cap) w' fun e w2 => ∃ x, e = .returned (.int .i64 x) ∧ (x = 0 → TI w w2 base F p D0 all (k + 1)) ∧ (x ≠ 0 → x = (runS D0 all).2 ∧ Nx base F p w (runS D0 all).1 w2) := by
  obtain ⟨D, F', hD, hF, hG, hr, hb⟩ := h
  have e : all.getD k .sync = all[k] := by rw [List.getD_eq_getElem?_getD, List.getElem?_eq_getElem hk]; rfl
  rw [e]
  have hd : all.drop k = all[k] :: all.drop (k + 1) := List.drop_eq_getElem_cons hk
  rw [hd] at hr
  have hth := St.keep h0 hF _ (ht all[k] (List.getElem_mem hk))
  have hb1 : Bud D (all.length - (k + 1) + 1) := by rw [show all.length - (k + 1) + 1 = all.length - k by omega]; exact hb
  refine (St.call hD (Nat.le_trans hbw hF.size) hb1 _ hth).mono ?_
  rintro e w2 ⟨rfl, F2, q1, q2, q3⟩
  refine ⟨_, rfl, fun hx => ?_, fun hx => ?_⟩
  · refine ⟨_, F2, q1, hF.trans q2 hG, hG.trans q3 hF.size, ?_, St.bud hb1 _ hx⟩
    rw [← hr, runS, if_pos hx]
  · rw [runS, if_neg hx] at hr
    rw [← hr]
    exact ⟨rfl, F2, q1, hF.trans q2 hG, hG.trans q3 hF.size⟩
theorem TI.done {w w' : World} {base : Nat} {F : List Nat} {p : Nat} {D0 : DS} {all : List St} (h : TI w w' base F p D0 all all.length) : (runS D0 all).2 = 0 ∧ Nx base F p w (runS D0 all).1 w' := by
  obtain ⟨D, F', hD, hF, hG, hr, hb⟩ := h
  rw [List.drop_length] at hr
  rw [← hr]
  exact ⟨rfl, F', hD, hF, hG⟩
theorem ent_sync : ∀ (args : Array Value) (w : World), (callFunc 41 args).run Try.prog w = .ok (.enter 41 args) w := enters_of Try.func41 (by kernel_rfl) rfl
theorem ent_lay : ∀ (args : Array Value) (w : World), (callFunc 62 args).run Try.prog w = .ok (.enter 62 args) w := enters_of Try.func62 (by kernel_rfl) rfl
theorem St.ent (x : St) : ∀ (args : Array Value) (w : World), (callFunc x.fn args).run Try.prog w = .ok (.enter x.fn args) w := by
  cases x with
  | sync => exact ent_sync
  | lay _ _ _ => exact ent_lay
def St.val (p : Nat) (x : St) : Value := .func (.func x.fn) (x.first p) x.cap
theorem turn_any (w : World) (base : Nat) (F : List Nat) (p : Nat) (D0 : DS) (h : DA w base F p D0) (hbw : base ≤ w.heap.size) (all : List St) (hn : all.length ≤ 100) (hb : Bud D0 all.length) (ht : ∀ x ∈ all, x.there w p) (g : Nat) (hg : w.heap[g]? = some (.cells (all.map (St.val p)).toArray 86 (0, 0))) :
    Calls Try.prog 39 #[.slice (some ⟨g, 0, none⟩) all.length all.length] w fun e w2 => e = .returned (.int .i64 (runS D0 all).2) ∧ Nx base F p w (runS D0 all).1 w2 := by
  refine (inTurn_any w g all.length hn (fun k => (all.getD k .sync).fn) (fun k => (all.getD k .sync).first p) (fun k => (all.getD k .sync).cap) (fun k w' => TI w w' base F p D0 all k) (fun x w' => x = (runS D0 all).2 ∧ Nx base F p w (runS D0 all).1 w') (fun k _ => St.ent _) (TI.start h all hb) ?_ ?_).mono ?_
  · intro k w1 hk hI
    obtain ⟨D, F', hD, hF, hG, _⟩ := hI
    have hg1 := hF.keep hg (h.not_in hg (by decide) (by decide) (by decide))
    rw [cell_of_row _ _ _ _ _ _ hg1, List.getElem?_toArray, List.getElem?_map, List.getElem?_eq_getElem hk, List.getD_eq_getElem?_getD, List.getElem?_eq_getElem hk]
    rfl
  · intro k w1 hk hI
    exact TI.step h hbw hI hk ht
  · rintro e w2 ⟨x, rfl, h1, h2⟩
    by_cases hx : x = 0
    · obtain ⟨q1, q2⟩ := (h1 hx).done
      rw [q1, hx]; exact ⟨rfl, q2⟩
    · obtain ⟨q1, q2⟩ := h2 hx
      rw [q1]; exact ⟨rfl, q2⟩
end Go.Proofs.Ytbgjnihkiolmlaa
