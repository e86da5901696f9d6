import Derived.Test.YtihkjfbhmlfonaaSd
import Derived.Test.YtihkjfbhmlfonaaG9
import Derived.Test.YtihkjfbhmlfonaaE4a
import Derived.RangeFuncNested
import Derived.RangeFuncBound
import Derived.RangeFuncCalls
import Derived.RangeFuncLeaves
import Derived.RangeFuncFrom
import Derived.ControlIn
import Derived.OwnWalkIn
import Derived.OrdersIn
import Derived.TacticsInMore
import Derived.LoopNIn
import Derived.LoopIn
import Derived.WalkKit
import Derived.Shelf.Abstract
import Derived.Shelf.RegionOpen
namespace Go.Proofs.Ytihkjfbhmlfonaa
set_option linter.unusedVariables false
set_option linter.unusedSimpArgs false
open Go.RowKit
open Go.Proofs.Ytihkjfbhmlfonaa.Ca (Ct ct0 ctC argV AS)
attribute [local go_sem ↓] Go.wp_at_zero Go.wp_at_succ

/-- What the law asks behind a Flush. -/
def FlA (base : Nat) (S : Sto) (w : World) (e : Ending) (w' : World) : Prop :=
  ∃ (s' : Sup) (sp : Option Addr) (n cap : Nat), e = .returned (.int .i64 (if S.D.armed ≤ S.vs.length + 3 then 2 else 0)) ∧ FK w' S.g S.p s' s'.ma S.ep ∧ w'.cell? ⟨S.st, 0, none⟩ = some (.pointer (some ⟨S.g, 0, none⟩)) ∧ w'.cell? ⟨S.st, 3, none⟩ = some (.slice sp n cap) ∧ (S.D.armed ≤ S.vs.length + 3 → s'.ma = 2 ∧ n = S.vs.length) ∧ (S.vs.length + 3 < S.D.armed → s'.ma = 2 + S.vs.length ∧ n = 0) ∧ Below base w w'
set_option maxRecDepth 100000 in
set_option maxHeartbeats 2000000 in
theorem flush_arm (w : World) (base : Nat) (S : Sto) (h : SK w base S) (hlv : liveF S.D S.ep = 0) (hcl : S.cts.length ≤ 1000) (hma : S.s.ma = 2) (hnx : S.nx = 2) (hnp : 2 + S.vs.length ≤ S.D.np) (hge : S.s.ge = 1) (hwd : 1 ≤ S.s.wd ∧ S.s.wd ≤ 32) (hpg : 3 ≤ S.s.pg ∧ S.s.pg ≤ 4096 ∧ 2 + S.vs.length ≤ S.s.pg) (ha : 1 ≤ S.D.armed) (hops : S.D.ops = []) (hwr : S.D.writes ≤ 1000) (hsy : S.D.syncs ≤ 1000) (hN : S.N < 1000000) :
    Calls Try.prog 27 #[.pointer (some ⟨S.st, 0, none⟩), .int .i64 0] w (FlA base S w) := by
  have hvl := h.cl
  have hbw := h.base
  have PUB := fun (w1 : World) (hb : Below w.heap.size w w1) => opublish_any w1 base S (h.below hb) hlv (by omega) 2 hma (by omega) (by omega) hnp 0 (Or.inl rfl) (by rw [hge]; omega) (by
    rw [validS_iff]; dsimp only
    exact ⟨hwd.1, hwd.2, by omega, by omega, hpg.1, hpg.2.1, by omega, by push_cast; omega, Or.inl rfl⟩) (fun hl => by
      have hp := live_pw hl
      have hk : (S.vs.length : Int) < S.D.armed := by
        rcases Int.lt_or_le (S.vs.length : Int) S.D.armed with q | q
        · exact q
        · have := appD_dead S.vs S.D 2 ha q
          rw [this] at hp; cases hp
      obtain ⟨_, _, _, q4, q5, q6⟩ := appD_arm S.vs S.D 2 hk
      exact ⟨hp, by rw [q4, hops]; simp; omega, by rw [q5]; omega, by rw [q6]; omega⟩) (by rw [hops]; simp; omega) (by omega)
  have hgF : ∀ k ∈ S.g :: S.F, base ≤ k := fun k hk => (h.in_lt (by rcases List.mem_cons.1 hk with z | z <;> simp [z])).1
  obtain ⟨svp, svc, esv⟩ := h.svf
  by_cases hc : S.D.armed ≤ S.vs.length + 3
  · refine oFlush_bad w base S h hlv (by rw [hge]; decide) (FlA base S w) (fun w1 hb => ?_)
    refine (PUB w1 hb).mono fun e w' ⟨c, D', s', F', he, hP, hD, hf, hF, hG⟩ => ?_
    obtain ⟨rfl, rfl⟩ := (pubEnd_arm hP ha).1 hc
    have h1 := h.below hb
    have o1 := (h1.off hF).1.trans h1.sk
    refine ⟨2, by decide, he, S.s, svp, S.cts.length, svc, by rw [if_pos hc], hf, ?_, ?_, fun _ => ⟨hma, hvl⟩, fun q => by omega, (hb.mono hbw).trans (hF.below hgF (Nat.le_trans hbw hb.size))⟩
    · rw [cell_of_row _ _ _ _ _ _ o1]; rfl
    · rw [cell_of_row _ _ _ _ _ _ o1, ← esv]; rfl
  · obtain ⟨s2, hs2⟩ : ∃ s2 : Sup, s2 = ⟨S.s.wd, S.s.ge + 1, (2 + S.vs.length : Nat), 0, S.s.pg⟩ := ⟨_, rfl⟩
    refine (oFlush_ok w base S h hlv (by rw [hge]; decide) (by omega) (fun w3 => w3.heap[S.st]? = some (.cells (stC S.g S.pc S.sv).toArray 79 (0, 0)) ∧ FK w3 S.g S.p s2 s2.ma S.ep ∧ Below base w w3) (fun w1 hb => ?_)).mono ?_
    · refine (PUB w1 hb).mono fun e w' ⟨c, D', s', F', he, hP, hD, hf, hF, hG⟩ => ?_
      obtain ⟨rfl, rfl⟩ := (pubEnd_arm hP ha).2 (by omega)
      have h1 := h.below hb
      obtain ⟨o1, o2, o3, o4⟩ := h1.off hF
      refine ⟨he, o1.trans h1.sk, ?_, o1.trans h1.sk, by rw [hs2]; exact hf, (hb.mono hbw).trans (hF.below hgF (Nat.le_trans hbw hb.size))⟩
      obtain ⟨mm, n, s, L, e, c, r⟩ := h1.ca
      exact ⟨mm, n, s, L, e, c.of_heap fun k hk => o4 k (by rw [e]; exact hk), r⟩
    · rintro e w' ⟨w3, rfl, ⟨r3, hf3, hb3⟩, F2, hC, hFr, hGr⟩
      have r4 : (w3.setCell ⟨S.st, 3, none⟩ (.slice none 0 0)).heap[S.st]? = some (.cells (stC S.g S.pc (.slice none 0 0)).toArray 79 (0, 0)) := by rw [heap_setCell_same _ _ _ _ _ _ r3]; rfl
      have hs3 : (w3.setCell ⟨S.st, 3, none⟩ (.slice none 0 0)).heap.size = w3.heap.size := by simp [World.setCell]
      have r5 : w'.heap[S.st]? = some (.cells (stC S.g S.pc (.slice none 0 0)).toArray 79 (0, 0)) := (hFr.block S.st (hlt_ r4) h.st_apart.2.2.1).trans r4
      have hg4 : (w3.setCell ⟨S.st, 3, none⟩ (.slice none 0 0)).heap[S.g]? = w3.heap[S.g]? := heap_setCell_other _ ⟨S.st, 3, none⟩ S.g _ (fun q => h.st_apart.1 (by have q2 : S.g = S.st := q; exact q2.symm))
      have hf5 : FK w' S.g S.p s2 s2.ma S.ep := by
        have z := (hFr.block S.g (by rw [hs3]; exact hlt_ hf3) h.g_apart.2.1).trans hg4
        exact z.trans hf3
      refine ⟨s2, none, 0, 0, by rw [if_neg hc], hf5, by rw [cell_of_row _ _ _ _ _ _ r5]; rfl, by rw [cell_of_row _ _ _ _ _ _ r5]; rfl, fun q => absurd q hc, fun _ => ⟨by rw [hs2]; simp, rfl⟩, ?_⟩
      exact hb3.trans (((Below.refl base w3).setCell (p := ⟨S.st, 3, none⟩) h.bs _).trans (hFr.below (fun k hk => (h.in_lt (by simp [hk])).1) (by rw [hs3]; exact Nat.le_trans hbw hb3.size)))
end Go.Proofs.Ytihkjfbhmlfonaa
namespace Go.Proofs.Ytihkjfbhmlfonaa
set_option linter.unusedVariables false
set_option linter.unusedSimpArgs false
open Go.RowKit
open Go.Proofs.Ytihkjfbhmlfonaa.Ca (Ct ct0 ctC argV AS)
attribute [local go_sem ↓] Go.wp_at_zero Go.wp_at_succ

structure Pub (R : DS × Int) (D : DS) (s2 : Sup) (k : Nat) : Prop where
  ok : DsOk R.1
  np : R.1.np = D.np
  epoch : R.1.epoch = D.epoch
  reads : R.1.reads = D.reads
  writes : R.1.writes ≤ D.writes + 1
  syncs : R.1.syncs ≤ D.syncs + 2
  ops : R.1.ops.length ≤ D.ops.length + 1
  arm : D.armed = 0 → R.2 = 0 ∧ R.1.armed = 0
  two : R.2 = 0 ∨ R.2 = 2
  good : R.2 = 0 → R.1.power = true ∧ R.1.ops = [] ∧ pgO R.1.img k = secP s2 ∧ ∀ q, q < D.np → q ≠ k → pgO R.1.img q = D.readOf q
  bad : R.2 = 2 → R.1.power = false ∧ ((R.1.img = D.img ∧ R.1.ops = D.ops) ∨ (R.1.ops = [⟨k, secP s2⟩] ∧ ∀ q, q < D.np → pgO R.1.img q = D.readOf q))
theorem pub_all {D : DS} (hok : DsOk D) (hp : D.power = true) (hbud : Bud D 3) (s2 : Sup) (hv : validS s2 = true) (k : Nat) (hk : s2.ge % 2 = (k : Int)) : Pub (runS D [.sync, .lay s2 0 0, .sync]) D s2 k := by
  obtain ⟨h3, h4, hn, _⟩ := hok.np
  have hk2 : (s2.ge % 2).toNat = k := by omega
  have hk3 : k < 2 := by omega
  have ha := hok.armed.1
  have hsy : ∀ X : DS, X.armed ≠ 1 → St.go .sync X = (X.synced, 0) := fun X hX => by show sy X = _; unfold sy; rw [if_neg hX]
  have hsz : ∀ X : DS, X.armed = 1 → St.go .sync X = (X.acted, 2) := fun X hX => by show sy X = _; unfold sy; rw [if_pos hX]
  by_cases k1 : D.armed = 1
  · have hr : runS D [.sync, .lay s2 0 0, .sync] = (D.acted, 2) := by rw [runS, hsz D k1]; rfl
    obtain ⟨c1, c2, c3, c4, c5, c6⟩ := acted_same D
    rw [hr]
    exact ⟨acted_ok hok, np_img (by rw [c1]), c3, c4, by show D.acted.writes ≤ _; omega, by show D.acted.syncs ≤ _; omega, by show D.acted.ops.length ≤ _; rw [c2]; omega, fun q => by omega, Or.inr rfl, fun q => absurd (show (2 : Int) = 0 from q) (by decide), fun _ => ⟨(acted_arm D ha).2.2 k1, Or.inl ⟨c1, c2⟩⟩⟩
  -- the first sync
  obtain ⟨D1, hD1⟩ : ∃ D1, D1 = D.synced := ⟨_, rfl⟩
  have ok1 := synced_ok hok (by have := hbud.syncs; omega)
  have np1 := sync_np hok
  have p1 : ∀ q, q < D.np → pgO D1.img q = D.readOf q := fun q hq => by rw [hD1]; exact sync_read hok q hq
  rw [← hD1] at ok1 np1
  have s1 : D1.ops = [] ∧ D1.epoch = D.epoch ∧ D1.reads = D.reads ∧ D1.writes = D.writes ∧ D1.syncs = D.syncs + 1 := by
    obtain ⟨c1, c2, c3, c4, c5, c6⟩ := acted_same D
    rw [hD1]; exact ⟨rfl, c3, c4, c5, rfl⟩
  have a1 := sync_arm D ha k1
  rw [← hD1] at a1
  have r0 : runS D [.sync, .lay s2 0 0, .sync] = runS D1 [.lay s2 0 0, .sync] := by rw [runS, hsy D k1, if_pos rfl, hD1]
  -- the write
  obtain ⟨D2, hD2⟩ : ∃ D2, D2 = D1.wr ⟨k, secP s2⟩ := ⟨_, rfl⟩
  have e2 := wr_img D1 ⟨k, secP s2⟩
  have ok2 := wr_ok ok1 (o := ⟨k, secP s2⟩) ⟨by show k < D1.np; omega, secP_len _, secP_byts hv⟩ (by rw [s1.1]; decide) (by rw [s1.2.2.2.1]; have := hbud.writes; omega)
  have n1 : 0 ≤ D1.armed := ok1.armed.1
  have a2 := wr_arm D1 ⟨k, secP s2⟩ n1
  rw [← hD2] at e2 ok2 a2
  rw [s1.1, List.nil_append] at e2
  have np2 : D2.np = D.np := (np_img (by rw [e2.1])).trans np1
  have st2 : St.go (.lay s2 0 0) D1 = (D2, D1.actE) := by rw [hD2]; show (D1.wr ⟨(s2.ge % 2).toNat, secP s2⟩, D1.actE) = _; rw [hk2]
  have p2 : ∀ q, q < D.np → pgO D2.img q = D.readOf q := fun q hq => by rw [e2.1]; exact p1 q hq
  by_cases k2 : D1.armed = 1
  · have hr : runS D [.sync, .lay s2 0 0, .sync] = (D2, 2) := by rw [r0, runS, st2, actE_2 k2]; rfl
    rw [hr]
    exact ⟨ok2, np2, e2.2.2.1.trans s1.2.1, e2.2.2.2.1.trans s1.2.2.1, by show D2.writes ≤ _; omega, by show D2.syncs ≤ _; omega, by show D2.ops.length ≤ _; rw [e2.2.1]; simp, fun q => by rw [a1.1, if_pos q] at k2; omega, Or.inr rfl, fun q => absurd (show (2 : Int) = 0 from q) (by decide), fun _ => ⟨a2.2.2 k2, Or.inr ⟨e2.2.1, p2⟩⟩⟩
  have r1 : runS D [.sync, .lay s2 0 0, .sync] = runS D2 [.sync] := by rw [r0, runS, st2, actE_0 k2, if_pos rfl]
  have n2 : 0 ≤ D2.armed := ok2.armed.1
  by_cases k3 : D2.armed = 1
  · have hr : runS D [.sync, .lay s2 0 0, .sync] = (D2.acted, 2) := by rw [r1, runS, hsz D2 k3]; rfl
    obtain ⟨c1, c2, c3, c4, c5, c6⟩ := acted_same D2
    rw [hr]
    exact ⟨acted_ok ok2, (np_img (by rw [c1])).trans np2, c3.trans (e2.2.2.1.trans s1.2.1), c4.trans (e2.2.2.2.1.trans s1.2.2.1), by show D2.acted.writes ≤ _; omega, by show D2.acted.syncs ≤ _; omega, by show D2.acted.ops.length ≤ _; rw [c2, e2.2.1]; simp, fun q => by rw [a2.1, a1.1, if_pos q, if_pos rfl] at k3; omega, Or.inr rfl, fun q => absurd (show (2 : Int) = 0 from q) (by decide), fun _ => ⟨(acted_arm D2 n2).2.2 k3, Or.inr ⟨c2.trans e2.2.1, fun q hq => by show pgO D2.acted.img q = _; rw [c1]; exact p2 q hq⟩⟩⟩
  obtain ⟨D3, hD3⟩ : ∃ D3, D3 = D2.synced := ⟨_, rfl⟩
  have ok3 := synced_ok ok2 (by rw [e2.2.2.2.2.2, s1.2.2.2.2]; have := hbud.syncs; omega)
  have np3 := (sync_np ok2).trans np2
  have p3 := sync_one ok2 k _ e2.2.1 (by omega)
  have a3 := sync_arm D2 n2 k3
  rw [← hD3] at ok3 np3 p3 a3
  have hr : runS D [.sync, .lay s2 0 0, .sync] = (D3, 0) := by rw [r1, runS, hsy D2 k3, if_pos rfl, hD3]; rfl
  obtain ⟨c1, c2, c3, c4, c5, c6⟩ := acted_same D2
  rw [hr]
  refine ⟨ok3, np3, by rw [hD3]; exact c3.trans (e2.2.2.1.trans s1.2.1), by rw [hD3]; exact c4.trans (e2.2.2.2.1.trans s1.2.2.1), ?_, ?_, ?_, fun q => ⟨rfl, ?_⟩, Or.inl rfl, fun _ => ⟨?_, by rw [hD3]; rfl, p3.1, fun q hq hne => ?_⟩, fun q => absurd (show (0 : Int) = 2 from q) (by decide)⟩
  · show D3.writes ≤ _; rw [hD3]; show D2.acted.writes ≤ _; omega
  · show D3.syncs ≤ _; rw [hD3]; show D2.syncs + 1 ≤ _; omega
  · show D3.ops.length ≤ _; rw [hD3]; show ([] : List OW).length ≤ _; simp
  · show D3.armed = 0; rw [a3.1, a2.1, a1.1, if_pos q]; rfl
  · show D3.power = true; rw [a3.2, a2.2.1 k2, a1.2, hp]
  · show pgO D3.img q = _; rw [p3.2 q (by omega) hne]; exact p2 q hq
/-- A page that is appended stands; pages below are as they were. -/
theorem appD_read : ∀ (l : List (Int × List Int)) (D : DS) (m : Nat),
    (∀ q, q < m → (appD D m l).readOf q = D.readOf q) ∧ (∀ j, j < l.length → (appD D m l).readOf (m + j) = pageP (l.getD j (0, [])).1 ((m + j : Nat) : Int) (l.getD j (0, [])).2) ∧ (∀ q, m + l.length ≤ q → (appD D m l).readOf q = D.readOf q)
  | [], D, m => ⟨fun q _ => rfl, fun j hj => by simp at hj, fun q _ => rfl⟩
  | v :: r, D, m => by
    obtain ⟨h1, h2, h3⟩ := appD_read r (D.wr ⟨m, pageP v.1 m v.2⟩) (m + 1)
    have e := wr_img D ⟨m, pageP v.1 m v.2⟩
    have rd : ∀ q, (D.wr ⟨m, pageP v.1 m v.2⟩).readOf q = if m = q then pageP v.1 m v.2 else D.readOf q := fun q => readOf_snoc e.1 e.2.1 q
    refine ⟨fun q hq => ?_, fun j hj => ?_, fun q hq => by
      show (appD (D.wr _) (m + 1) r).readOf q = _
      rw [List.length_cons] at hq
      rw [h3 q (by omega), rd q, if_neg (by omega)]⟩
    · show (appD (D.wr _) (m + 1) r).readOf q = _
      rw [h1 q (by omega), rd q, if_neg (by omega)]
    · show (appD (D.wr _) (m + 1) r).readOf (m + j) = _
      cases j with
      | zero => exact (h1 m (by omega)).trans ((rd m).trans (if_pos rfl))
      | succ j =>
        have := h2 j (by simpa using hj)
        rw [show m + 1 + j = m + (j + 1) by omega] at this
        rw [this]; rfl
theorem appD_ok : ∀ (l : List (Int × List Int)) (D : DS) (m : Nat), DsOk D → (∀ v ∈ l, (1 ≤ v.1 ∧ v.1 ≤ 3) ∧ v.2.length ≤ 246 ∧ Byts v.2) → m + l.length ≤ D.np → D.ops.length + l.length < 400000000000 → D.writes + l.length < 4000000000000000000 → DsOk (appD D m l) ∧ (appD D m l).np = D.np
  | [], D, m, h, _, _, _, _ => ⟨h, rfl⟩
  | v :: r, D, m, h, hv, hm, ho, hw => by
    simp only [List.length_cons] at hm ho hw
    obtain ⟨k1, k2, k3⟩ := hv v (by simp)
    have e := wr_img D ⟨m, pageP v.1 m v.2⟩
    have ok := wr_ok h (o := ⟨m, pageP v.1 m v.2⟩) ⟨by show m < D.np; omega, pageP_len _ _ _ k2, pageP_byts _ _ _ ⟨by omega, by omega⟩ k2 k3⟩ (by omega) (by push_cast at hw; omega)
    have np : (D.wr ⟨m, pageP v.1 m v.2⟩).np = D.np := np_img (by rw [e.1])
    obtain ⟨q1, q2⟩ := appD_ok r (D.wr ⟨m, pageP v.1 m v.2⟩) (m + 1) ok (fun x hx => hv x (by simp [hx])) (by rw [np]; omega) (by rw [e.2.1, List.length_append, List.length_singleton]; omega) (by rw [e.2.2.2.2.1]; push_cast at hw ⊢; omega)
    exact ⟨q1, q2.trans np⟩
/-- The disk behind a Flush that goes well. -/
structure Pbd (S : Sto) (m : Nat) (s2 : Sup) (D' : DS) : Prop where
  ok : DsOk D'
  np : D'.np = S.D.np
  epoch : D'.epoch = S.D.epoch
  reads : D'.reads = S.D.reads
  pw : D'.power = true
  ops : D'.ops = []
  old : ∀ q, 2 ≤ q → q < m → D'.readOf q = S.D.readOf q
  new : ∀ j, j < S.vs.length → D'.readOf (m + j) = pageP (S.vs.getD j (0, [])).1 ((m + j : Nat) : Int) (S.vs.getD j (0, [])).2
  slot : pgO D'.img (s2.ge % 2).toNat = secP s2
  other : ∀ q, q < 2 → q ≠ (s2.ge % 2).toNat → pgO D'.img q = S.D.readOf q
  rest : ∀ q, m + S.vs.length ≤ q → q < S.D.np → D'.readOf q = S.D.readOf q
theorem appD_same : ∀ (l : List (Int × List Int)) (D : DS) (m : Nat), (appD D m l).epoch = D.epoch ∧ (appD D m l).reads = D.reads ∧ (appD D m l).syncs = D.syncs ∧ (appD D m l).writes = D.writes + l.length ∧ (appD D m l).ops.length = D.ops.length + l.length
  | [], D, m => by simp [appD]
  | v :: r, D, m => by
    obtain ⟨h1, h2, h3, h4, h5⟩ := appD_same r (D.wr ⟨m, pageP v.1 m v.2⟩) (m + 1)
    obtain ⟨e1, e2, e3, e4, e5, e6⟩ := wr_img D ⟨m, pageP v.1 m v.2⟩
    simp only [appD, List.length_cons]
    exact ⟨h1.trans e3, h2.trans e4, h3.trans e6, by rw [h4, e5]; push_cast; omega, by rw [h5, e2, List.length_append, List.length_singleton]; omega⟩
theorem pubEnd_go {S : Sto} {m : Nat} {hd : Int} {D' : DS} {s' : Sup} (h : PubEnd S m hd 0 D' s') (hok : DsOk S.D) (hv : ∀ v ∈ S.vs, (1 ≤ v.1 ∧ v.1 ≤ 3) ∧ v.2.length ≤ 246 ∧ Byts v.2) (hm : 2 ≤ m) (hnp : m + S.vs.length ≤ S.D.np) (ho : S.D.ops.length + S.vs.length < 300000000000) (hw : S.D.writes + S.vs.length < 3000000000000000000) (hs : S.D.syncs < 3000000000000000000) (hge : 0 ≤ S.s.ge) (hval : validS ⟨S.s.wd, S.s.ge + 1, (m + S.vs.length : Nat), hd, S.s.pg⟩ = true) :
    s' = ⟨S.s.wd, S.s.ge + 1, (m + S.vs.length : Nat), hd, S.s.pg⟩ ∧ Pbd S m s' D' := by
  rcases h with ⟨i, hi, h1, h2, h3, h4, h5⟩ | ⟨h1, h2, h3, h4⟩
  · cases h3
  · rw [if_pos rfl] at h4
    obtain ⟨q1, q2⟩ := appD_ok S.vs S.D m hok hv hnp (by omega) (by omega)
    obtain ⟨a1, a2, a3, a4, a5⟩ := appD_same S.vs S.D m
    obtain ⟨r1, r2, r3⟩ := appD_read S.vs S.D m
    have hP := pub_all q1 (live_pw h1) ⟨live_pw h1, by rw [a5]; omega, by rw [a4]; omega, by rw [a3]; omega⟩ ⟨S.s.wd, S.s.ge + 1, (m + S.vs.length : Nat), hd, S.s.pg⟩ hval ((S.s.ge + 1) % 2).toNat (by show (S.s.ge + 1) % 2 = _; omega)
    rw [← h4] at hP h3 h2
    obtain ⟨g1, g2, g3, g4⟩ := hP.good h2.symm
    have hk : ((S.s.ge + 1) % 2).toNat < 2 := by omega
    have hge2 : s'.ge = S.s.ge + 1 := by rw [h4]
    rw [← h3] at g1 g2 g3 g4
    refine ⟨h4, ⟨by rw [h3]; exact hP.ok, by rw [h3]; exact hP.np.trans q2, by rw [h3]; exact hP.epoch.trans a1, by rw [h3]; exact hP.reads.trans a2, g1, g2, fun q h2 hq => ?_, fun j hj => ?_, by rw [hge2]; exact g3, fun q hq hn => ?_, fun q hq hn => by rw [readOf_nil g2, g4 q (by rw [q2]; omega) (by omega), r3 q hq]⟩⟩
    · rw [readOf_nil g2, g4 q (by rw [q2]; omega) (by omega), r1 q hq]
    · rw [readOf_nil g2, g4 (m + j) (by rw [q2]; omega) (by omega), r2 j hj]
    · rw [hge2] at hn
      rw [g4 q (by rw [q2]; omega) hn, r1 q (by omega)]
end Go.Proofs.Ytihkjfbhmlfonaa
namespace Go.Proofs.Ytihkjfbhmlfonaa
set_option linter.unusedVariables false
set_option linter.unusedSimpArgs false
open Go.RowKit
open Go.Proofs.Ytihkjfbhmlfonaa.Ca (Ct ct0 ctC argV AS)
attribute [local go_sem ↓] Go.wp_at_zero Go.wp_at_succ

/-- A page comes into the cache as a clean one. -/
theorem SK.put {w2 w3 : World} {base : Nat} {S : Sto} (h : SK w2 base S) {F' : List Nat} {N' : Nat} {a' : AS Int Ct} (hC : Ca.CA w3 base F' S.pc N' a') (hF : Fr S.FC w2 w3) (hG : Gr w2 S.FC F') (c : Ct) (v : Int × List Int) (pg : Int) (hci : CtIs w2 base S.lb c v) (h2 : 2 ≤ pg ∧ pg < S.s.ma) (hu : unpackF pg (S.D.readOf pg.toNat) = (v.1, v.2, 0)) (hcl : ∀ x ∈ a'.clean, x = (pg, c) ∨ x ∈ S.a.clean) (hh : a'.held = S.a.held) :
    SK w3 base { S with FC := F', N := N', a := a' } := by
  have hold2 : ∀ k, (k = S.g ∨ k = S.st ∨ k ∈ S.F ∨ k ∈ S.FC ∨ S.sv.ownBlock = some k ∨ k ∈ S.lb) → base ≤ k ∧ k < w2.heap.size := fun k q => h.in_lt q
  have hl : ∀ k ∈ S.lb, w3.heap[k]? = w2.heap[k]? := fun k q => hF.block k (hold2 k (by simp [q])).2 (fun z => h.a3 k z q)
  refine ⟨h.da.of_heap fun k q => hF.block k (hold2 k (by simp [q])).2 (h.a1 k q), (hF.block S.g h.lt_g h.g_apart.2.1).trans h.fk, hC, (hF.block S.st h.lt_st h.st_apart.2.2.1).trans h.sk, ownsRow_heap h.so fun k e => hF.block k (hold2 k (by simp [e])).2 (h.sv_apart e).2.2.2.1, fun k q => ⟨(h.lb k q).1, ?_⟩, h.cl, fun j hj => (h.cv j hj).to (fun k q => q) hl, fun x hx => ?_, hh.trans h.hd, fun k hk q => ?_, h.a2, fun k hk q => ?_, h.bg, h.bs, h.bp⟩
  · obtain ⟨cs, hc⟩ := (h.lb k q).2
    exact ⟨cs, (hl k q).trans hc⟩
  · rcases hcl x hx with e | e
    · subst e
      exact ⟨v, hci.to (fun k q => q) hl, h2.1, h2.2, hu⟩
    · obtain ⟨v, h1, h2⟩ := h.ck x e
      exact ⟨v, h1.to (fun k q => q) hl, h2⟩
  · rcases hG k q with z | z
    · exact h.a1 k hk z
    · have := (hold2 k (by simp [hk])).2; omega
  · rcases hG k hk with z | z
    · exact h.a3 k z q
    · have := (hold2 k (by simp [q])).2; omega
/-- One more block of loads. -/
theorem SK.more {w : World} {base : Nat} {S : Sto} (h : SK w base S) (lb' : List Nat) (hsub : ∀ k ∈ S.lb, k ∈ lb') (hn : ∀ k ∈ lb', k ∈ S.lb ∨ (base ≤ k ∧ (∃ cs, w.heap[k]? = some (.cells cs 5 (0, 0))) ∧ k ∉ S.F ∧ k ∉ S.FC)) :
    SK w base { S with lb := lb' } := by
  refine ⟨h.da, h.fk, h.ca, h.sk, h.so, fun k q => ?_, h.cl, fun j hj => (h.cv j hj).to hsub (fun _ _ => rfl), fun x hx => ?_, h.hd, h.a1, fun k hk q => ?_, fun k hk q => ?_, h.bg, h.bs, h.bp⟩
  · rcases hn k q with z | z
    · exact h.lb k z
    · exact ⟨z.1, z.2.1⟩
  · obtain ⟨v, h1, h2⟩ := h.ck x hx
    exact ⟨v, h1.to hsub (fun _ _ => rfl), h2⟩
  · rcases hn k q with z | z
    · exact h.a2 k hk z
    · exact z.2.2.1 hk
  · rcases hn k q with z | z
    · exact h.a3 k hk z
    · exact z.2.2.2 hk
theorem get_none {a : AS Int Ct} {k : Int} (h : a.val k = none) : (a.get k).val k = none ∧ (a.get k).clean = a.clean ∧ (a.get k).held = a.held := by
  unfold Ca.AS.val at h
  have h1 : Ca.findL a.held k = none := by cases q : Ca.findL a.held k with
    | none => rfl
    | some x => rw [q] at h; cases h
  have h2 : Ca.findL a.clean k = none := by rw [h1] at h; simpa using h
  unfold Ca.AS.get
  rw [h1, h2]
  exact ⟨by unfold Ca.AS.val; rw [h1, h2]; rfl, rfl, rfl⟩
theorem put_clean {a : AS Int Ct} {k : Int} {c : Ct} (h : a.val k = none) : (∀ x ∈ (a.put k c).clean, x = (k, c) ∨ x ∈ a.clean) ∧ (a.put k c).held = a.held := by
  unfold Ca.AS.val at h
  have h1 : Ca.findL a.held k = none := by cases q : Ca.findL a.held k with
    | none => rfl
    | some x => rw [q] at h; cases h
  unfold Ca.AS.put
  rw [h1]
  refine ⟨fun x hx => ?_, rfl⟩
  have hx2 := List.mem_of_mem_take hx
  rcases List.mem_cons.1 hx2 with e | e
  · exact Or.inl e
  · exact Or.inr (List.mem_filter.1 e).1
/-- A page read off the disk, put into the block found. -/
theorem SK.fetched {w3 w5 : World} {base : Nat} {S : Sto} (h : SK w3 base S) (m : Nat) (hm : S.s.ma = m) (hnx : S.nx = m) {D' : DS} {o4 : Array Value} (hD : DA w5 base S.F S.p D') (hf : FK w5 S.g S.p S.s S.nx S.ep) (fr : Fr S.F (w3.alloc (.cells o4 81)) w5) (hrd : ∀ q, D'.readOf q = S.D.readOf q) (c : Ct) (kd : Int) (zs : List Int) (hO : Own w5 (w3.alloc (.cells o4 81)).heap.size (.slice c.sp c.n c.c) zs) (hc : c.kd = kd) (hkd : 1 ≤ kd ∧ kd ≤ 3) (hz : zs.length ≤ 246) (h8 : Byts zs) :
    SK (w5.setRow w3.heap.size (ctC c).toArray) base { S with D := D', nx := m, lb := (Value.slice c.sp c.n c.c).ownBlock.toList ++ S.lb } ∧ CtIs (w5.setRow w3.heap.size (ctC c).toArray) base ((Value.slice c.sp c.n c.c).ownBlock.toList ++ S.lb) c (kd, zs) ∧ (w5.setRow w3.heap.size (ctC c).toArray).heap[w3.heap.size]? = some (.cells (ctC c).toArray 81 (0, 0)) ∧ Below base w3 (w5.setRow w3.heap.size (ctC c).toArray) := by
  have hb := h.base
  have hsz : (w3.alloc (.cells o4 81)).heap.size = w3.heap.size + 1 := by simp
  have h4 := h.below (below_new w3 (.cells o4 81))
  have h5 : SK w5 base { S with F := S.F, D := D', nx := m } := h4.disked hD m hm (by rw [hm, ← hnx]; exact hf) (fr.wide S.g) (Gr.refl _ _) (fun x _ => hrd _)
  have hfb : w3.heap.size ∉ S.F := fun q => by have := (h.in_lt (k := w3.heap.size) (by simp [q])).2; omega
  have r5 : w5.heap[w3.heap.size]? = some (.cells o4 81 (0, 0)) := fr.keep (hnew w3 _) hfb
  have hob : ∀ k, (Value.slice c.sp c.n c.c).ownBlock = some k → w3.heap.size + 1 ≤ k ∧ ∃ cs, w5.heap[k]? = some (.cells cs 5 (0, 0)) := fun k e => by
    obtain ⟨q1, cur, q2⟩ := ownsRow_block hO k e
    rw [hsz] at q1
    exact ⟨q1, cur, q2⟩
  have hold2 : ∀ k, (k = S.g ∨ k = S.st ∨ k ∈ S.F ∨ k ∈ S.FC ∨ S.sv.ownBlock = some k ∨ k ∈ S.lb) → base ≤ k ∧ k < w3.heap.size := fun k q => h.in_lt q
  have hm6 := h5.more ((Value.slice c.sp c.n c.c).ownBlock.toList ++ S.lb) (fun k q => List.mem_append_right _ q) (fun k q => by
    rcases List.mem_append.1 q with z | z
    · obtain ⟨q1, q2⟩ := hob k (by simpa using z)
      exact Or.inr ⟨by omega, q2, fun y => by have := (hold2 k (by simp [show k ∈ S.F from y])).2; omega, fun y => by have := (hold2 k (by simp [show k ∈ S.FC from y])).2; omega⟩
    · exact Or.inl z)
  have hne : ∀ k, k ≠ w3.heap.size → (w5.setRow w3.heap.size (ctC c).toArray).heap[k]? = w5.heap[k]? := fun k q => setRow_other _ _ _ _ q
  refine ⟨hm6.of_heap (fun k hk => hne k ?_) (by simp), ⟨hc, (hO.base (by rw [hsz]; omega)).of_heap fun k e => hne k (by have := (hob k e).1; omega), fun k e => List.mem_append_left _ (by simp [e]), hkd, hz, h8⟩, setRow_heap _ _ _ _ _ _ r5, ?_⟩
  · rcases hk with e | e | e | e | e | e
    · have := (hold2 k (Or.inl e)).2; omega
    · have := (hold2 k (Or.inr (Or.inl e))).2; omega
    · have := (hold2 k (Or.inr (Or.inr (Or.inl e)))).2; omega
    · have := (hold2 k (Or.inr (Or.inr (Or.inr (Or.inl e))))).2; omega
    · have := (hold2 k (Or.inr (Or.inr (Or.inr (Or.inr (Or.inl e)))))).2; omega
    · rcases List.mem_append.1 e with z | z
      · have := (hob k (by simpa using z)).1; omega
      · have := (hold2 k (Or.inr (Or.inr (Or.inr (Or.inr (Or.inr z)))))).2; omega
  · exact below_setRow (((below_new w3 (.cells o4 81)).mono hb).trans (fr.below (fun k q => (hold2 k (by simp [q])).1) (by rw [hsz]; omega))) hb _
set_option maxRecDepth 100000 in
set_option maxHeartbeats 4000000 in
/-- A page that is not in memory. -/
theorem oLoad_missX (w : World) (base : Nat) (S : Sto) (h : SK w base S) (hlv : liveF S.D S.ep = 0) (hl : S.cts.length ≤ 100000) (m : Nat) (hm : S.s.ma = m) (hnx : S.nx = m) (hm2 : 2 ≤ m ∧ m ≤ 100000) (hN : S.N < 2500000000000000000) (q : Nat) (hq : 2 ≤ q ∧ q < m ∧ q < S.D.np) (hv : S.a.val (q : Int) = none) (hr : S.D.reads < 3000000000000000000) (kd : Int) (zs : List Int) (hu : unpackF q (S.D.readOf q) = (kd, zs, 0)) (hkd : 1 ≤ kd ∧ kd ≤ 3) (hz : zs.length ≤ 246) (h8 : Byts zs) :
    Calls Try.prog 19 #[.pointer (some ⟨S.st, 0, none⟩), .int .i64 q] w fun e w' => ∃ S' v, e = .returned (.tuple #[.int .i64 kd, v, .int .i64 0]) ∧ Own w' w.heap.size v zs ∧ (∀ k, v.ownBlock = some k → k ∉ S'.fp) ∧ (SK w' base S' ∧ Sam { S with D := { S.D with reads := S.D.reads + 1 } } S' ∧ S'.N = S.N + 2 ∧ S'.vs = S.vs ∧ S'.cts = S.cts ∧ ∃ c : Ct, S'.a = (S.a.get q).put q c) ∧ Below base w w' ∧ Fr S.fp w w' ∧ Gr w S.fp S'.fp := by
  have hbw := h.base
  have HL := hid (oLive_any w base S h)
  rw [hlv] at HL
  have HA := hid (fun w1 (z : Below w.heap.size w w1) => ohas_any w1 base S (h.below z) hl ⟨by omega, by omega⟩ (q : Int))
  rw [decide_eq_true (show 2 ≤ (q : Int) ∧ (q : Int) < S.s.ma + S.cts.length by omega)] at HA
  have HH := hid (fun w1 (z : Below w.heap.size w w1) => h.below z)
  have HV := hid hv
  have HWK := hid (show Ca.wfK (q : Int) from ⟨by omega, by omega⟩)
  have HBW := hid hbw
  obtain ⟨pg, hpg⟩ : ∃ pg : Int, pg = (q : Int) := ⟨_, rfl⟩
  rw [← hpg] at HA HV HWK ⊢
  have HPG := hid hpg
  clear h hl hbw hpg hv
  go_enter Try.func19, Try.ntmps19
  go_wp2_with fail
  refine HL.out.mono ?_
  rintro e w1 ⟨rfl, hb1⟩
  have HB1 := hid hb1
  clear hb1 HL
  go_wp2_with fail
  refine (HA.out w1 HB1.out).mono ?_
  rintro e w2 ⟨rfl, hb2⟩
  have HB2 := hid (HB1.out.trans (hb2.mono HB1.out.size))
  clear hb2 HB1 w1 HA
  have c2 := (HH.out w2 HB2.out).c2
  have HG : Hid (Calls Try.prog 47 #[.pointer (some ⟨S.pc, 0, none⟩), .int .i64 pg] w2 fun x w' => x = .returned (.tuple #[.agg #[.int .i64 0, .slice none 0 0], .bool false]) ∧ Ca.Nx base S.FC S.pc S.N w2 (S.a.get pg) w') := hid (by
    have := Ca.Get_any w2 base S.FC S.pc S.N S.a (HH.out w2 HB2.out).ca pg HWK.out (by omega)
    rw [HV.out] at this
    exact this)
  go_wp2_with fail
  refine HG.out.mono ?_
  rintro e w3 ⟨rfl, F3, hC3, hF3, hG3⟩
  have HS3 := hid ((HH.out w2 HB2.out).cache hC3 hF3 hG3 (get_clean S.a pg) (get_held S.a pg))
  have HB3 := hid ((HB2.out.mono HBW.out).trans (hF3.below (fun k hk => ((HH.out w2 HB2.out).in_lt (by simp [hk])).1) (Nat.le_trans HBW.out HB2.out.size)))
  have FR3 := hid ((Fr.of_below (F := S.fp) HB2.out).trans hF3 (fun k q => Or.inl ((Sto.mem S k).2 (by simp [q]))))
  have GR3 : Hid (Gr w S.FC F3) := hid (fun k q => (hG3 k q).imp id (fun z => Nat.le_trans HB2.out.size z))
  clear hC3 hF3 hG3 HG c2 HH
  have hB4 := below_new w3 (.cells #[.int .i64 0, .slice none 0 0] 81)
  have r4 := hnew w3 (.cells #[.int .i64 0, .slice none 0 0] 81)
  have HS4 := hid (HS3.out.below hB4)
  have HB4 := hid (HB3.out.trans (hB4.mono (Nat.le_trans HBW.out HB3.out.size)))
  have c1 := HS4.out.c1
  have HFR := hid (FRead_ok (w3.alloc (.cells #[.int .i64 0, .slice none 0 0] 81)) base S.F S.p S.D HS4.out.da S.g S.s S.nx S.ep HS4.out.fk hlv q ⟨hq.1, by rw [hnx]; omega, hq.2.2⟩ (by omega) kd zs hu pg HPG.out)
  have hEn : ∀ (args : Array Value) (w : World), (callFunc 42 args).run Try.prog w = .ok (.enter 42 args) w := enters_of Try.func42 (by kernel_rfl) rfl
  have R4 := hid r4
  have HFB := hid (show S.st ≠ w3.heap.size from fun z => by have q : S.st < w3.heap.size := HS3.out.lt_st; rw [z] at q; exact Nat.lt_irrefl _ q)
  clear hB4 r4
  go_wp2_with fail
  refine HFR.out.mono ?_
  rintro e w5 ⟨v5, rfl, hO5, hD5, hK5, hF5⟩
  obtain ⟨s5, c5, hv5, _, _⟩ := hO5.form
  subst hv5
  obtain ⟨c, hc⟩ : ∃ c : Ct, c = ⟨kd, s5, zs.length, c5⟩ := ⟨_, rfl⟩
  have HFT := hid (HS3.out.fetched m hm hnx hD5 hK5 hF5 (fun _ => rfl) c kd zs (by rw [hc]; exact hO5) (by rw [hc]) hkd hz h8)
  have R5 := hid (show w5.heap[w3.heap.size]? = some (.cells #[.int .i64 0, .slice none 0 0] 81 (0, 0)) from hF5.keep R4.out (fun q => Nat.lt_irrefl _ ((HS3.out.in_lt (k := w3.heap.size) (Or.inr (Or.inr (Or.inl q)))).2)))
  have HBf := hid HB3.out
  have FR5 := hid (((FR3.out.trans (Fr.of_below (F := S.fp) (below_new w3 (.cells #[.int .i64 0, .slice none 0 0] 81))) (Gr.refl _ _))).trans hF5 (fun k q => Or.inl ((Sto.mem S k).2 (by simp [q]))))
  have OB5 : Hid (∀ k, (Value.slice c.sp c.n c.c).ownBlock = some k → w.heap.size ≤ k) := hid (fun k e => by
    obtain ⟨q1, _⟩ := ownsRow_block (show Own w5 _ (.slice c.sp c.n c.c) zs by rw [hc]; exact hO5) k e
    have h1 := FR3.out.size
    have h2 : (w3.alloc (.cells #[.int .i64 0, .slice none 0 0] 81)).heap.size = w3.heap.size + 1 := by simp
    rw [h2] at q1
    omega)
  have S3 := hid FR3.out.size
  clear hO5 hD5 hK5 hF5 HFR HS4 HB4 R4 c1 hEn FR3
  have HF2 : Hid (∀ W6 : World, w5.setRow w3.heap.size (ctC c).toArray = W6 → SK W6.drew base { S with FC := F3, N := S.N + 1, a := S.a.get pg, D := { S.D with reads := S.D.reads + 1 }, nx := m, lb := (Value.slice c.sp c.n c.c).ownBlock.toList ++ S.lb } ∧ CtIs W6.drew base ((Value.slice c.sp c.n c.c).ownBlock.toList ++ S.lb) c (kd, zs) ∧ W6.drew.heap[w3.heap.size]? = some (.cells (ctC c).toArray 81 (0, 0)) ∧ Below base w W6.drew ∧ Fr S.fp w W6.drew) := hid (fun W6 e => by
    subst e
    obtain ⟨q1, q2, q3, q4⟩ := HFT.out
    have f5 := FR5.out
    exact ⟨q1.drew, q2.to (fun k q => q) (fun _ _ => rfl), q3, (HBf.out.trans q4).drew, ⟨f5.os, f5.tape, f5.output, by show w.heap.size ≤ (w5.setRow w3.heap.size (ctC c).toArray).heap.size; rw [size_setRow]; exact f5.size, fun k hk hn => (setRow_other w5 _ _ _ (by have := S3.out; omega)).trans (f5.block k hk hn)⟩⟩)
  have HNF : Hid (w3.heap.size ∉ F3) := hid (fun q => Nat.lt_irrefl _ (HS3.out.in_lt (k := w3.heap.size) (Or.inr (Or.inr (Or.inr (Or.inl q))))).2)
  have HE5 : Hid (w5.setRow w3.heap.size #[.int .i64 kd, .slice s5 zs.length c5] = w5.setRow w3.heap.size (ctC c).toArray) := hid (by rw [hc]; rfl)
  have hgn := get_none HV.out
  have HPC := hid (put_clean (c := c) hgn.1)
  have HGN := hid hgn.1
  have HUN : Hid (unpackF pg (({ S.D with reads := S.D.reads + 1 } : DS).readOf pg.toNat) = (kd, zs, 0)) := hid (by rw [HPG.out]; exact hu)
  have H2M : Hid (2 ≤ pg ∧ pg < S.s.ma) := hid (by rw [HPG.out, hm]; omega)
  have HNX := hid hnx
  have HN1 := hid (show S.N + 1 < 3000000000000000000 by omega)
  clear FR5 S3 HFT HS3 HBf HB3 hgn HV hu hm hnx hq hr hlv hN hm2 hkd hz h8 hc HB2
  generalize w3.heap.size = fb at *
  clear w3 w2
  go_wp2_with (first | (refine wpList_store_row (by rfl) 81 (.tmp 8) (.tmp 48) (by rfl) fb #[.int .i64 kd, .slice s5 zs.length c5] (by rfl) (by rfl) 81 _ R5.out (by obtain ⟨ic, hi1, hi2⟩ := size_content; rw [hi1]; show some ic.size = _; rw [hi2]; rfl) (by rfl) (by simp [Value.oneCell']) ?_; refine Hid.out ?_) | fail)
  refine hid ?_
  rw [HE5.out]
  generalize hW6 : w5.setRow fb (ctC c).toArray = W6 at *
  obtain ⟨k1, k2, k3, k4, k5⟩ := HF2.out W6 rfl
  have R6 : Hid (W6.drew.rangeAt fb 0 (ctC c)) := hid (by
    intro j v hv
    rw [cell_of_row _ _ _ _ _ _ k3]
    simpa using hv)
  have K6 : Hid (W6.drew.cell? ⟨S.st, 2, none⟩ = some (.pointer (some ⟨S.pc, 0, none⟩))) := hid k1.c2
  have HPU : Hid (Calls Try.prog 48 #[.pointer (some ⟨S.pc, 0, none⟩), .int .i64 pg, .agg (ctC c).toArray] W6.drew fun x w' => x = .returned (.tuple #[]) ∧ Ca.Nx base F3 S.pc (S.N + 1) W6.drew ((S.a.get pg).put pg c) w') := hid (Ca.Put_new W6.drew base F3 S.pc (S.N + 1) (S.a.get pg) k1.ca pg c HWK.out HN1.out HGN.out)
  have HKP : Hid (∀ w7, Ca.Nx base F3 S.pc (S.N + 1) W6.drew ((S.a.get pg).put pg c) w7 → w7.rangeAt fb 0 (ctC c) ∧ w7.cell? ⟨S.st, 2, none⟩ = some (.pointer (some ⟨S.pc, 0, none⟩))) := hid (fun w7 ⟨F7, hC, hF, hG⟩ => by
    have e1 : w7.heap[S.st]? = W6.drew.heap[S.st]? := hF.block S.st k1.lt_st k1.st_apart.2.2.1
    have e2 : w7.heap[fb]? = W6.drew.heap[fb]? := hF.block fb (hlt_ k3) HNF.out
    exact ⟨fun j v hv => (World.cell?_of_block (a := ⟨fb, 0 + j, none⟩) e2).trans (R6.out j v hv), (World.cell?_of_block (a := ⟨S.st, 2, none⟩) e1).trans K6.out⟩)
  have HKQ : Hid (∀ w7, Ca.Nx base F3 S.pc (S.N + 1) W6.drew ((S.a.get pg).put pg c) w7 → ∃ S7, SK w7 base S7 ∧ (Sam { S with D := { S.D with reads := S.D.reads + 1 } } S7 ∧ S7.N = S.N + 2 ∧ S7.vs = S.vs ∧ S7.cts = S.cts ∧ ∃ c : Ct, S7.a = (S.a.get pg).put pg c) ∧ CtIs w7 base S7.lb c (kd, zs) ∧ (Below base w w7 ∧ Fr S.fp w w7 ∧ Gr w S.fp S7.fp)) := hid (fun w7 ⟨F7, hC, hF, hG⟩ => by
    refine ⟨_, k1.put hC ⟨hF.os, hF.tape, hF.output, hF.size, hF.block⟩ hG c (kd, zs) pg k2 H2M.out HUN.out HPC.out.1 HPC.out.2, ⟨⟨rfl, rfl, rfl, rfl, rfl, rfl, HNX.out.symm, rfl⟩, rfl, rfl, rfl, c, rfl⟩, k2.to (fun k q => q) fun k z => hF.block k (k1.in_lt (Or.inr (Or.inr (Or.inr (Or.inr (Or.inr z)))))).2 (fun y => k1.a3 k y z), ?_⟩
    have g3 : Gr w S.fp F3 := fun k q => (GR3.out k q).imp (fun z => (Sto.mem S k).2 (by simp [z])) id
    refine ⟨k4.trans (Below.mk hF.os hF.tape hF.output hF.size (fun k hk => hF.block k (by have := k1.base; omega) (fun y => by have := (k1.ca.lt k y).1; omega))), k5.trans ⟨hF.os, hF.tape, hF.output, hF.size, hF.block⟩ g3, fun k q => ?_⟩
    rcases (Sto.mem _ k).1 q with e | e | e | e | e | e
    · exact Or.inl ((Sto.mem S k).2 (Or.inl e))
    · exact Or.inl ((Sto.mem S k).2 (Or.inr (Or.inl e)))
    · exact Or.inl ((Sto.mem S k).2 (Or.inr (Or.inr (Or.inl e))))
    · rcases hG k e with z | z
      · exact g3 k z
      · exact Or.inr (Nat.le_trans k5.size z)
    · rcases List.mem_append.1 e with z | z
      · exact Or.inr (OB5.out k (by simpa using z))
      · exact Or.inl ((Sto.mem S k).2 (Or.inr (Or.inr (Or.inr (Or.inr (Or.inl z))))))
    · exact Or.inl ((Sto.mem S k).2 (Or.inr (Or.inr (Or.inr (Or.inr (Or.inr e)))))))
  clear k1 k2 k3 k4 k5 GR3 OB5 HF2 hW6 HE5 R5 HUN H2M HNX HN1 HPC HGN HNF HWK
  go_wp2_with fail
  refine wp_region_noPanic ?_
  refine wp_region_held_drew (S := fun w' => w'.rangeAt fb 0 (ctC c) ∧ w'.cell? ⟨S.st, 2, none⟩ = some (.pointer (some ⟨S.pc, 0, none⟩))) (by kernel_rfl) ⟨R6.out, K6.out⟩ (fun hHeld => ?_)
  refine wpAnyH_take (i := 0) (oi := { dst := some 49, op := Op.move (Operand.tmp 0), type := 27, pos := "store.go:84", after := #[], guard := none }) (v := .pointer (some ⟨S.st, 0, none⟩)) rfl (by kernel_rfl) (by kernel_rfl) (by kernel_rfl) (fun _ _ _ h => h) (Or.inl ⟨by rfl, by intro w hS; go_simp⟩) hHeld ?_
  try simp only [Act.put, List.setIfInBounds_toArray, List.set_cons_zero, List.set_cons_succ]
  refine wpAnyH_take (i := 4) (oi := { dst := some 53, op := Op.move (Operand.tmp 1), type := 3, pos := "store.go:84", after := #[], guard := none }) (v := .int .i64 pg) rfl (by kernel_rfl) (by kernel_rfl) (by kernel_rfl) (fun _ _ _ h => h) (Or.inl ⟨by rfl, by intro w hS; go_simp⟩) hHeld ?_
  try simp only [Act.put, List.setIfInBounds_toArray, List.set_cons_zero, List.set_cons_succ]
  refine wpAnyH_take (i := 5) (oi := { dst := some 54, op := Op.load 81 (Operand.tmp 8), type := 81, pos := "store.go:84", after := #[], guard := none }) (v := .agg (ctC c).toArray) rfl (by kernel_rfl) (by kernel_rfl) (by kernel_rfl) (fun _ _ _ h => h) (yieldsIf_load_mid (by rfl) 81 _ rfl fb (0) rfl (ctC c) _ (fun w hS => hS.1) Try.underlying81 rfl (by kernel_rfl)) hHeld ?_
  try simp only [Act.put, List.setIfInBounds_toArray, List.set_cons_zero, List.set_cons_succ]
  refine wpAnyH_take (i := 1) (oi := { dst := some 50, op := Op.nilCheck (Operand.tmp 49), type := 0, pos := "store.go:84", after := #[{ on := 0, ground := Ground.data }], guard := none }) (v := .pointer (some ⟨S.st, 0, none⟩)) rfl (by kernel_rfl) (by kernel_rfl) (by kernel_rfl) (fun _ _ _ h => h) (Or.inl ⟨by rfl, by intro w hS; go_simp⟩) hHeld ?_
  try simp only [Act.put, List.setIfInBounds_toArray, List.set_cons_zero, List.set_cons_succ]
  refine wpAnyH_take (i := 2) (oi := { dst := some 51, op := Op.fieldAddr 79 (Operand.tmp 50) 2, type := 0, pos := "store.go:84", after := #[{ on := 1, ground := Ground.data }], guard := none }) (v := .pointer (some ⟨S.st, 2, none⟩)) rfl (by kernel_rfl) (by kernel_rfl) (by kernel_rfl) (fun _ _ _ h => h) (Or.inl ⟨by rfl, by intro w hS; go_simp⟩) hHeld ?_
  try simp only [Act.put, List.setIfInBounds_toArray, List.set_cons_zero, List.set_cons_succ]
  refine wpAnyH_take (i := 3) (oi := { dst := some 52, op := Op.load 76 (Operand.tmp 51), type := 76, pos := "store.go:84", after := #[{ on := 2, ground := Ground.data }], guard := none }) (v := .pointer (some ⟨S.pc, 0, none⟩)) rfl (by kernel_rfl) (by kernel_rfl) (by kernel_rfl) (fun _ _ _ h => h) (Or.inl ⟨by rfl, by intro w hS; have hc := hS.2; go_simp⟩) hHeld ?_
  try simp only [Act.put, List.setIfInBounds_toArray, List.set_cons_zero, List.set_cons_succ]
  refine wpAnyH_ready (rs := [6]) (by kernel_rfl) (by simp) ?_
  refine (AllReadyH.cons (o := { dst := some 55, op := Op.call { callee := Callee.value (Operand.func 48), args := #[Operand.tmp 52, Operand.tmp 53, Operand.tmp 54], argTypes := #[76, 3, 81] }, type := 0, pos := "store.go:84", after := #[{ on := 3, ground := Ground.data }, { on := 4, ground := Ground.data }, { on := 5, ground := Ground.data }], guard := none }) rfl (fun K hK => ?_) AllReadyH.nil)
  go_simp
  go_at_call 48
  refine (HPU.out).mono ?_
  rintro e w7 ⟨rfl, hX7⟩
  go_wp2_with fail
  refine hK.out _ _ (HKP.out w7 hX7) (fun hHeld2 => ?_)
  clear hK K hHeld
  have hHeld := hHeld2
  clear hHeld2
  try simp only [Act.put, List.setIfInBounds_toArray, List.set_cons_zero, List.set_cons_succ]
  refine wpAnyH_done (by kernel_rfl) ?_ _
  refine NoPanic.normal ?_
  clear hHeld
  obtain ⟨S7, hS7, hR7, hQ7, hB7⟩ := HKQ.out w7 hX7
  have rr := (HKP.out w7 hX7).1
  have n0 : w7.cell? ⟨fb, 0, none⟩ = some (.int .i64 c.kd) := rr 0 _ rfl
  have n1 : w7.cell? ⟨fb, 1, none⟩ = some (.slice c.sp c.n c.c) := rr 1 _ rfl
  have hNl : fb < w7.heap.size := World.block_lt_of_cell? w7 _ n0
  have HS7 := hid hS7
  have HR7 := hid hR7
  have HQ7 := hid hQ7
  have HBZ := hid hB7
  have HB7s := hid (Nat.le_trans HBW.out (hB7.1.size))
  have HWs := hid (show w.heap.size ≤ w7.heap.size from hB7.1.size)
  have HKD := hid (show c.kd = kd from hQ7.kd)
  have HCP : Hid (∀ w', Below w7.heap.size w7 w' → Calls Try.prog 44 #[.slice c.sp c.n c.c] w' fun e w8 => ∃ v, e = .returned v ∧ Own w8 w'.heap.size v zs ∧ Below w'.heap.size w' w8) := hid (fun w' q => by
    have hq := HQ7.out.to (w1 := w') (fun k q => q) fun k z => q.block k (HS7.out.in_lt (Or.inr (Or.inr (Or.inr (Or.inr (Or.inr z)))))).2
    obtain ⟨sp, cap, e, hS, hn⟩ := hq.ow.form
    have hle := hq.le
    obtain ⟨e1, e2, e3⟩ := Value.slice.inj e
    subst e1
    subst e3
    rw [e2]
    exact copied_any w' zs c.sp c.c hS hn (by show zs.length ≤ 1000; have : zs.length ≤ 246 := hle; omega))
  clear hS7 hB7 hR7 hQ7 rr HKP HKQ HPU hX7
  go_wp2_with fail
  refine wp_region_noPanic ?_
  refine wp_region_held_drew (S := fun w' => Below w7.heap.size w7 w') (by kernel_rfl) (Below.refl _ _).drew (fun hHeld => ?_)
  refine wpAnyH_take (i := 0) (oi := { dst := some 56, op := Op.fieldAddr 81 (Operand.tmp 8) 0, type := 0, pos := "store.go:86", after := #[], guard := none }) (v := .pointer (some ⟨fb, 0, none⟩)) rfl (by kernel_rfl) (by kernel_rfl) (by kernel_rfl) (fun _ _ _ h => h) (Or.inl ⟨by rfl, by intro w hS; go_simp⟩) hHeld ?_
  try simp only [Act.put, List.setIfInBounds_toArray, List.set_cons_zero, List.set_cons_succ]
  refine wpAnyH_take (i := 2) (oi := { dst := some 58, op := Op.fieldAddr 81 (Operand.tmp 8) 1, type := 0, pos := "store.go:86", after := #[], guard := none }) (v := .pointer (some ⟨fb, 1, none⟩)) rfl (by kernel_rfl) (by kernel_rfl) (by kernel_rfl) (fun _ _ _ h => h) (Or.inl ⟨by rfl, by intro w hS; go_simp⟩) hHeld ?_
  try simp only [Act.put, List.setIfInBounds_toArray, List.set_cons_zero, List.set_cons_succ]
  refine wpAnyH_take (i := 1) (oi := { dst := some 57, op := Op.load 3 (Operand.tmp 56), type := 3, pos := "store.go:86", after := #[{ on := 0, ground := Ground.data }], guard := none }) (v := .int .i64 c.kd) rfl (by kernel_rfl) (by kernel_rfl) (by kernel_rfl) (fun _ _ _ h => h) (Or.inl ⟨by rfl, by intro w hS; have hc := (hS.cell (p := ⟨fb, 0, none⟩) hNl).trans n0; go_simp⟩) hHeld ?_
  try simp only [Act.put, List.setIfInBounds_toArray, List.set_cons_zero, List.set_cons_succ]
  refine wpAnyH_take (i := 3) (oi := { dst := some 59, op := Op.load 36 (Operand.tmp 58), type := 36, pos := "store.go:86", after := #[{ on := 2, ground := Ground.data }], guard := none }) (v := .slice c.sp c.n c.c) rfl (by kernel_rfl) (by kernel_rfl) (by kernel_rfl) (fun _ _ _ h => h) (Or.inl ⟨by rfl, by intro w hS; have hc := (hS.cell (p := ⟨fb, 1, none⟩) hNl).trans n1; go_simp⟩) hHeld ?_
  try simp only [Act.put, List.setIfInBounds_toArray, List.set_cons_zero, List.set_cons_succ]
  refine wpAnyH_ready (rs := [4]) (by kernel_rfl) (by simp) ?_
  refine (AllReadyH.cons (o := { dst := some 60, op := Op.call { callee := Callee.value (Operand.func 44), args := #[Operand.tmp 59], argTypes := #[36] }, type := 36, pos := "store.go:86", after := #[{ on := 3, ground := Ground.data }], guard := none }) rfl (fun K hK => ?_) AllReadyH.nil)
  go_simp
  go_at_call 44
  refine (HCP.out _ hHeld).mono ?_
  rintro e w8 ⟨v8, rfl, hO8, hb8⟩
  obtain ⟨s8, c8, hv8, _, _⟩ := hO8.form
  subst hv8
  have HO8 := hid hO8
  have HBw := hid hHeld
  clear hO8
  go_wp2_with fail
  refine hK.out _ _ (hHeld.trans (hb8.mono hHeld.size)) (fun hHeld2 => ?_)
  clear hK K hHeld
  have hHeld := hHeld2
  clear hHeld2
  clear hb8
  try simp only [Act.put, List.setIfInBounds_toArray, List.set_cons_zero, List.set_cons_succ]
  refine wpAnyH_take (i := 5) (oi := { dst := some 4, op := Op.assign (Operand.tmp 57), type := 3, pos := "store.go:86", after := #[{ on := 1, ground := Ground.data }, { on := 4, ground := Ground.chain }, { on := 0, ground := Ground.phase }, { on := 1, ground := Ground.phase }, { on := 2, ground := Ground.textOnly Departure.lateStores }, { on := 3, ground := Ground.textOnly Departure.lateStores }, { on := 4, ground := Ground.textOnly Departure.lateStoresUnsure }], guard := none }) (v := .int .i64 c.kd) rfl (by kernel_rfl) (by kernel_rfl) (by kernel_rfl) (fun _ _ _ h => h) (Or.inl ⟨by rfl, by intro w hS; go_simp⟩) hHeld ?_
  try simp only [Act.put, List.setIfInBounds_toArray, List.set_cons_zero, List.set_cons_succ]
  refine wpAnyH_take (i := 6) (oi := { dst := some 5, op := Op.assign (Operand.tmp 60), type := 36, pos := "store.go:86", after := #[{ on := 4, ground := Ground.data }, { on := 5, ground := Ground.chain }, { on := 0, ground := Ground.phase }, { on := 1, ground := Ground.phase }, { on := 2, ground := Ground.phase }, { on := 3, ground := Ground.phase }, { on := 4, ground := Ground.phase }, { on := 5, ground := Ground.phase }], guard := none }) (v := .slice s8 zs.length c8) rfl (by kernel_rfl) (by kernel_rfl) (by kernel_rfl) (fun _ _ _ h => h) (Or.inl ⟨by rfl, by intro w hS; go_simp⟩) hHeld ?_
  try simp only [Act.put, List.setIfInBounds_toArray, List.set_cons_zero, List.set_cons_succ]
  refine wpAnyH_take (i := 7) (oi := { dst := some 6, op := Op.assign (Operand.const (Value.int IntKind.i64 0)), type := 62, pos := "store.go:86", after := #[{ on := 6, ground := Ground.chain }, { on := 0, ground := Ground.phase }, { on := 1, ground := Ground.phase }, { on := 2, ground := Ground.phase }, { on := 3, ground := Ground.phase }, { on := 4, ground := Ground.phase }, { on := 5, ground := Ground.phase }, { on := 6, ground := Ground.phase }], guard := none }) (v := .int IntKind.i64 0) rfl (by kernel_rfl) (by kernel_rfl) (by kernel_rfl) (fun _ _ _ h => h) (Or.inl ⟨by rfl, by intro w hS; go_simp⟩) hHeld ?_
  try simp only [Act.put, List.setIfInBounds_toArray, List.set_cons_zero, List.set_cons_succ]
  refine wpAnyH_done (by kernel_rfl) ?_ _
  refine NoPanic.normal ?_
  have HB9 := hid hHeld
  clear hHeld
  go_wp2
  go_ret3
  exact ⟨S7, .slice s8 zs.length c8, by rw [HKD.out]; rfl, HO8.out.base (Nat.le_trans HWs.out HBw.out.size), (fun k e q => by have h1 := (ownsRow_block HO8.out k e).1; have h2 := HBw.out.size; have h3 := (HS7.out.fp_lt q).2; omega), ⟨HS7.out.below HB9.out, HR7.out⟩, HBZ.out.1.trans (HB9.out.mono HB7s.out), HBZ.out.2.1.trans (Fr.of_below HB9.out) HBZ.out.2.2, HBZ.out.2.2⟩
theorem oLoad_miss (w : World) (base : Nat) (S : Sto) (h : SK w base S) (hlv : liveF S.D S.ep = 0) (hl : S.cts.length ≤ 100000) (m : Nat) (hm : S.s.ma = m) (hnx : S.nx = m) (hm2 : 2 ≤ m ∧ m ≤ 100000) (hN : S.N < 2500000000000000000) (q : Nat) (hq : 2 ≤ q ∧ q < m ∧ q < S.D.np) (hv : S.a.val (q : Int) = none) (hr : S.D.reads < 3000000000000000000) (kd : Int) (zs : List Int) (hu : unpackF q (S.D.readOf q) = (kd, zs, 0)) (hkd : 1 ≤ kd ∧ kd ≤ 3) (hz : zs.length ≤ 246) (h8 : Byts zs) :
    Calls Try.prog 19 #[.pointer (some ⟨S.st, 0, none⟩), .int .i64 q] w fun e w' => ∃ S' v, e = .returned (.tuple #[.int .i64 kd, v, .int .i64 0]) ∧ Own w' w.heap.size v zs ∧ (SK w' base S' ∧ Sam { S with D := { S.D with reads := S.D.reads + 1 } } S' ∧ S'.N = S.N + 2 ∧ S'.vs = S.vs ∧ S'.cts = S.cts ∧ ∃ c : Ct, S'.a = (S.a.get q).put q c) ∧ Below base w w' ∧ Fr S.fp w w' ∧ Gr w S.fp S'.fp :=
  (oLoad_missX w base S h hlv hl m hm hnx hm2 hN q hq hv hr kd zs hu hkd hz h8).mono fun e w' ⟨S', v, a, b, _, c⟩ => ⟨S', v, a, b, c⟩
end Go.Proofs.Ytihkjfbhmlfonaa
namespace Go.Proofs.Ytihkjfbhmlfonaa
set_option linter.unusedVariables false
set_option linter.unusedSimpArgs false
open Go.RowKit
open Go.Proofs.Ytihkjfbhmlfonaa.Ca (Ct ct0 ctC argV AS)
attribute [local go_sem ↓] Go.wp_at_zero Go.wp_at_succ

set_option maxRecDepth 100000 in
set_option maxHeartbeats 1000000 in
/-- Flush, where publish answers with an error. -/
theorem oFlush_badH (w : World) (base : Nat) (S : Sto) (h : SK w base S) (hlv : liveF S.D S.ep = 0) (hge : S.s.ge ≠ 1099511627776) (hl : S.cts.length ≤ 100000) (hm : 0 ≤ S.s.ma ∧ S.s.ma ≤ 100000) (hd : Int) (hd0 : hd ≠ 0) (hd2 : 2 ≤ hd ∧ hd < S.s.ma + S.cts.length) (R : Ending → World → Prop) (hpub : ∀ w1, Below w.heap.size w w1 → Calls Try.prog 52 #[.pointer (some ⟨S.st, 0, none⟩), .int .i64 hd] w1 fun e w' => ∃ c, c ≠ 0 ∧ e = .returned (.int .i64 c) ∧ R (.returned (.int .i64 c)) w') :
    Calls Try.prog 27 #[.pointer (some ⟨S.st, 0, none⟩), .int .i64 hd] w fun e w' => R e w' := by
  have HL := hid (oLive_any w base S h)
  rw [hlv] at HL
  have HSU := hid (fun w1 (q : Below w.heap.size w w1) => oSuper_any w1 base S (h.below q))
  have HPB := hid hpub
  have HA := hid (fun w1 (z : Below w.heap.size w w1) => ohas_any w1 base S (h.below z) hl hm hd)
  rw [decide_eq_true hd2] at HA
  have hd1 : (hd != 0) = true := by simpa using hd0
  have hg1 : (S.s.ge == 1099511627776) = false := by simpa using hge
  clear h hlv hpub hge hl hm hd0 hd2
  go_enter Try.func27, Try.ntmps27
  go_wp2_with fail
  refine HL.out.mono ?_
  rintro e w1 ⟨rfl, hb1⟩
  have HB1 := hid hb1
  clear hb1 HL
  go_wp2_with fail
  refine (HA.out w1 HB1.out).mono ?_
  rintro e wa ⟨rfl, hba⟩
  have HBa := hid (HB1.out.trans (hba.mono HB1.out.size))
  clear hba HB1 w1 HA
  go_wp2_with fail
  refine (HSU.out wa HBa.out).mono ?_
  rintro e w2 ⟨rfl, hb2⟩
  have HB2 := hid (HBa.out.trans (hb2.mono HBa.out.size))
  clear hb2 HBa wa HSU
  go_wp2_with (first | refine wpList_fieldS1 rfl _ rfl S.s S.s.ge rfl rfl ?_)
  refine (HPB.out w2 HB2.out).mono ?_
  rintro e w3 ⟨c, hc, rfl, hR⟩
  have hc2 : (c != 0) = true := by simpa using hc
  have HR := hid hR
  clear hR hc HPB
  go_wp2
  exact HR.out
set_option maxRecDepth 100000 in
set_option maxHeartbeats 1000000 in
/-- Flush, where publish answers OK: the list is empty then, and the cache has settled. -/
theorem oFlush_okH (w : World) (base : Nat) (S : Sto) (h : SK w base S) (hlv : liveF S.D S.ep = 0) (hge : S.s.ge ≠ 1099511627776) (hl : S.cts.length ≤ 100000) (hm : 0 ≤ S.s.ma ∧ S.s.ma ≤ 100000) (hd : Int) (hd0 : hd ≠ 0) (hd2 : 2 ≤ hd ∧ hd < S.s.ma + S.cts.length) (hN : S.N < 3000000000000000000) (R : World → Prop) (hpub : ∀ w1, Below w.heap.size w w1 → Calls Try.prog 52 #[.pointer (some ⟨S.st, 0, none⟩), .int .i64 hd] w1 fun e w' => e = .returned (.int .i64 0) ∧ w'.heap[S.st]? = some (.cells (stC S.g S.pc S.sv).toArray 79 (0, 0)) ∧ Ca.CA w' base S.FC S.pc S.N S.a ∧ R w') :
    Calls Try.prog 27 #[.pointer (some ⟨S.st, 0, none⟩), .int .i64 hd] w fun e w' => ∃ w3, e = .returned (.int .i64 0) ∧ R w3 ∧ Ca.Nx base S.FC S.pc S.N (w3.setCell ⟨S.st, 3, none⟩ (.slice none 0 0)) S.a.settle w' := by
  have HL := hid (oLive_any w base S h)
  rw [hlv] at HL
  have HSU := hid (fun w1 (q : Below w.heap.size w w1) => oSuper_any w1 base S (h.below q))
  have HPB := hid hpub
  have HA := hid (fun w1 (z : Below w.heap.size w w1) => ohas_any w1 base S (h.below z) hl hm hd)
  rw [decide_eq_true hd2] at HA
  have hd1 : (hd != 0) = true := by simpa using hd0
  have HSA := hid h.st_apart.2.2.1
  have hg1 : (S.s.ge == 1099511627776) = false := by simpa using hge
  clear h hlv hpub hge hl hm hd0 hd2
  go_enter Try.func27, Try.ntmps27
  go_wp2_with fail
  refine HL.out.mono ?_
  rintro e w1 ⟨rfl, hb1⟩
  have HB1 := hid hb1
  clear hb1 HL
  go_wp2_with fail
  refine (HA.out w1 HB1.out).mono ?_
  rintro e wa ⟨rfl, hba⟩
  have HBa := hid (HB1.out.trans (hba.mono HB1.out.size))
  clear hba HB1 w1 HA
  go_wp2_with fail
  refine (HSU.out wa HBa.out).mono ?_
  rintro e w2 ⟨rfl, hb2⟩
  have HB2 := hid (HBa.out.trans (hb2.mono HBa.out.size))
  clear hb2 HBa wa HSU
  go_wp2_with (first | refine wpList_fieldS1 rfl _ rfl S.s S.s.ge rfl rfl ?_)
  refine (HPB.out w2 HB2.out).mono ?_
  rintro e w3 ⟨rfl, r3, hC3, hR⟩
  have HR := hid hR
  have k3 : w3.cell? ⟨S.st, 3, none⟩ = some S.sv := by rw [cell_of_row _ _ _ _ _ _ r3]; rfl
  have kf : w3.frozen? ⟨S.st, 3, none⟩ = false := frozen_of_row _ _ _ _ _ r3
  have r4 : (w3.setCell ⟨S.st, 3, none⟩ (.slice none 0 0)).heap[S.st]? = some (.cells (stC S.g S.pc (.slice none 0 0)).toArray 79 (0, 0)) := by rw [heap_setCell_same _ _ _ _ _ _ r3]; rfl
  have k2 : (w3.setCell ⟨S.st, 3, none⟩ (.slice none 0 0)).cell? ⟨S.st, 2, none⟩ = some (.pointer (some ⟨S.pc, 0, none⟩)) := by rw [cell_of_row _ _ _ _ _ _ r4]; rfl
  have HSE : Hid (Calls Try.prog 53 #[.pointer (some ⟨S.pc, 0, none⟩)] (w3.setCell ⟨S.st, 3, none⟩ (.slice none 0 0)) fun x w' => x = .returned (.tuple #[]) ∧ Ca.Nx base S.FC S.pc S.N (w3.setCell ⟨S.st, 3, none⟩ (.slice none 0 0)) S.a.settle w') := hid (Ca.Settle_any _ base S.FC S.pc S.N S.a (by
    obtain ⟨mm, n, s, L, e, c, r⟩ := hC3
    exact ⟨mm, n, s, L, e, c.of_heap fun k hk => heap_setCell_other _ ⟨S.st, 3, none⟩ k _ (fun q => HSA.out (by have q2 : k = S.st := q; rw [← q2, e]; exact hk)), r⟩) hN)
  clear hR hC3 r3 r4 HPB
  go_wp2_with fail
  refine HSE.out.mono ?_
  rintro e w4 ⟨rfl, hX⟩
  have HX := hid hX
  clear hX HSE
  go_wp2
  go_ret
  exact ⟨w3, rfl, HR.out, HX.out⟩
set_option maxRecDepth 100000 in
set_option maxHeartbeats 1000000 in
/-- Flush of a store whose file is not live. -/
theorem oFlush_dead (w : World) (base : Nat) (S : Sto) (h : SK w base S) (c : Int) (hlv : liveF S.D S.ep = c) (hc : c ≠ 0) (hd : Int) :
    Calls Try.prog 27 #[.pointer (some ⟨S.st, 0, none⟩), .int .i64 hd] w fun e w' => e = .returned (.int .i64 c) ∧ Below w.heap.size w w' := by
  have HL := hid (oLive_any w base S h)
  rw [hlv] at HL
  have hc1 : (c != 0) = true := by simpa using hc
  clear h hlv hc
  go_enter Try.func27, Try.ntmps27
  go_wp2_with fail
  refine HL.out.mono ?_
  rintro e w1 ⟨rfl, hb1⟩
  have HB1 := hid hb1
  clear hb1 HL
  go_wp2
  go_ret
  exact ⟨rfl, HB1.out⟩
set_option maxRecDepth 100000 in
set_option maxHeartbeats 1000000 in
/-- Flush with a head that is no page. -/
theorem oFlush_page (w : World) (base : Nat) (S : Sto) (h : SK w base S) (hlv : liveF S.D S.ep = 0) (hl : S.cts.length ≤ 100000) (hm : 0 ≤ S.s.ma ∧ S.s.ma ≤ 100000) (hd : Int) (hd0 : hd ≠ 0) (hd2 : ¬ (2 ≤ hd ∧ hd < S.s.ma + S.cts.length)) :
    Calls Try.prog 27 #[.pointer (some ⟨S.st, 0, none⟩), .int .i64 hd] w fun e w' => e = .returned (.int .i64 41) ∧ Below w.heap.size w w' := by
  have HL := hid (oLive_any w base S h)
  rw [hlv] at HL
  have HA := hid (fun w1 (z : Below w.heap.size w w1) => ohas_any w1 base S (h.below z) hl hm hd)
  rw [decide_eq_false hd2] at HA
  have hd1 : (hd != 0) = true := by simpa using hd0
  clear h hlv hl hm hd0 hd2
  go_enter Try.func27, Try.ntmps27
  go_wp2_with fail
  refine HL.out.mono ?_
  rintro e w1 ⟨rfl, hb1⟩
  have HB1 := hid hb1
  clear hb1 HL
  go_wp2_with fail
  refine (HA.out w1 HB1.out).mono ?_
  rintro e wa ⟨rfl, hba⟩
  have HBa := hid (HB1.out.trans (hba.mono HB1.out.size))
  clear hba HB1 w1 HA
  go_wp2
  go_ret
  exact ⟨rfl, HBa.out⟩
set_option maxRecDepth 100000 in
set_option maxHeartbeats 1000000 in
/-- Flush of a file that can hold no other generation. -/
theorem oFlush_full (w : World) (base : Nat) (S : Sto) (h : SK w base S) (hlv : liveF S.D S.ep = 0) (hge : S.s.ge = 1099511627776) :
    Calls Try.prog 27 #[.pointer (some ⟨S.st, 0, none⟩), .int .i64 0] w fun e w' => e = .returned (.int .i64 5) ∧ Below w.heap.size w w' := by
  have HL := hid (oLive_any w base S h)
  rw [hlv] at HL
  have HSU := hid (fun w1 (q : Below w.heap.size w w1) => oSuper_any w1 base S (h.below q))
  have hg1 : (S.s.ge == 1099511627776) = true := by simpa using hge
  clear h hlv hge
  go_enter Try.func27, Try.ntmps27
  go_wp2_with fail
  refine HL.out.mono ?_
  rintro e w1 ⟨rfl, hb1⟩
  have HB1 := hid hb1
  clear hb1 HL
  go_wp2_with fail
  refine (HSU.out w1 HB1.out).mono ?_
  rintro e w2 ⟨rfl, hb2⟩
  have HB2 := hid (HB1.out.trans (hb2.mono HB1.out.size))
  clear hb2 HB1 w1 HSU
  go_wp2_with (first | refine wpList_fieldS1 rfl _ rfl S.s S.s.ge rfl rfl ?_)
  go_ret
  exact ⟨rfl, HB2.out⟩
set_option maxRecDepth 100000 in
set_option maxHeartbeats 1000000 in
/-- Flush of a file that can hold no other generation. -/
theorem oFlush_fullH (w : World) (base : Nat) (S : Sto) (h : SK w base S) (hlv : liveF S.D S.ep = 0) (hge : S.s.ge = 1099511627776) (hl : S.cts.length ≤ 100000) (hm : 0 ≤ S.s.ma ∧ S.s.ma ≤ 100000) (hd : Int) (hd0 : hd ≠ 0) (hd2 : 2 ≤ hd ∧ hd < S.s.ma + S.cts.length) :
    Calls Try.prog 27 #[.pointer (some ⟨S.st, 0, none⟩), .int .i64 hd] w fun e w' => e = .returned (.int .i64 5) ∧ Below w.heap.size w w' := by
  have HL := hid (oLive_any w base S h)
  rw [hlv] at HL
  have HA := hid (fun w1 (z : Below w.heap.size w w1) => ohas_any w1 base S (h.below z) hl hm hd)
  rw [decide_eq_true hd2] at HA
  have hd1 : (hd != 0) = true := by simpa using hd0
  have HSU := hid (fun w1 (q : Below w.heap.size w w1) => oSuper_any w1 base S (h.below q))
  have hg1 : (S.s.ge == 1099511627776) = true := by simpa using hge
  clear h hlv hge hl hm hd0 hd2
  go_enter Try.func27, Try.ntmps27
  go_wp2_with fail
  refine HL.out.mono ?_
  rintro e w1 ⟨rfl, hb1⟩
  have HB1 := hid hb1
  clear hb1 HL
  go_wp2_with fail
  refine (HA.out w1 HB1.out).mono ?_
  rintro e wa ⟨rfl, hba⟩
  have HBa := hid (HB1.out.trans (hba.mono HB1.out.size))
  clear hba HB1 w1 HA
  go_wp2_with fail
  refine (HSU.out wa HBa.out).mono ?_
  rintro e w2 ⟨rfl, hb2⟩
  have HB2 := hid (HBa.out.trans (hb2.mono HBa.out.size))
  clear hb2 HBa wa HSU
  go_wp2_with (first | refine wpList_fieldS1 rfl _ rfl S.s S.s.ge rfl rfl ?_)
  go_ret
  exact ⟨rfl, HB2.out⟩
end Go.Proofs.Ytihkjfbhmlfonaa
namespace Go.Proofs.Ytihkjfbhmlfonaa
set_option linter.unusedVariables false
set_option linter.unusedSimpArgs false
open Go.RowKit

/-! A range over a function whose iterator writes memory of its own (a store that it reads through), apart from the loop's. -/
/-- What is said of some blocks alone. -/
def Resp {β : Type} (B : List Nat) (J : β → World → Prop) : Prop := ∀ s W W', J s W → (∀ k ∈ B, W'.heap[k]? = W.heap[k]?) → J s W'
theorem fr_put (l : Nat) (W : World) (o : Obj) : Fr [l] W (W.putObj l o) :=
  ⟨rfl, rfl, rfl, by simp [World.putObj], fun k _ hn => World.putObj_heap_other (fun e => hn (by simp [e]))⟩
theorem Fr.wider {A B : List Nat} {a b : World} (h : Fr A a b) (hs : ∀ x ∈ A, x ∈ B) : Fr B a b := ⟨h.os, h.tape, h.output, h.size, fun k hk hn => h.block k hk fun e => hn (hs k e)⟩
theorem Fr.more {A : List Nat} {a b c : World} (h : Fr A a b) (k : Fr A b c) : Fr A a c := h.trans k (Gr.refl _ _)
/-- How a round may be left. -/
def RdPost {α : Type} (own : List Nat) (I : List α → World → Prop) (Ix : Code → List α → World → Prop) (xs : List α) (W : World) : Exit → Act → World → Prop
  | .normal, _, W' => Fr own W W' ∧ I xs W'
  | .ret, _, W' => Fr own W W' ∧ Ix .ret xs W'
  | .exit id, _, W' => Fr own W W' ∧ Ix (.exit id) xs W'
  | .goto t, _, W' => Fr own W W' ∧ Ix (.goto t) xs W'
  | .panic _, _, _ => False
  | .outgrown, _, _ => False
/-- An iterator that is called for the loop whose own blocks are D and D + 1: it leaves these and the caller's as they are; Z is what it leaves of its own. -/
def Iter {α : Type} (F : Fence) (n : Nat) (P : Program) (gf : Nat) (lb : Array Value) (encs : α → Array Value) (own : List Nat) (Sq Sp : List α → Prop) (N : Nat) (Z : World → Prop) (D : Nat) (W0 : World) : Prop :=
  ∀ (J Jx : List α → World → Prop), Resp (D :: (D + 1) :: own) J → Resp (D :: (D + 1) :: own) Jx →
    (∀ pre x W, J pre W → pre.length < N → YieldAt F (n - 1) P (D + 1) (encs x) W fun e W' => Fr (D :: (D + 1) :: own) W W' ∧ ((e = .returned (.bool true) ∧ J (pre ++ [x]) W') ∨ (e = .returned (.bool false) ∧ Jx (pre ++ [x]) W'))) →
    J [] W0 → CallsIn F n P gf (#[.func (.yield (D + 1)) #[] #[]] ++ lb) W0 fun e W' => (∃ v, e = .returned v) ∧ Z W' ∧ ((∃ xs, Sq xs ∧ J xs W') ∨ (∃ pre, Sp pre ∧ Jx pre W'))
set_option maxHeartbeats 1000000 in
theorem range_iter {F : Fence} {n : Nat} {P : Program} {α : Type} {g : Operand} {ps : Array Tmp} {assign body : Code} {Q : Exit → Act → World → Prop} {a : Act} {w : World} (hro : F.round = none) (h1 : 1 ≤ n)
    {gf : Nat} {lb : Array Value} (hg : a.eval g = .func (.func gf) #[] lb) (hFg : F.fn gf) (eg : ∀ args w, (callFunc gf args).run P w = .ok (.enter gf args) w)
    {encs : α → Array Value} {own : List Nat} {Sq Sp : List α → Prop} {N : Nat} {Z : World → Prop} (hown : ∀ k ∈ own, k < w.heap.size)
    (hit : ∀ o : Obj, Iter F (n - 1) P gf lb encs own Sq Sp N Z w.heap.size ((w.alloc (.deferred (some []))).alloc o))
    (hZ : ∀ W o, Z W → Z (W.putObj (w.heap.size + 1) o)) (hps : ∀ x, (encs x).size = ps.size)
    (I : List α → World → Prop) (Ix : Code → List α → World → Prop) (hI : Resp own I) (hIx : ∀ c, Resp own (Ix c)) (h0 : I [] w)
    (Ax : α → Act → World → Prop) (hAx : ∀ x a' W o, Ax x a' W → Ax x a' (W.putObj (w.heap.size + 1) o))
    (hassign : ∀ (l : Nat) (pre : List α) (x : α) (W : World) (K : Act → World → Prop), I pre W → w.heap.size + 1 < W.heap.size → (∀ a' W', Fr own W W' → I pre W' → Ax x a' W' → K a' W') →
      assign.wpIn (F.inRound l) (n - 1 - 1) P (Exit.then K (fun _ _ _ => False)) { tmps := (ps.zip (encs x)).foldl (fun t (p, v) => t.setIfInBounds p v) a.tmps, defers := [] } W)
    (hbody : ∀ (l : Nat) (pre : List α) (x : α) (a' : Act) (W : World), I pre W → Ax x a' W → pre.length < N → body.wpIn (F.inRound l) (n - 1 - 1) P (RdPost own I Ix (pre ++ [x]) W) a' W)
    (hdone : ∀ (xs : List α) (W : World), Sq xs → Z W → I xs W → W.heap[w.heap.size]? = some (.deferred (some [])) → Q .normal { a with defers := { target := .collected w.heap.size, args := #[] } :: a.defers } W)
    (hstop : ∀ (c : Code) (pre : List α) (W : World), Sp pre → Z W → Ix c pre W → W.heap[w.heap.size]? = some (.deferred (some [])) → c.wpIn F n P Q { a with defers := { target := .collected w.heap.size, args := #[] } :: a.defers } W) :
    (Code.rangeFunc g ps assign body).wpIn F n P Q a w := by
  refine wpIn_rangeFunc fun fn hfn => ?_
  rw [hro]
  let rc : LoopState → Option Code → Loop := fun st pe => { state := st, pending := pe, fn, tmps := a.tmps, params := ps, assign, body, defers := w.heap.size }
  have own0 : w.heap.size ∉ own := fun e => Nat.lt_irrefl _ (hown _ e)
  have own1 : w.heap.size + 1 ∉ own := fun e => by have := hown _ e; omega
  have sz0 : (w.alloc (.deferred (some []))).heap.size = w.heap.size + 1 := World.size_alloc _ _
  -- the loop's record turned: nothing of the caller's is touched
  have keepI : ∀ {β : Type} {J : β → World → Prop}, Resp own J → ∀ {s W} (o : Obj), J s W → J s (W.putObj (w.heap.size + 1) o) := fun hJ s W o h => hJ _ _ _ h fun k hk => World.putObj_heap_other (fun e => own1 (e ▸ hk))
  have keepD : ∀ {W : World} {o : Obj}, W.heap[w.heap.size]? = some (.deferred (some [])) → (W.putObj (w.heap.size + 1) o).heap[w.heap.size]? = some (.deferred (some [])) := fun h => (World.putObj_heap_other (by omega)).trans h
  have frP : ∀ (W : World) (o : Obj), Fr (w.heap.size :: (w.heap.size + 1) :: own) W (W.putObj (w.heap.size + 1) o) := fun W o => (fr_put _ W o).wider (by simp)
  have frO : ∀ {W W' : World}, Fr own W W' → Fr (w.heap.size :: (w.heap.size + 1) :: own) W W' := fun h => h.wider (fun x hx => by simp [hx])
  let J : List α → World → Prop := fun pre W => I pre W ∧ W.heap[w.heap.size + 1]? = some (.loop (rc .ready none)) ∧ W.heap[w.heap.size]? = some (.deferred (some []))
  let Jx : List α → World → Prop := fun pre W => ∃ c, Ix c pre W ∧ W.heap[w.heap.size + 1]? = some (.loop (rc .done (some c))) ∧ W.heap[w.heap.size]? = some (.deferred (some []))
  have rJ : Resp (w.heap.size :: (w.heap.size + 1) :: own) J := fun s W W' h q => ⟨hI _ _ _ h.1 fun k hk => q k (by simp [hk]), (q _ (by simp)).trans h.2.1, (q _ (by simp)).trans h.2.2⟩
  have rJx : Resp (w.heap.size :: (w.heap.size + 1) :: own) Jx := fun s W W' ⟨c, h1, h2, h3⟩ q => ⟨c, hIx c _ _ _ h1 fun k hk => q k (by simp [hk]), (q _ (by simp)).trans h2, (q _ (by simp)).trans h3⟩
  have start : J [] ((w.alloc (.deferred (some []))).alloc (.loop (rc .ready none))) := by
    refine ⟨hI _ _ _ h0 fun k hk => ?_, ?_, ?_⟩
    · have := hown k hk
      exact (Below.heap_alloc _ _ _ (by rw [sz0]; omega)).trans (Below.heap_alloc _ _ _ this)
    · have := World.alloc_heap_new (w.alloc (.deferred (some []))) (.loop (rc .ready none)); rwa [sz0] at this
    · exact (Below.heap_alloc _ _ _ (by rw [sz0]; omega)).trans (World.alloc_heap_new w _)
  refine ⟨w.heap.size + 1, [{ target := .collected w.heap.size, args := #[] }], (w.alloc (.deferred (some []))).alloc (.loop (rc .ready none)), { target := .fn (.func gf) lb, args := #[.func (.yield (w.heap.size + 1)) #[] #[]] }, (w.alloc (.deferred (some []))).alloc (.loop (rc .ready none)), gf, #[.func (.yield (w.heap.size + 1)) #[] #[]] ++ lb, (w.alloc (.deferred (some []))).alloc (.loop (rc .ready none)), run_enterLoop_outer _ _ _ _ _, ?_, ?_, ?_, fun _ => h1, ?_⟩
  · simp only [resolve, hg]
    simp [go_sem]
  · intro f' hf'; simp [Target.leads] at hf'; subst hf'; exact hFg
  · simp [invoke, go_sem, eg]
  refine (hit (.loop (rc .ready none)) J Jx rJ rJx ?_ start).mono ?_
  · -- one round
    rintro pre x W ⟨hi, hl, hd⟩ hlen
    refine ⟨fn, _, assign, body, run_yield (P := P) (args := encs x) hl (hps x), roundIn_of_wpIn hfn (hassign _ pre x W _ hi (Array.getElem?_eq_some_iff.1 hl).1 fun a' Wa fa ia xa => ?_)⟩
    have szW := (Array.getElem?_eq_some_iff.1 hl).1
    have la : Wa.heap[w.heap.size + 1]? = some (.loop (rc .ready none)) := (fa.block _ szW own1).trans hl
    have da : Wa.heap[w.heap.size]? = some (.deferred (some [])) := (fa.block _ (by omega) own0).trans hd
    have lt : w.heap.size + 1 < Wa.heap.size := (Array.getElem?_eq_some_iff.1 la).1
    refine ⟨_, run_beginRound la rfl, wpIn_mono (hbody _ pre x a' _ (keepI hI _ ia) (hAx _ _ _ _ xa) hlen) ?_⟩
    have lb2 : (Wa.putObj (w.heap.size + 1) (.loop { rc .ready none with state := .busy })).heap[w.heap.size + 1]? = some (.loop { rc .ready none with state := .busy }) := World.putObj_heap_same lt
    have size2 : (Wa.putObj (w.heap.size + 1) (.loop { rc .ready none with state := .busy })).heap.size = Wa.heap.size := by simp [World.putObj]
    -- whatever the body has done, the record and the block for deferred calls stand
    have fin : ∀ W3, Fr own (Wa.putObj (w.heap.size + 1) (.loop { rc .ready none with state := .busy })) W3 → W3.heap[w.heap.size + 1]? = some (.loop { rc .ready none with state := .busy }) ∧ W3.heap[w.heap.size]? = some (.deferred (some [])) ∧ ∀ o, Fr (w.heap.size :: (w.heap.size + 1) :: own) W (W3.putObj (w.heap.size + 1) o) := fun W3 f3 =>
      ⟨(f3.block _ (by rw [size2]; exact lt) own1).trans lb2, (f3.block _ (by rw [size2]; omega) own0).trans (keepD da), fun o => (((frO fa).more (frP _ _)).more (frO f3)).more (frP _ _)⟩
    rintro e a3 W3 hp
    cases e with
    | normal =>
      obtain ⟨f3, i3⟩ := hp
      obtain ⟨l3, d3, fz⟩ := fin W3 f3
      exact ⟨_, _, run_endRound (P := P) none l3, fz _, .inl ⟨rfl, keepI hI _ i3, World.putObj_heap_same (Array.getElem?_eq_some_iff.1 l3).1, keepD d3⟩⟩
    | ret =>
      obtain ⟨f3, i3⟩ := hp
      obtain ⟨l3, d3, fz⟩ := fin W3 f3
      exact ⟨_, _, run_endRound (P := P) (some .ret) l3, fz _, .inr ⟨rfl, .ret, keepI (hIx _) _ i3, World.putObj_heap_same (Array.getElem?_eq_some_iff.1 l3).1, keepD d3⟩⟩
    | exit id =>
      obtain ⟨f3, i3⟩ := hp
      obtain ⟨l3, d3, fz⟩ := fin W3 f3
      exact ⟨_, _, run_endRound (P := P) (some (.exit id)) l3, fz _, .inr ⟨rfl, .exit id, keepI (hIx _) _ i3, World.putObj_heap_same (Array.getElem?_eq_some_iff.1 l3).1, keepD d3⟩⟩
    | goto t =>
      obtain ⟨f3, i3⟩ := hp
      obtain ⟨l3, d3, fz⟩ := fin W3 f3
      exact ⟨_, _, run_endRound (P := P) (some (.goto t)) l3, fz _, .inr ⟨rfl, .goto t, keepI (hIx _) _ i3, World.putObj_heap_same (Array.getElem?_eq_some_iff.1 l3).1, keepD d3⟩⟩
    | panic ch => exact hp.elim
    | outgrown => exact hp.elim
  · -- behind the iterator
    rintro e W2 ⟨⟨v, rfl⟩, hz, (⟨xs, hS, hi, hl, hd⟩ | ⟨pre, hSp, c, hi, hl, hd⟩)⟩
    · exact ⟨_, _, run_endLoop (P := P) hl (by simp [rc]), hdone xs _ hS (hZ _ _ hz) (keepI hI _ hi) (keepD hd)⟩
    · exact ⟨_, _, run_endLoop (P := P) hl (by simp [rc]), hstop c pre _ hSp (hZ _ _ hz) (keepI (hIx c) _ hi) (keepD hd)⟩
end Go.Proofs.Ytihkjfbhmlfonaa
namespace Go.Proofs.Ytihkjfbhmlfonaa
set_option linter.unusedVariables false
set_option linter.unusedSimpArgs false
open Go.RowKit
open Go.Proofs.Ytihkjfbhmlfonaa.Ca (Ct ct0 ctC argV AS)
attribute [local go_sem ↓] Go.wp_at_zero Go.wp_at_succ

theorem acted_un {D : DS} (h : D.armed = 0) : D.acted = D := by unfold DS.acted; rw [if_pos h]
theorem wr_un {D : DS} (o : OW) (h : D.armed = 0) : (D.wr o).armed = 0 ∧ (D.wr o).power = D.power := by
  have e : D.wr o = ({ D.pushed o with writes := D.writes + 1 } : DS) := acted_un h
  rw [e]; exact ⟨h, rfl⟩
theorem appD_un : ∀ (l : List (Int × List Int)) (D : DS) (m : Nat), D.armed = 0 → (appD D m l).armed = 0 ∧ (appD D m l).power = D.power
  | [], D, m, h => ⟨h, rfl⟩
  | v :: r, D, m, h => by
    obtain ⟨h1, h2⟩ := wr_un ⟨m, pageP v.1 m v.2⟩ h
    obtain ⟨h3, h4⟩ := appD_un r (D.wr ⟨m, pageP v.1 m v.2⟩) (m + 1) h1
    exact ⟨h3, h4.trans h2⟩
theorem synced_un {D : DS} (h : D.armed = 0) : D.synced.armed = 0 ∧ D.synced.writes = D.writes ∧ D.synced.syncs = D.syncs + 1 := by
  unfold DS.synced; rw [acted_un h]; exact ⟨h, rfl, rfl⟩
theorem runS_un (D : DS) (s2 : Sup) (h : D.armed = 0) : (runS D [.sync, .lay s2 0 0, .sync]).2 = 0 ∧ (runS D [.sync, .lay s2 0 0, .sync]).1.armed = 0 ∧ (runS D [.sync, .lay s2 0 0, .sync]).1.writes = D.writes + 1 ∧ (runS D [.sync, .lay s2 0 0, .sync]).1.syncs = D.syncs + 2 := by
  have hy : ∀ X : DS, X.armed = 0 → St.go .sync X = (X.synced, 0) := fun X hX => by show sy X = _; unfold sy; rw [if_neg (by omega)]
  obtain ⟨s1, s3, s4⟩ := synced_un h
  obtain ⟨w1, _⟩ := wr_un (D := D.synced) ⟨(s2.ge % 2).toNat, secP s2⟩ s1
  obtain ⟨_, _, _, _, e5, e6⟩ := wr_img D.synced ⟨(s2.ge % 2).toNat, secP s2⟩
  obtain ⟨z1, z3, z4⟩ := synced_un w1
  have key : runS D [.sync, .lay s2 0 0, .sync] = ((D.synced.wr ⟨(s2.ge % 2).toNat, secP s2⟩).synced, 0) := by
    rw [runS, hy D h, if_pos rfl, runS]
    show (if D.synced.actE = 0 then runS (D.synced.wr _) [.sync] else (D.synced.wr _, D.synced.actE)) = _
    rw [actE_0 (by omega), if_pos rfl, runS, hy _ w1, if_pos rfl, runS]
  rw [key]
  exact ⟨rfl, z1, by rw [z3, e5, s3], by rw [z4, e6, s4]; omega⟩
/-- A publish whose disk is not armed goes well. -/
theorem pubEnd_un {S : Sto} {m : Nat} {hd c : Int} {D' : DS} {s' : Sup} (h : PubEnd S m hd c D' s') (ha : S.D.armed = 0) : c = 0 ∧ D'.armed = 0 ∧ D'.writes = S.D.writes + S.vs.length + 1 ∧ D'.syncs = S.D.syncs + 2 := by
  rcases h with ⟨i, hi, h1, h2, h3, h4, h5⟩ | ⟨h1, h2, h3, h4⟩
  · have := (appD_un (S.vs.take i) S.D m ha).1
    rw [this] at h1
    exact absurd h1 (by decide)
  · obtain ⟨q1, q2, q3, q4⟩ := runS_un (appD S.D m S.vs) ⟨S.s.wd, S.s.ge + 1, (m + S.vs.length : Nat), hd, S.s.pg⟩ (appD_un S.vs S.D m ha).1
    obtain ⟨a1, a2, a3, a4, a5⟩ := appD_same S.vs S.D m
    exact ⟨h2.trans q1, by rw [h3]; exact q2, by rw [h3, q3, a4], by rw [h3, q4, a3]⟩
theorem heldL_mem : ∀ (l : List Ct) (n : Int) (x : Int × Ct), x ∈ heldL n l → ∃ j : Nat, j < l.length ∧ x = (n + j, l.getD j ct0)
  | [], n, x, h => by cases h
  | c :: l, n, x, h => by
    rcases List.mem_cons.1 h with e | e
    · exact ⟨0, by simp, by rw [e]; simp⟩
    · obtain ⟨j, h1, h2⟩ := heldL_mem l (n + 1) x e
      refine ⟨j + 1, by simpa using h1, ?_⟩
      rw [h2, List.getD_cons_succ, show n + 1 + (j : Int) = n + ((j + 1 : Nat) : Int) by push_cast; omega]
/-- The store behind a Flush that goes well. -/
theorem SK.flushed {w1 w3 w' : World} {base : Nat} {S : Sto} (h : SK w1 base S) (m : Nat) (hm : S.s.ma = m) (hm2 : 2 ≤ m) {F' : List Nat} {D' : DS} {s2 : Sup} (hs2 : s2.ma = (m + S.vs.length : Nat)) (hpg : m + S.vs.length ≤ 4096) (hD : DA w3 base F' S.p D') (hf : FK w3 S.g S.p s2 s2.ma S.ep) (fr : Fr (S.g :: S.F) w1 w3) (gr : Gr w1 S.F F') (hB : Pbd S m s2 D') (hX : Ca.Nx base S.FC S.pc S.N (w3.setCell ⟨S.st, 3, none⟩ (.slice none 0 0)) S.a.settle w') :
    ∃ F2, SK w' base { S with F := F', FC := F2, D := D', s := s2, nx := m + S.vs.length, N := S.N + 1, a := S.a.settle, sv := .slice none 0 0, cts := [], vs := [] } ∧ Below base w1 w' ∧ Fr S.fp w1 w' ∧ Gr w1 S.fp (Sto.fp { S with F := F', FC := F2, sv := .slice none 0 0 }) := by
  obtain ⟨F2, hC, hF, hG⟩ := hX
  have hs3 : (w3.setCell ⟨S.st, 3, none⟩ (.slice none 0 0)).heap.size = w3.heap.size := by simp [World.setCell]
  obtain ⟨o1, o2, o3, o4⟩ := h.off fr
  have hold2 : ∀ k, (k = S.g ∨ k = S.st ∨ k ∈ S.F ∨ k ∈ S.FC ∨ S.sv.ownBlock = some k ∨ k ∈ S.lb) → base ≤ k ∧ k < w1.heap.size := fun k q => h.in_lt q
  have s13 := fr.size
  have hbw := h.base
  have keep : ∀ k, k < w3.heap.size → k ≠ S.st → k ∉ S.FC → w'.heap[k]? = w3.heap[k]? := fun k a b c => (hF.block k (by rw [hs3]; exact a) c).trans (heap_setCell_other _ ⟨S.st, 3, none⟩ k _ b)
  have r3 : w3.heap[S.st]? = some (.cells (stC S.g S.pc S.sv).toArray 79 (0, 0)) := o1.trans h.sk
  have r4 : (w3.setCell ⟨S.st, 3, none⟩ (.slice none 0 0)).heap[S.st]? = some (.cells (stC S.g S.pc (.slice none 0 0)).toArray 79 (0, 0)) := by rw [heap_setCell_same _ _ _ _ _ _ r3]; rfl
  have r5 : w'.heap[S.st]? = some (.cells (stC S.g S.pc (.slice none 0 0)).toArray 79 (0, 0)) := (hF.block S.st (hlt_ r4) h.st_apart.2.2.1).trans r4
  have hF'n : ∀ k ∈ F', k ≠ S.st ∧ k ∉ S.FC ∧ k ∉ S.lb := fun k hk => by
    rcases gr k hk with z | z
    · exact ⟨fun e => h.st_apart.2.1 (e ▸ z), h.a1 k z, h.a2 k z⟩
    · exact ⟨fun e => by have := h.lt_st; omega, fun e => by have := (hold2 k (by simp [e])).2; omega, fun e => by have := (hold2 k (by simp [e])).2; omega⟩
  have hl : ∀ k ∈ S.lb, w'.heap[k]? = w1.heap[k]? := fun k q => (keep k (by have := (hold2 k (by simp [q])).2; omega) (fun z => h.st_apart.2.2.2 (z ▸ q)) (fun z => h.a3 k z q)).trans (o3 k q)
  have hF2 : ∀ k ∈ F2, k ∈ S.FC ∨ w3.heap.size ≤ k := fun k q => (hG k q).imp id (fun z => by rw [hs3] at z; exact z)
  refine ⟨F2, ⟨hD.of_heap fun k q => keep k (hD.lt k q).2 (hF'n k q).1 (hF'n k q).2.1, ?_, hC, r5, World.ownsRow_nil _ _ _ _, fun k q => ⟨(h.lb k q).1, ?_⟩, rfl, fun j hj => absurd hj (Nat.not_lt_zero j), fun x hx => ?_, rfl, fun k hk q => ?_, fun k hk q => (hF'n k hk).2.2 q, fun k hk q => ?_, h.bg, h.bs, h.bp⟩, ?_, ?_, ?_⟩
  · show FK w' S.g S.p s2 ((m + S.vs.length : Nat) : Int) S.ep
    rw [← hs2]
    exact (keep S.g (hlt_ hf) (fun q => h.st_apart.1 q.symm) h.g_apart.2.1).trans hf
  · obtain ⟨cs, hc⟩ := (h.lb k q).2
    exact ⟨cs, (hl k q).trans hc⟩
  · have hx2 : x ∈ S.a.held.reverse ++ S.a.clean := List.mem_of_mem_take hx
    rcases List.mem_append.1 hx2 with z | z
    · have z2 := List.mem_reverse.1 z
      rw [h.hd] at z2
      obtain ⟨j, hj, rfl⟩ := heldL_mem _ _ _ z2
      have cv := h.cv j hj
      have hj2 : j < S.vs.length := h.cl ▸ hj
      have e : S.s.ma + (j : Int) = ((m + j : Nat) : Int) := by rw [hm]; push_cast; rfl
      refine ⟨S.vs.getD j (0, []), cv.to (fun k q => q) hl, ?_, ?_, ?_⟩
      · show 2 ≤ S.s.ma + (j : Int); rw [e]; omega
      · show S.s.ma + (j : Int) < s2.ma; rw [e, hs2]; omega
      · show unpackF (S.s.ma + (j : Int)) (D'.readOf (S.s.ma + (j : Int)).toNat) = _
        rw [e, Int.toNat_natCast, hB.new j hj2, unpack_page _ _ _ _ ((kindOk_iff _).2 cv.kk) ((placeOk_iff _).2 ⟨by omega, by omega⟩) cv.le cv.by8, if_pos rfl]
    · obtain ⟨v, c1, c2, c3, c4⟩ := h.ck x z
      refine ⟨v, c1.to (fun k q => q) hl, c2, ?_, ?_⟩
      · show x.1 < s2.ma; rw [hs2]; rw [hm] at c3; push_cast; omega
      · show unpackF x.1 (D'.readOf x.1.toNat) = _
        rw [hB.old x.1.toNat (by omega) (by omega)]; exact c4
  · rcases hF2 k q with z | z
    · exact (hF'n k hk).2.1 z
    · have := (hD.lt k hk).2; omega
  · rcases hF2 k hk with z | z
    · exact h.a3 k z q
    · have := (hold2 k (by simp [show k ∈ S.lb from q])).2; omega
  · exact (fr.below (fun k hk => (hold2 k (by rcases List.mem_cons.1 hk with z | z <;> simp [z])).1) hbw).trans (((Below.refl base w3).setCell (p := ⟨S.st, 3, none⟩) h.bs _).trans (hF.below (fun k hk => (hold2 k (by simp [hk])).1) (by rw [hs3]; omega)))
  · have f1 : Fr S.fp w1 w3 := fr.wider fun k hk => (Sto.mem S k).2 (by rcases List.mem_cons.1 hk with z | z <;> simp [z])
    have f2 : Fr S.fp w1 (w3.setCell ⟨S.st, 3, none⟩ (.slice none 0 0)) := f1.setCell ((Sto.mem S S.st).2 (by simp)) 3 _
    exact f2.trans ⟨hF.os, hF.tape, hF.output, hF.size, hF.block⟩ (fun k q => Or.inl ((Sto.mem S k).2 (by simp [q])))
  · intro k q
    rcases (Sto.mem _ k).1 q with e | e | e | e | e | e
    · exact Or.inl ((Sto.mem S k).2 (Or.inl e))
    · exact Or.inl ((Sto.mem S k).2 (Or.inr (Or.inl e)))
    · exact (gr k e).imp (fun z => (Sto.mem S k).2 (by simp [z])) id
    · exact (hF2 k e).imp (fun z => (Sto.mem S k).2 (by simp [z])) (fun z => by omega)
    · exact Or.inl ((Sto.mem S k).2 (Or.inr (Or.inr (Or.inr (Or.inr (Or.inl e))))))
    · cases e
set_option maxRecDepth 100000 in
set_option maxHeartbeats 1000000 in
/-- Flush with any good head, on a disk that is not armed. -/
theorem flush_un (w : World) (base : Nat) (S : Sto) (h : SK w base S) (hlv : liveF S.D S.ep = 0) (hcl : S.cts.length ≤ 4096) (m : Nat) (hm : S.s.ma = m) (hnx : S.nx = m) (hm2 : 2 ≤ m ∧ m + S.vs.length ≤ 4096) (hnp : m + S.vs.length ≤ S.D.np) (hge : 0 ≤ S.s.ge ∧ S.s.ge < 1099511627776) (hd : Int) (hh : hd = 0 ∨ (2 ≤ hd ∧ hd < (m + S.vs.length : Nat))) (hval : validS ⟨S.s.wd, S.s.ge + 1, (m + S.vs.length : Nat), hd, S.s.pg⟩ = true) (ha : S.D.armed = 0) (hops : S.D.ops.length ≤ 100000) (hwr : S.D.writes ≤ 2000000000000000000) (hsy : S.D.syncs ≤ 2000000000000000000) (hN : S.N < 3000000000000000000) :
    Calls Try.prog 27 #[.pointer (some ⟨S.st, 0, none⟩), .int .i64 hd] w fun e w' => ∃ F' F2 D' s2, e = .returned (.int .i64 0) ∧ s2 = ⟨S.s.wd, S.s.ge + 1, (m + S.vs.length : Nat), hd, S.s.pg⟩ ∧ Pbd S m s2 D' ∧ (D'.armed = 0 ∧ D'.writes = S.D.writes + S.vs.length + 1 ∧ D'.syncs = S.D.syncs + 2) ∧ SK w' base { S with F := F', FC := F2, D := D', s := s2, nx := m + S.vs.length, N := S.N + 1, a := S.a.settle, sv := .slice none 0 0, cts := [], vs := [] } ∧ Below base w w' ∧ Fr S.fp w w' ∧ Gr w S.fp (Sto.fp { S with F := F', FC := F2, sv := .slice none 0 0 }) := by
  have hvl := h.cl
  have hbw := h.base
  have hok := h.da.ok
  have hv : ∀ v ∈ S.vs, (1 ≤ v.1 ∧ v.1 ≤ 3) ∧ v.2.length ≤ 246 ∧ Byts v.2 := fun v hv => by
    obtain ⟨j, hj, e⟩ := List.getElem_of_mem hv
    have c := h.cv j (by omega)
    rw [show S.vs.getD j (0, []) = v by rw [← e]; simp [List.getD, hj]] at c
    exact ⟨c.kk, c.le, c.by8⟩
  obtain ⟨a1, a2, a3, a4, a5⟩ := appD_same S.vs S.D m
  have PUB := fun (w1 : World) (hb : Below w.heap.size w w1) => opublish_any w1 base S (h.below hb) hlv (by omega) m hm hnx hm2.1 hnp hd hh hge hval (fun hl => ⟨live_pw hl, by rw [a5]; omega, by rw [a4]; omega, by rw [a3]; omega⟩) (by omega) (by omega)
  obtain ⟨s2, hs2⟩ : ∃ s2 : Sup, s2 = ⟨S.s.wd, S.s.ge + 1, (m + S.vs.length : Nat), hd, S.s.pg⟩ := ⟨_, rfl⟩
  have PB2 : ∀ w1, Below w.heap.size w w1 → Calls Try.prog 52 #[.pointer (some ⟨S.st, 0, none⟩), .int .i64 hd] w1 fun e w' => e = .returned (.int .i64 0) ∧ w'.heap[S.st]? = some (.cells (stC S.g S.pc S.sv).toArray 79 (0, 0)) ∧ Ca.CA w' base S.FC S.pc S.N S.a ∧ (∃ w1 D' F', Below w.heap.size w w1 ∧ Pbd S m s2 D' ∧ (D'.armed = 0 ∧ D'.writes = S.D.writes + S.vs.length + 1 ∧ D'.syncs = S.D.syncs + 2) ∧ DA w' base F' S.p D' ∧ FK w' S.g S.p s2 s2.ma S.ep ∧ Fr (S.g :: S.F) w1 w' ∧ Gr w1 S.F F') := fun w1 hb => by
    refine (PUB w1 hb).mono fun e w' ⟨c, D', s', F', he, hP, hD, hf, hF, hG⟩ => ?_
    obtain ⟨rfl, hc2⟩ := pubEnd_un hP ha
    obtain ⟨hs', hB⟩ := pubEnd_go hP hok hv hm2.1 hnp (by omega) (by omega) (by omega) hge.1 hval
    rw [← hs2] at hs'
    subst hs'
    have h1 := h.below hb
    obtain ⟨o1, o2, o3, o4⟩ := h1.off hF
    refine ⟨he, o1.trans h1.sk, ?_, w1, D', F', hb, hB, hc2, hD, hf, hF, hG⟩
    obtain ⟨mm, n, s, L, e, c, r⟩ := h1.ca
    exact ⟨mm, n, s, L, e, c.of_heap fun k hk => o4 k (by rw [e]; exact hk), r⟩
  have END : ∀ e w', (∃ w3, e = Ending.returned (.int .i64 0) ∧ (∃ w1 D' F', Below w.heap.size w w1 ∧ Pbd S m s2 D' ∧ (D'.armed = 0 ∧ D'.writes = S.D.writes + S.vs.length + 1 ∧ D'.syncs = S.D.syncs + 2) ∧ DA w3 base F' S.p D' ∧ FK w3 S.g S.p s2 s2.ma S.ep ∧ Fr (S.g :: S.F) w1 w3 ∧ Gr w1 S.F F') ∧ Ca.Nx base S.FC S.pc S.N (w3.setCell ⟨S.st, 3, none⟩ (.slice none 0 0)) S.a.settle w') → ∃ F' F2 D' s2, e = .returned (.int .i64 0) ∧ s2 = ⟨S.s.wd, S.s.ge + 1, (m + S.vs.length : Nat), hd, S.s.pg⟩ ∧ Pbd S m s2 D' ∧ (D'.armed = 0 ∧ D'.writes = S.D.writes + S.vs.length + 1 ∧ D'.syncs = S.D.syncs + 2) ∧ SK w' base { S with F := F', FC := F2, D := D', s := s2, nx := m + S.vs.length, N := S.N + 1, a := S.a.settle, sv := .slice none 0 0, cts := [], vs := [] } ∧ Below base w w' ∧ Fr S.fp w w' ∧ Gr w S.fp (Sto.fp { S with F := F', FC := F2, sv := .slice none 0 0 }) := fun e w' ⟨w3, he, ⟨w1, D', F', hb, hB, hc2, hD, hf, hF, hG⟩, hX⟩ => by
    obtain ⟨F2, hK, hZ⟩ := (h.below hb).flushed m hm hm2.1 (by rw [hs2]) hm2.2 hD hf hF hG hB hX
    exact ⟨F', F2, D', s2, he, hs2, hB, hc2, hK, (hb.mono hbw).trans hZ.1, (Fr.of_below (F := S.fp) hb).trans hZ.2.1 (Gr.refl _ _), fun k q => (hZ.2.2 k q).imp id (fun z => Nat.le_trans hb.size z)⟩
  rcases hh with rfl | q
  · exact (oFlush_ok w base S h hlv (by omega) hN _ PB2).mono fun e w' z => END e w' z
  · exact (oFlush_okH w base S h hlv (by omega) (by omega) ⟨by omega, by omega⟩ hd (by omega) ⟨q.1, by rw [hm, hvl]; have := q.2; push_cast at this; exact this⟩ hN _ PB2).mono fun e w' z => END e w' z
end Go.Proofs.Ytihkjfbhmlfonaa
