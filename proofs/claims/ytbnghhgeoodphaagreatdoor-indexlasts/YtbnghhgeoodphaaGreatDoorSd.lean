import Derived.Test.YtbnghhgeoodphaaGreatDoorSc
namespace Go.Proofs.YtbnghhgeoodphaaGreatDoor
set_option maxRecDepth 100000
set_option maxHeartbeats 40000000
set_option linter.unusedVariables false
set_option linter.unusedSimpArgs false
open Go.RowKit
open Go.Proofs.YtbnghhgeoodphaaGreatDoor.Ca (Ct ct0 ctC argV AS)
attribute [local go_sem ↓] Go.wp_at_zero Go.wp_at_succ
structure MD where
 kind : Int
 load : List Int
def dM : MD := ⟨0, []⟩
def mdL (m : MD) (tp : Option Addr) (tc : Nat) : List Value := [.int .i64 m.kind, .slice tp m.load.length tc]
def Mds (w : World) (B : Nat) (sp : Option Addr) (ms : List MD) : Prop := ∃ b o, (0 < ms.length -> b < B /\ sp = some ⟨b, o, none⟩) /\ ∀ i, i < ms.length -> ∃ tp tc, w.rangeAt b (o + i * 2) (mdL (ms.getD i dM) tp tc) /\ Src w tp tc (ms.getD i dM).load /\ (0 < (ms.getD i dM).load.length -> ∀ a, tp = some a -> a.block < B)
theorem SrcB {w w1 : World} {B : Nat} {sp : Option Addr} {cap : Nat} {zs : List Int} (h : Src w sp cap zs) (hb : Below B w w1) (hB : 0 < zs.length -> ∀ a, sp = some a -> a.block < B) : Src w1 sp cap zs := by
 obtain ⟨h1, h2, b, o, h3, h4, h5⟩ := h
 refine ⟨h1, h2, b, o, fun hp => Nat.lt_of_lt_of_le (h3 hp) hb.size, h4, fun j hj => ?_⟩
 have : b < B := hB (by omega) _ (h4 (by omega))
 exact (hb.cell (p := ⟨b, o + j, none⟩) this).trans (h5 j hj)
theorem Mds.at {w w1 : World} {B : Nat} {sp : Option Addr} {ms : List MD} (h : Mds w B sp ms) (hb : Below B w w1) (i : Nat) (hi : i < ms.length) : ∃ b o tp tc, sp = some ⟨b, o, none⟩ /\ b < B /\ w1.cell? ⟨b, o + i * 2, none⟩ = some (.int .i64 (ms.getD i dM).kind) /\ w1.cell? ⟨b, o + i * 2 + 1, none⟩ = some (.slice tp (ms.getD i dM).load.length tc) /\ Src w1 tp tc (ms.getD i dM).load /\ (0 < (ms.getD i dM).load.length -> ∀ a, tp = some a -> a.block < B) := by
 obtain ⟨b, o, h1, h2⟩ := h
 obtain ⟨q1, q2⟩ := h1 (by omega)
 obtain ⟨tp, tc, q3, q4, q5⟩ := h2 i hi
 exact ⟨b, o, tp, tc, q2, q1, (hb.cell (p := ⟨b, o + i * 2, none⟩) q1).trans (q3 0 _ rfl), (hb.cell (p := ⟨b, o + i * 2 + 1, none⟩) q1).trans (q3 1 _ rfl), SrcB q4 hb q5, q5⟩
structure Sam (S S' : Sto) : Prop where
 p : S'.p = S.p
 g : S'.g = S.g
 st : S'.st = S.st
 pc : S'.pc = S.pc
 D : S'.D = S.D
 s : S'.s = S.s
 nx : S'.nx = S.nx
 ep : S'.ep = S.ep
theorem Sam.refl (S : Sto) : Sam S S := ⟨rfl, rfl, rfl, rfl, rfl, rfl, rfl, rfl⟩
theorem Sam.trans {S S' S'' : Sto} (h : Sam S S') (k : Sam S' S'') : Sam S S'' := ⟨k.p.trans h.p, k.g.trans h.g, k.st.trans h.st, k.pc.trans h.pc, k.D.trans h.D, k.s.trans h.s, k.nx.trans h.nx, k.ep.trans h.ep⟩
theorem acted_off {D : DS} (h : D.power = false) : D.acted.power = false := by
 unfold DS.acted
 split
 · exact h
 · split
   · rfl
   · exact h
theorem wr_off {D : DS} {o : OW} (h : D.power = false) : (D.wr o).power = false := acted_off (D := ({ D.pushed o with writes := D.writes + 1 } : DS)) h
theorem appD_off : ∀ (l : List (Int × List Int)) (D : DS) (m : Nat), D.power = false -> (appD D m l).power = false
 | [], D, m, h => h
 | v :: r, D, m, h => appD_off r _ _ (wr_off h)
theorem appD_dead : ∀ (l : List (Int × List Int)) (D : DS) (m : Nat), 1 <= D.armed -> D.armed <= l.length -> (appD D m l).power = false
 | [], D, m, h1, h2 => by simp at h2; omega
 | v :: r, D, m, h1, h2 => by
   obtain ⟨a1, a2, a3⟩ := wr_arm D ⟨m, pageP v.1 m v.2⟩ (by omega)
   by_cases e : D.armed = 1
   · exact appD_off r _ _ (a3 e)
   · rw [if_neg (by omega)] at a1
     simp only [List.length_cons] at h2
     exact appD_dead r _ _ (by rw [a1]; omega) (by rw [a1]; push_cast at h2 ⊢; omega)
theorem appD_arm : ∀ (l : List (Int × List Int)) (D : DS) (m : Nat), (l.length : Int) < D.armed →
   (appD D m l).armed = D.armed - l.length /\ (appD D m l).power = D.power /\ (appD D m l).epoch = D.epoch /\ (appD D m l).ops.length = D.ops.length + l.length /\ (appD D m l).writes = D.writes + l.length /\ (appD D m l).syncs = D.syncs
 | [], D, m, h => by simp [appD]
 | v :: r, D, m, h => by
   simp only [List.length_cons] at h
   obtain ⟨a1, a2, a3⟩ := wr_arm D ⟨m, pageP v.1 m v.2⟩ (by push_cast at h; omega)
   obtain ⟨e1, e2, e3, e4, e5, e6⟩ := wr_img D ⟨m, pageP v.1 m v.2⟩
   rw [if_neg (by push_cast at h; omega)] at a1
   obtain ⟨q1, q2, q3, q4, q5, q6⟩ := appD_arm r (D.wr ⟨m, pageP v.1 m v.2⟩) (m + 1) (by rw [a1]; push_cast at h; omega)
   simp only [appD, List.length_cons]
   refine ⟨by rw [q1, a1]; push_cast; omega, by rw [q2, a2 (by push_cast at h; omega)], by rw [q3, e3], by rw [q4, e2, List.length_append, List.length_singleton]; omega, by rw [q5, e5]; push_cast; omega, by rw [q6, e6]⟩
theorem runS_arm (D : DS) (s2 : Sup) (h : 1 <= D.armed) : (runS D [.sync, .lay s2 0 0, .sync]).2 = if D.armed <= 3 then 2 else 0 := by
 have hz : ∀ X : DS, X.armed = 1 -> St.go .sync X = (X.acted, 2) := fun X hX => by show sy X = _; unfold sy; rw [if_pos hX]
 have hy : ∀ X : DS, X.armed ≠ 1 -> St.go .sync X = (X.synced, 0) := fun X hX => by show sy X = _; unfold sy; rw [if_neg hX]
 by_cases e1 : D.armed = 1
 · rw [runS, hz D e1, if_neg (show ¬ ((2 : Int) = 0) by decide), if_pos (by omega)]
 · have s1 := (sync_arm D (by omega) e1).1
   rw [if_neg (by omega)] at s1
   rw [runS, hy D e1, if_pos rfl, runS]
   show (if D.synced.actE = 0 then runS (D.synced.wr _) [.sync] else (D.synced.wr _, D.synced.actE)).2 = _
   by_cases e2 : D.synced.armed = 1
   · rw [actE_2 e2, if_neg (by decide), if_pos (by omega)]
   · rw [actE_0 e2, if_pos rfl, runS]
     have w1 := (wr_arm D.synced ⟨(s2.ge % 2).toNat, secP s2⟩ (by omega)).1
     rw [if_neg (by omega)] at w1
     by_cases e3 : (D.synced.wr ⟨(s2.ge % 2).toNat, secP s2⟩).armed = 1
     · rw [hz _ e3, if_neg (show ¬ ((2 : Int) = 0) by decide), if_pos (by omega)]
     · rw [hy _ e3, if_pos rfl, runS, if_neg (by omega)]
theorem live_pw {D : DS} {ep : Int} (h : liveF D ep = 0) : D.power = true := by
 unfold liveF at h
 by_cases e : D.epoch ≠ ep
 · rw [if_pos e] at h; cases h
 · rw [if_neg e] at h
   by_cases p : D.power = true
   · exact p
   · rw [if_neg p] at h; cases h
theorem pubEnd_arm {S : Sto} {m : Nat} {hd c : Int} {D' : DS} {s' : Sup} (h : PubEnd S m hd c D' s') (ha : 1 <= S.D.armed) :
   (S.D.armed <= S.vs.length + 3 -> c = 2 /\ s' = S.s) /\ (S.vs.length + 3 < S.D.armed -> c = 0 /\ s' = ⟨S.s.wd, S.s.ge + 1, (m + S.vs.length : Nat), hd, S.s.pg⟩) := by
 rcases h with ⟨i, hi, h1, h2, h3, h4, h5⟩ | ⟨h1, h2, h3, h4⟩
 · refine ⟨fun _ => ⟨h3, h5⟩, fun q => ?_⟩
   have hl : (S.vs.take i).length = i := by rw [List.length_take]; omega
   have := (appD_arm (S.vs.take i) S.D m (by rw [hl]; omega)).1
   rw [h1, hl] at this
   omega
 · have hp := live_pw h1
   have hk : (S.vs.length : Int) < S.D.armed := by
     rcases Int.lt_or_le (S.vs.length : Int) S.D.armed with q | q
     · exact q
     · have := appD_dead S.vs S.D m ha q
       rw [this] at hp; cases hp
   obtain ⟨a1, _⟩ := appD_arm S.vs S.D m hk
   rw [runS_arm _ _ (by rw [a1]; omega), a1] at h2
   refine ⟨fun q => ?_, fun q => ?_⟩
   · rw [if_pos (by omega)] at h2
     exact ⟨h2, by rw [h4, h2]; rfl⟩
   · rw [if_neg (by omega)] at h2
     exact ⟨h2, by rw [h4, h2]; rfl⟩
end Go.Proofs.YtbnghhgeoodphaaGreatDoor
