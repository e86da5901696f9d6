import Derived.Test.YtjpcegjgandnjaaGreatDoorQ19
import Derived.Test.YtjpcegjgandnjaaGreatDoorQ13
namespace Go.Proofs.YtjpcegjgandnjaaGreatDoor
set_option linter.unusedVariables false
set_option linter.unusedSimpArgs false
open Go.RowKit
open Go.Proofs.YtjpcegjgandnjaaGreatDoor.Ca (Ct ct0 ctC argV AS)
attribute [local go_sem ↓] Go.wp_at_zero Go.wp_at_succ

/-- A page to be staged. -/
structure MD where
  kind : Int
  load : List Int
def dM : MD := ⟨0, []⟩
def mdL (m : MD) (tp : Option Addr) (tc : Nat) : List Value := [.int .i64 m.kind, .slice tp m.load.length tc]
def Mds (w : World) (B : Nat) (sp : Option Addr) (ms : List MD) : Prop := ∃ b o, (0 < ms.length → b < B ∧ sp = some ⟨b, o, none⟩) ∧ ∀ i, i < ms.length → ∃ tp tc, w.rangeAt b (o + i * 2) (mdL (ms.getD i dM) tp tc) ∧ Src w tp tc (ms.getD i dM).load ∧ (0 < (ms.getD i dM).load.length → ∀ a, tp = some a → a.block < B)
theorem SrcB {w w1 : World} {B : Nat} {sp : Option Addr} {cap : Nat} {zs : List Int} (h : Src w sp cap zs) (hb : Below B w w1) (hB : 0 < zs.length → ∀ a, sp = some a → a.block < B) : Src w1 sp cap zs := by
  obtain ⟨h1, h2, b, o, h3, h4, h5⟩ := h
  refine ⟨h1, h2, b, o, fun hp => Nat.lt_of_lt_of_le (h3 hp) hb.size, h4, fun j hj => ?_⟩
  have : b < B := hB (by omega) _ (h4 (by omega))
  exact (hb.cell (p := ⟨b, o + j, none⟩) this).trans (h5 j hj)
theorem Mds.at {w w1 : World} {B : Nat} {sp : Option Addr} {ms : List MD} (h : Mds w B sp ms) (hb : Below B w w1) (i : Nat) (hi : i < ms.length) : ∃ b o tp tc, sp = some ⟨b, o, none⟩ ∧ b < B ∧ w1.cell? ⟨b, o + i * 2, none⟩ = some (.int .i64 (ms.getD i dM).kind) ∧ w1.cell? ⟨b, o + i * 2 + 1, none⟩ = some (.slice tp (ms.getD i dM).load.length tc) ∧ Src w1 tp tc (ms.getD i dM).load ∧ (0 < (ms.getD i dM).load.length → ∀ a, tp = some a → a.block < B) := by
  obtain ⟨b, o, h1, h2⟩ := h
  obtain ⟨q1, q2⟩ := h1 (by omega)
  obtain ⟨tp, tc, q3, q4, q5⟩ := h2 i hi
  exact ⟨b, o, tp, tc, q2, q1, (hb.cell (p := ⟨b, o + i * 2, none⟩) q1).trans (q3 0 _ rfl), (hb.cell (p := ⟨b, o + i * 2 + 1, none⟩) q1).trans (q3 1 _ rfl), SrcB q4 hb q5, q5⟩
/-- The same store, on other pages staged. -/
structure Sam (S S' : Sto) : Prop where
  p : S'.p = S.p
  g : S'.g = S.g
  st : S'.st = S.st
  pc : S'.pc = S.pc
  D : S'.D = S.D
  s : S'.s = S.s
  nx : S'.nx = S.nx
  ep : S'.ep = S.ep
theorem Sam.refl (S : Sto) : Sam S S := ⟨rfl, rfl, rfl, rfl, rfl, rfl, rfl, rfl⟩
theorem Sam.trans {S S' S'' : Sto} (h : Sam S S') (k : Sam S' S'') : Sam S S'' := ⟨k.p.trans h.p, k.g.trans h.g, k.st.trans h.st, k.pc.trans h.pc, k.D.trans h.D, k.s.trans h.s, k.nx.trans h.nx, k.ep.trans h.ep⟩
end Go.Proofs.YtjpcegjgandnjaaGreatDoor
namespace Go.Proofs.YtjpcegjgandnjaaGreatDoor
set_option linter.unusedVariables false
set_option linter.unusedSimpArgs false
open Go.RowKit
open Go.Proofs.YtjpcegjgandnjaaGreatDoor.Ca (Ct ct0 ctC argV AS)
attribute [local go_sem ↓] Go.wp_at_zero Go.wp_at_succ

end Go.Proofs.YtjpcegjgandnjaaGreatDoor
namespace Go.Proofs.YtjpcegjgandnjaaGreatDoor
set_option linter.unusedVariables false
set_option linter.unusedSimpArgs false
open Go.RowKit
open Go.Proofs.YtjpcegjgandnjaaGreatDoor.Ca (Ct ct0 ctC argV AS)
attribute [local go_sem ↓] Go.wp_at_zero Go.wp_at_succ

theorem Mds.take {w : World} {B : Nat} {sp : Option Addr} {ms : List MD} (h : Mds w B sp ms) (n : Nat) : Mds w B sp (ms.take n) := by
  obtain ⟨b, o, h1, h2⟩ := h
  refine ⟨b, o, fun hp => h1 (by rw [List.length_take] at hp; omega), fun i hi => ?_⟩
  rw [List.length_take] at hi
  have e : (ms.take n).getD i dM = ms.getD i dM := by
    rw [List.getD_eq_getElem?_getD, List.getD_eq_getElem?_getD, List.getElem?_take, if_pos (by omega)]
  rw [e]; exact h2 i (by omega)
/-- A disk that was just laid, opened. -/
def opD (D : DS) : DS := { D with reads := D.reads + 2, epoch := D.epoch + 1 }
theorem Born.live {D : DS} {n : Nat} {wd : Int} (h : Born D n wd) : liveF (opD D) 1 = 0 := by
  unfold liveF opD
  rw [if_neg (by show ¬ (D.epoch + 1 ≠ 1); rw [h.epoch]; decide), if_pos h.pw]
end Go.Proofs.YtjpcegjgandnjaaGreatDoor
namespace Go.Proofs.YtjpcegjgandnjaaGreatDoor
set_option linter.unusedVariables false
set_option linter.unusedSimpArgs false
open Go.RowKit
open Go.Proofs.YtjpcegjgandnjaaGreatDoor.Ca (Ct ct0 ctC argV AS)
attribute [local go_sem ↓] Go.wp_at_zero Go.wp_at_succ

end Go.Proofs.YtjpcegjgandnjaaGreatDoor
namespace Go.Proofs.YtjpcegjgandnjaaGreatDoor
set_option linter.unusedVariables false
set_option linter.unusedSimpArgs false
open Go.RowKit
open Go.Proofs.YtjpcegjgandnjaaGreatDoor.Ca (Ct ct0 ctC argV AS)
attribute [local go_sem ↓] Go.wp_at_zero Go.wp_at_succ

end Go.Proofs.YtjpcegjgandnjaaGreatDoor
namespace Go.Proofs.YtjpcegjgandnjaaGreatDoor
set_option linter.unusedVariables false
set_option linter.unusedSimpArgs false
open Go.RowKit
open Go.Proofs.YtjpcegjgandnjaaGreatDoor.Ca (Ct ct0 ctC argV AS)
attribute [local go_sem ↓] Go.wp_at_zero Go.wp_at_succ

end Go.Proofs.YtjpcegjgandnjaaGreatDoor
namespace Go.Proofs.YtjpcegjgandnjaaGreatDoor
set_option linter.unusedVariables false
set_option linter.unusedSimpArgs false
open Go.RowKit
open Go.Proofs.YtjpcegjgandnjaaGreatDoor.Ca (Ct ct0 ctC argV AS)
attribute [local go_sem ↓] Go.wp_at_zero Go.wp_at_succ

/-- A page comes into the cache as a clean one. -/
theorem SK.put {w2 w3 : World} {base : Nat} {S : Sto} (h : SK w2 base S) {F' : List Nat} {N' : Nat} {a' : AS Int Ct} (hC : Ca.CA w3 base F' S.pc N' a') (hF : Fr S.FC w2 w3) (hG : Gr w2 S.FC F') (c : Ct) (v : Int × List Int) (pg : Int) (hci : CtIs w2 base S.lb c v) (h2 : 2 ≤ pg ∧ pg < S.s.ma) (hu : unpackF pg (S.D.readOf pg.toNat) = (v.1, v.2, 0)) (hcl : ∀ x ∈ a'.clean, x = (pg, c) ∨ x ∈ S.a.clean) (hh : a'.held = S.a.held) :
    SK w3 base { S with FC := F', N := N', a := a' } := by
  have hold2 : ∀ k, (k = S.g ∨ k = S.st ∨ k ∈ S.F ∨ k ∈ S.FC ∨ S.sv.ownBlock = some k ∨ k ∈ S.lb) → base ≤ k ∧ k < w2.heap.size := fun k q => h.in_lt q
  have hl : ∀ k ∈ S.lb, w3.heap[k]? = w2.heap[k]? := fun k q => hF.block k (hold2 k (by simp [q])).2 (fun z => h.a3 k z q)
  refine ⟨h.da.of_heap fun k q => hF.block k (hold2 k (by simp [q])).2 (h.a1 k q), (hF.block S.g h.lt_g h.g_apart.2.1).trans h.fk, hC, (hF.block S.st h.lt_st h.st_apart.2.2.1).trans h.sk, ownsRow_heap h.so fun k e => hF.block k (hold2 k (by simp [e])).2 (h.sv_apart e).2.2.2.1, fun k q => ⟨(h.lb k q).1, ?_⟩, h.cl, fun j hj => (h.cv j hj).to (fun k q => q) hl, fun x hx => ?_, hh.trans h.hd, fun k hk q => ?_, h.a2, fun k hk q => ?_, h.bg, h.bs, h.bp⟩
  · obtain ⟨cs, hc⟩ := (h.lb k q).2
    exact ⟨cs, (hl k q).trans hc⟩
  · rcases hcl x hx with e | e
    · subst e
      exact ⟨v, hci.to (fun k q => q) hl, h2.1, h2.2, hu⟩
    · obtain ⟨v, h1, h2⟩ := h.ck x e
      exact ⟨v, h1.to (fun k q => q) hl, h2⟩
  · rcases hG k q with z | z
    · exact h.a1 k hk z
    · have := (hold2 k (by simp [hk])).2; omega
  · rcases hG k hk with z | z
    · exact h.a3 k z q
    · have := (hold2 k (by simp [q])).2; omega
/-- One more block of loads. -/
theorem SK.more {w : World} {base : Nat} {S : Sto} (h : SK w base S) (lb' : List Nat) (hsub : ∀ k ∈ S.lb, k ∈ lb') (hn : ∀ k ∈ lb', k ∈ S.lb ∨ (base ≤ k ∧ (∃ cs, w.heap[k]? = some (.cells cs 5 (0, 0))) ∧ k ∉ S.F ∧ k ∉ S.FC)) :
    SK w base { S with lb := lb' } := by
  refine ⟨h.da, h.fk, h.ca, h.sk, h.so, fun k q => ?_, h.cl, fun j hj => (h.cv j hj).to hsub (fun _ _ => rfl), fun x hx => ?_, h.hd, h.a1, fun k hk q => ?_, fun k hk q => ?_, h.bg, h.bs, h.bp⟩
  · rcases hn k q with z | z
    · exact h.lb k z
    · exact ⟨z.1, z.2.1⟩
  · obtain ⟨v, h1, h2⟩ := h.ck x hx
    exact ⟨v, h1.to hsub (fun _ _ => rfl), h2⟩
  · rcases hn k q with z | z
    · exact h.a2 k hk z
    · exact z.2.2.1 hk
  · rcases hn k q with z | z
    · exact h.a3 k hk z
    · exact z.2.2.2 hk
theorem get_none {a : AS Int Ct} {k : Int} (h : a.val k = none) : (a.get k).val k = none ∧ (a.get k).clean = a.clean ∧ (a.get k).held = a.held := by
  unfold Ca.AS.val at h
  have h1 : Ca.findL a.held k = none := by cases q : Ca.findL a.held k with
    | none => rfl
    | some x => rw [q] at h; cases h
  have h2 : Ca.findL a.clean k = none := by rw [h1] at h; simpa using h
  unfold Ca.AS.get
  rw [h1, h2]
  exact ⟨by unfold Ca.AS.val; rw [h1, h2]; rfl, rfl, rfl⟩
theorem put_clean {a : AS Int Ct} {k : Int} {c : Ct} (h : a.val k = none) : (∀ x ∈ (a.put k c).clean, x = (k, c) ∨ x ∈ a.clean) ∧ (a.put k c).held = a.held := by
  unfold Ca.AS.val at h
  have h1 : Ca.findL a.held k = none := by cases q : Ca.findL a.held k with
    | none => rfl
    | some x => rw [q] at h; cases h
  unfold Ca.AS.put
  rw [h1]
  refine ⟨fun x hx => ?_, rfl⟩
  have hx2 := List.mem_of_mem_take hx
  rcases List.mem_cons.1 hx2 with e | e
  · exact Or.inl e
  · exact Or.inr (List.mem_filter.1 e).1
/-- A page read off the disk, put into the block found. -/
theorem SK.fetched {w3 w5 : World} {base : Nat} {S : Sto} (h : SK w3 base S) (m : Nat) (hm : S.s.ma = m) (hnx : S.nx = m) {D' : DS} {o4 : Array Value} (hD : DA w5 base S.F S.p D') (hf : FK w5 S.g S.p S.s S.nx S.ep) (fr : Fr S.F (w3.alloc (.cells o4 166)) w5) (hrd : ∀ q, D'.readOf q = S.D.readOf q) (c : Ct) (kd : Int) (zs : List Int) (hO : Own w5 (w3.alloc (.cells o4 166)).heap.size (.slice c.sp c.n c.c) zs) (hc : c.kd = kd) (hkd : 1 ≤ kd ∧ kd ≤ 3) (hz : zs.length ≤ 246) (h8 : Byts zs) :
    SK (w5.setRow w3.heap.size (ctC c).toArray) base { S with D := D', nx := m, lb := (Value.slice c.sp c.n c.c).ownBlock.toList ++ S.lb } ∧ CtIs (w5.setRow w3.heap.size (ctC c).toArray) base ((Value.slice c.sp c.n c.c).ownBlock.toList ++ S.lb) c (kd, zs) ∧ (w5.setRow w3.heap.size (ctC c).toArray).heap[w3.heap.size]? = some (.cells (ctC c).toArray 166 (0, 0)) ∧ Below base w3 (w5.setRow w3.heap.size (ctC c).toArray) := by
  have hb := h.base
  have hsz : (w3.alloc (.cells o4 166)).heap.size = w3.heap.size + 1 := by simp
  have h4 := h.below (below_new w3 (.cells o4 166))
  have h5 : SK w5 base { S with F := S.F, D := D', nx := m } := h4.disked hD m hm (by rw [hm, ← hnx]; exact hf) (fr.wide S.g) (Gr.refl _ _) (fun x _ => hrd _)
  have hfb : w3.heap.size ∉ S.F := fun q => by have := (h.in_lt (k := w3.heap.size) (by simp [q])).2; omega
  have r5 : w5.heap[w3.heap.size]? = some (.cells o4 166 (0, 0)) := fr.keep (hnew w3 _) hfb
  have hob : ∀ k, (Value.slice c.sp c.n c.c).ownBlock = some k → w3.heap.size + 1 ≤ k ∧ ∃ cs, w5.heap[k]? = some (.cells cs 5 (0, 0)) := fun k e => by
    obtain ⟨q1, cur, q2⟩ := ownsRow_block hO k e
    rw [hsz] at q1
    exact ⟨q1, cur, q2⟩
  have hold2 : ∀ k, (k = S.g ∨ k = S.st ∨ k ∈ S.F ∨ k ∈ S.FC ∨ S.sv.ownBlock = some k ∨ k ∈ S.lb) → base ≤ k ∧ k < w3.heap.size := fun k q => h.in_lt q
  have hm6 := h5.more ((Value.slice c.sp c.n c.c).ownBlock.toList ++ S.lb) (fun k q => List.mem_append_right _ q) (fun k q => by
    rcases List.mem_append.1 q with z | z
    · obtain ⟨q1, q2⟩ := hob k (by simpa using z)
      exact Or.inr ⟨by omega, q2, fun y => by have := (hold2 k (by simp [show k ∈ S.F from y])).2; omega, fun y => by have := (hold2 k (by simp [show k ∈ S.FC from y])).2; omega⟩
    · exact Or.inl z)
  have hne : ∀ k, k ≠ w3.heap.size → (w5.setRow w3.heap.size (ctC c).toArray).heap[k]? = w5.heap[k]? := fun k q => setRow_other _ _ _ _ q
  refine ⟨hm6.of_heap (fun k hk => hne k ?_) (by simp), ⟨hc, (hO.base (by rw [hsz]; omega)).of_heap fun k e => hne k (by have := (hob k e).1; omega), fun k e => List.mem_append_left _ (by simp [e]), hkd, hz, h8⟩, setRow_heap _ _ _ _ _ _ r5, ?_⟩
  · rcases hk with e | e | e | e | e | e
    · have := (hold2 k (Or.inl e)).2; omega
    · have := (hold2 k (Or.inr (Or.inl e))).2; omega
    · have := (hold2 k (Or.inr (Or.inr (Or.inl e)))).2; omega
    · have := (hold2 k (Or.inr (Or.inr (Or.inr (Or.inl e))))).2; omega
    · have := (hold2 k (Or.inr (Or.inr (Or.inr (Or.inr (Or.inl e)))))).2; omega
    · rcases List.mem_append.1 e with z | z
      · have := (hob k (by simpa using z)).1; omega
      · have := (hold2 k (Or.inr (Or.inr (Or.inr (Or.inr (Or.inr z)))))).2; omega
  · exact below_setRow (((below_new w3 (.cells o4 166)).mono hb).trans (fr.below (fun k q => (hold2 k (by simp [q])).1) (by rw [hsz]; omega))) hb _
set_option maxRecDepth 100000 in
set_option maxHeartbeats 4000000 in
/-- A page that is not in memory. -/
theorem oLoad_miss (w : World) (base : Nat) (S : Sto) (h : SK w base S) (hlv : liveF S.D S.ep = 0) (hl : S.cts.length ≤ 100000) (m : Nat) (hm : S.s.ma = m) (hnx : S.nx = m) (hm2 : 2 ≤ m ∧ m ≤ 100000) (hN : S.N < 2500000000000000000) (q : Nat) (hq : 2 ≤ q ∧ q < m ∧ q < S.D.np) (hv : S.a.val (q : Int) = none) (hr : S.D.reads < 3000000000000000000) (kd : Int) (zs : List Int) (hu : unpackF q (S.D.readOf q) = (kd, zs, 0)) (hkd : 1 ≤ kd ∧ kd ≤ 3) (hz : zs.length ≤ 246) (h8 : Byts zs) :
    Calls Tryz.prog 125 #[.pointer (some ⟨S.st, 0, none⟩), .int .i64 q] w fun e w' => ∃ S' v, e = .returned (.tuple #[.int .i64 kd, v, .int .i64 0]) ∧ Own w' w.heap.size v zs ∧ (SK w' base S' ∧ Sam { S with D := { S.D with reads := S.D.reads + 1 } } S' ∧ S'.N = S.N + 2 ∧ S'.vs = S.vs ∧ S'.cts = S.cts) ∧ Below base w w' ∧ Fr S.fp w w' ∧ Gr w S.fp S'.fp := by
  have hbw := h.base
  have HL := hid (oLive_any w base S h)
  rw [hlv] at HL
  have HA := hid (fun w1 (z : Below w.heap.size w w1) => ohas_any w1 base S (h.below z) hl ⟨by omega, by omega⟩ (q : Int))
  rw [decide_eq_true (show 2 ≤ (q : Int) ∧ (q : Int) < S.s.ma + S.cts.length by omega)] at HA
  have HH := hid (fun w1 (z : Below w.heap.size w w1) => h.below z)
  have HV := hid hv
  have HWK := hid (show Ca.wfK (q : Int) from ⟨by omega, by omega⟩)
  have HBW := hid hbw
  obtain ⟨pg, hpg⟩ : ∃ pg : Int, pg = (q : Int) := ⟨_, rfl⟩
  rw [← hpg] at HA HV HWK ⊢
  have HPG := hid hpg
  clear h hl hbw hpg hv
  go_enter Tryz.func125, Tryz.ntmps125
  go_wp2_with fail
  refine HL.out.mono ?_
  rintro e w1 ⟨rfl, hb1⟩
  have HB1 := hid hb1
  clear hb1 HL
  go_wp2_with fail
  refine (HA.out w1 HB1.out).mono ?_
  rintro e w2 ⟨rfl, hb2⟩
  have HB2 := hid (HB1.out.trans (hb2.mono HB1.out.size))
  clear hb2 HB1 w1 HA
  have c2 := (HH.out w2 HB2.out).c2
  have HG : Hid (Calls Tryz.prog 158 #[.pointer (some ⟨S.pc, 0, none⟩), .int .i64 pg] w2 fun x w' => x = .returned (.tuple #[.agg #[.int .i64 0, .slice none 0 0], .bool false]) ∧ Ca.Nx base S.FC S.pc S.N w2 (S.a.get pg) w') := hid (by
    have := Ca.Get_any w2 base S.FC S.pc S.N S.a (HH.out w2 HB2.out).ca pg HWK.out (by omega)
    rw [HV.out] at this
    exact this)
  go_wp2_with fail
  refine HG.out.mono ?_
  rintro e w3 ⟨rfl, F3, hC3, hF3, hG3⟩
  have HS3 := hid ((HH.out w2 HB2.out).cache hC3 hF3 hG3 (get_clean S.a pg) (get_held S.a pg))
  have HB3 := hid ((HB2.out.mono HBW.out).trans (hF3.below (fun k hk => ((HH.out w2 HB2.out).in_lt (by simp [hk])).1) (Nat.le_trans HBW.out HB2.out.size)))
  have FR3 := hid ((Fr.of_below (F := S.fp) HB2.out).trans hF3 (fun k q => Or.inl ((Sto.mem S k).2 (by simp [q]))))
  have GR3 : Hid (Gr w S.FC F3) := hid (fun k q => (hG3 k q).imp id (fun z => Nat.le_trans HB2.out.size z))
  clear hC3 hF3 hG3 HG c2 HH
  have hB4 := below_new w3 (.cells #[.int .i64 0, .slice none 0 0] 166)
  have r4 := hnew w3 (.cells #[.int .i64 0, .slice none 0 0] 166)
  have HS4 := hid (HS3.out.below hB4)
  have HB4 := hid (HB3.out.trans (hB4.mono (Nat.le_trans HBW.out HB3.out.size)))
  have c1 := HS4.out.c1
  have HFR := hid (FRead_ok (w3.alloc (.cells #[.int .i64 0, .slice none 0 0] 166)) base S.F S.p S.D HS4.out.da S.g S.s S.nx S.ep HS4.out.fk hlv q ⟨hq.1, by rw [hnx]; omega, hq.2.2⟩ (by omega) kd zs hu pg HPG.out)
  have hEn : ∀ (args : Array Value) (w : World), (callFunc 73 args).run Tryz.prog w = .ok (.enter 73 args) w := enters_of Tryz.func73 (by kernel_rfl) rfl
  have R4 := hid r4
  have HFB := hid (show S.st ≠ w3.heap.size from fun z => by have q : S.st < w3.heap.size := HS3.out.lt_st; rw [z] at q; exact Nat.lt_irrefl _ q)
  clear hB4 r4
  go_wp2_with fail
  refine HFR.out.mono ?_
  rintro e w5 ⟨v5, rfl, hO5, hD5, hK5, hF5⟩
  obtain ⟨s5, c5, hv5, _, _⟩ := hO5.form
  subst hv5
  obtain ⟨c, hc⟩ : ∃ c : Ct, c = ⟨kd, s5, zs.length, c5⟩ := ⟨_, rfl⟩
  have HFT := hid (HS3.out.fetched m hm hnx hD5 hK5 hF5 (fun _ => rfl) c kd zs (by rw [hc]; exact hO5) (by rw [hc]) hkd hz h8)
  have R5 := hid (show w5.heap[w3.heap.size]? = some (.cells #[.int .i64 0, .slice none 0 0] 166 (0, 0)) from hF5.keep R4.out (fun q => Nat.lt_irrefl _ ((HS3.out.in_lt (k := w3.heap.size) (Or.inr (Or.inr (Or.inl q)))).2)))
  have HBf := hid HB3.out
  have FR5 := hid (((FR3.out.trans (Fr.of_below (F := S.fp) (below_new w3 (.cells #[.int .i64 0, .slice none 0 0] 166))) (Gr.refl _ _))).trans hF5 (fun k q => Or.inl ((Sto.mem S k).2 (by simp [q]))))
  have OB5 : Hid (∀ k, (Value.slice c.sp c.n c.c).ownBlock = some k → w.heap.size ≤ k) := hid (fun k e => by
    obtain ⟨q1, _⟩ := ownsRow_block (show Own w5 _ (.slice c.sp c.n c.c) zs by rw [hc]; exact hO5) k e
    have h1 := FR3.out.size
    have h2 : (w3.alloc (.cells #[.int .i64 0, .slice none 0 0] 166)).heap.size = w3.heap.size + 1 := by simp
    rw [h2] at q1
    omega)
  have S3 := hid FR3.out.size
  clear hO5 hD5 hK5 hF5 HFR HS4 HB4 R4 c1 hEn FR3
  have HF2 : Hid (∀ W6 : World, w5.setRow w3.heap.size (ctC c).toArray = W6 → SK W6.drew base { S with FC := F3, N := S.N + 1, a := S.a.get pg, D := { S.D with reads := S.D.reads + 1 }, nx := m, lb := (Value.slice c.sp c.n c.c).ownBlock.toList ++ S.lb } ∧ CtIs W6.drew base ((Value.slice c.sp c.n c.c).ownBlock.toList ++ S.lb) c (kd, zs) ∧ W6.drew.heap[w3.heap.size]? = some (.cells (ctC c).toArray 166 (0, 0)) ∧ Below base w W6.drew ∧ Fr S.fp w W6.drew) := hid (fun W6 e => by
    subst e
    obtain ⟨q1, q2, q3, q4⟩ := HFT.out
    have f5 := FR5.out
    exact ⟨q1.drew, q2.to (fun k q => q) (fun _ _ => rfl), q3, (HBf.out.trans q4).drew, ⟨f5.os, f5.tape, f5.output, by show w.heap.size ≤ (w5.setRow w3.heap.size (ctC c).toArray).heap.size; rw [size_setRow]; exact f5.size, fun k hk hn => (setRow_other w5 _ _ _ (by have := S3.out; omega)).trans (f5.block k hk hn)⟩⟩)
  have HNF : Hid (w3.heap.size ∉ F3) := hid (fun q => Nat.lt_irrefl _ (HS3.out.in_lt (k := w3.heap.size) (Or.inr (Or.inr (Or.inr (Or.inl q))))).2)
  have HE5 : Hid (w5.setRow w3.heap.size #[.int .i64 kd, .slice s5 zs.length c5] = w5.setRow w3.heap.size (ctC c).toArray) := hid (by rw [hc]; rfl)
  have hgn := get_none HV.out
  have HPC := hid (put_clean (c := c) hgn.1)
  have HGN := hid hgn.1
  have HUN : Hid (unpackF pg (({ S.D with reads := S.D.reads + 1 } : DS).readOf pg.toNat) = (kd, zs, 0)) := hid (by rw [HPG.out]; exact hu)
  have H2M : Hid (2 ≤ pg ∧ pg < S.s.ma) := hid (by rw [HPG.out, hm]; omega)
  have HNX := hid hnx
  have HN1 := hid (show S.N + 1 < 3000000000000000000 by omega)
  clear FR5 S3 HFT HS3 HBf HB3 hgn HV hu hm hnx hq hr hlv hN hm2 hkd hz h8 hc HB2
  generalize w3.heap.size = fb at *
  clear w3 w2
  go_wp2_with (first | (refine wpList_store_row (by rfl) 166 (.tmp 8) (.tmp 48) (by rfl) fb #[.int .i64 kd, .slice s5 zs.length c5] (by rfl) (by rfl) 166 _ R5.out (by obtain ⟨ic, hi1, hi2⟩ := size_content; rw [hi1]; show some ic.size = _; rw [hi2]; rfl) (by rfl) (by simp [Value.oneCell']) ?_; refine Hid.out ?_) | fail)
  refine hid ?_
  rw [HE5.out]
  generalize hW6 : w5.setRow fb (ctC c).toArray = W6 at *
  obtain ⟨k1, k2, k3, k4, k5⟩ := HF2.out W6 rfl
  have R6 : Hid (W6.drew.rangeAt fb 0 (ctC c)) := hid (by
    intro j v hv
    rw [cell_of_row _ _ _ _ _ _ k3]
    simpa using hv)
  have K6 : Hid (W6.drew.cell? ⟨S.st, 2, none⟩ = some (.pointer (some ⟨S.pc, 0, none⟩))) := hid k1.c2
  have HPU : Hid (Calls Tryz.prog 159 #[.pointer (some ⟨S.pc, 0, none⟩), .int .i64 pg, .agg (ctC c).toArray] W6.drew fun x w' => x = .returned (.tuple #[]) ∧ Ca.Nx base F3 S.pc (S.N + 1) W6.drew ((S.a.get pg).put pg c) w') := hid (Ca.Put_new W6.drew base F3 S.pc (S.N + 1) (S.a.get pg) k1.ca pg c HWK.out HN1.out HGN.out)
  have HKP : Hid (∀ w7, Ca.Nx base F3 S.pc (S.N + 1) W6.drew ((S.a.get pg).put pg c) w7 → w7.rangeAt fb 0 (ctC c) ∧ w7.cell? ⟨S.st, 2, none⟩ = some (.pointer (some ⟨S.pc, 0, none⟩))) := hid (fun w7 ⟨F7, hC, hF, hG⟩ => by
    have e1 : w7.heap[S.st]? = W6.drew.heap[S.st]? := hF.block S.st k1.lt_st k1.st_apart.2.2.1
    have e2 : w7.heap[fb]? = W6.drew.heap[fb]? := hF.block fb (hlt_ k3) HNF.out
    exact ⟨fun j v hv => (World.cell?_of_block (a := ⟨fb, 0 + j, none⟩) e2).trans (R6.out j v hv), (World.cell?_of_block (a := ⟨S.st, 2, none⟩) e1).trans K6.out⟩)
  have HKQ : Hid (∀ w7, Ca.Nx base F3 S.pc (S.N + 1) W6.drew ((S.a.get pg).put pg c) w7 → ∃ S7, SK w7 base S7 ∧ (Sam { S with D := { S.D with reads := S.D.reads + 1 } } S7 ∧ S7.N = S.N + 2 ∧ S7.vs = S.vs ∧ S7.cts = S.cts) ∧ CtIs w7 base S7.lb c (kd, zs) ∧ (Below base w w7 ∧ Fr S.fp w w7 ∧ Gr w S.fp S7.fp)) := hid (fun w7 ⟨F7, hC, hF, hG⟩ => by
    refine ⟨_, k1.put hC ⟨hF.os, hF.tape, hF.output, hF.size, hF.block⟩ hG c (kd, zs) pg k2 H2M.out HUN.out HPC.out.1 HPC.out.2, ⟨⟨rfl, rfl, rfl, rfl, rfl, rfl, HNX.out.symm, rfl⟩, rfl, rfl, rfl⟩, k2.to (fun k q => q) fun k z => hF.block k (k1.in_lt (Or.inr (Or.inr (Or.inr (Or.inr (Or.inr z)))))).2 (fun y => k1.a3 k y z), ?_⟩
    have g3 : Gr w S.fp F3 := fun k q => (GR3.out k q).imp (fun z => (Sto.mem S k).2 (by simp [z])) id
    refine ⟨k4.trans (Below.mk hF.os hF.tape hF.output hF.size (fun k hk => hF.block k (by have := k1.base; omega) (fun y => by have := (k1.ca.lt k y).1; omega))), k5.trans ⟨hF.os, hF.tape, hF.output, hF.size, hF.block⟩ g3, fun k q => ?_⟩
    rcases (Sto.mem _ k).1 q with e | e | e | e | e | e
    · exact Or.inl ((Sto.mem S k).2 (Or.inl e))
    · exact Or.inl ((Sto.mem S k).2 (Or.inr (Or.inl e)))
    · exact Or.inl ((Sto.mem S k).2 (Or.inr (Or.inr (Or.inl e))))
    · rcases hG k e with z | z
      · exact g3 k z
      · exact Or.inr (Nat.le_trans k5.size z)
    · rcases List.mem_append.1 e with z | z
      · exact Or.inr (OB5.out k (by simpa using z))
      · exact Or.inl ((Sto.mem S k).2 (Or.inr (Or.inr (Or.inr (Or.inr (Or.inl z))))))
    · exact Or.inl ((Sto.mem S k).2 (Or.inr (Or.inr (Or.inr (Or.inr (Or.inr e)))))))
  clear k1 k2 k3 k4 k5 GR3 OB5 HF2 hW6 HE5 R5 HUN H2M HNX HN1 HPC HGN HNF HWK
  go_wp2_with fail
  refine wp_region_noPanic ?_
  refine wp_region_held_drew (S := fun w' => w'.rangeAt fb 0 (ctC c) ∧ w'.cell? ⟨S.st, 2, none⟩ = some (.pointer (some ⟨S.pc, 0, none⟩))) (by kernel_rfl) ⟨R6.out, K6.out⟩ (fun hHeld => ?_)
  refine wpAnyH_take (i := 0) (oi := { dst := some 49, op := Op.move (Operand.tmp 0), type := 92, pos := "store.go:84", after := #[], guard := none }) (v := .pointer (some ⟨S.st, 0, none⟩)) rfl (by kernel_rfl) (by kernel_rfl) (by kernel_rfl) (fun _ _ _ h => h) (Or.inl ⟨by rfl, by intro w hS; go_simp⟩) hHeld ?_
  try simp only [Act.put, List.setIfInBounds_toArray, List.set_cons_zero, List.set_cons_succ]
  refine wpAnyH_take (i := 4) (oi := { dst := some 53, op := Op.move (Operand.tmp 1), type := 3, pos := "store.go:84", after := #[], guard := none }) (v := .int .i64 pg) rfl (by kernel_rfl) (by kernel_rfl) (by kernel_rfl) (fun _ _ _ h => h) (Or.inl ⟨by rfl, by intro w hS; go_simp⟩) hHeld ?_
  try simp only [Act.put, List.setIfInBounds_toArray, List.set_cons_zero, List.set_cons_succ]
  refine wpAnyH_take (i := 5) (oi := { dst := some 54, op := Op.load 166 (Operand.tmp 8), type := 166, pos := "store.go:84", after := #[], guard := none }) (v := .agg (ctC c).toArray) rfl (by kernel_rfl) (by kernel_rfl) (by kernel_rfl) (fun _ _ _ h => h) (yieldsIf_load_mid (by rfl) 166 _ rfl fb (0) rfl (ctC c) _ (fun w hS => hS.1) Tryz.underlying166 rfl (by kernel_rfl)) hHeld ?_
  try simp only [Act.put, List.setIfInBounds_toArray, List.set_cons_zero, List.set_cons_succ]
  refine wpAnyH_take (i := 1) (oi := { dst := some 50, op := Op.nilCheck (Operand.tmp 49), type := 0, pos := "store.go:84", after := #[{ on := 0, ground := Ground.data }], guard := none }) (v := .pointer (some ⟨S.st, 0, none⟩)) rfl (by kernel_rfl) (by kernel_rfl) (by kernel_rfl) (fun _ _ _ h => h) (Or.inl ⟨by rfl, by intro w hS; go_simp⟩) hHeld ?_
  try simp only [Act.put, List.setIfInBounds_toArray, List.set_cons_zero, List.set_cons_succ]
  refine wpAnyH_take (i := 2) (oi := { dst := some 51, op := Op.fieldAddr 131 (Operand.tmp 50) 2, type := 0, pos := "store.go:84", after := #[{ on := 1, ground := Ground.data }], guard := none }) (v := .pointer (some ⟨S.st, 2, none⟩)) rfl (by kernel_rfl) (by kernel_rfl) (by kernel_rfl) (fun _ _ _ h => h) (Or.inl ⟨by rfl, by intro w hS; go_simp⟩) hHeld ?_
  try simp only [Act.put, List.setIfInBounds_toArray, List.set_cons_zero, List.set_cons_succ]
  refine wpAnyH_take (i := 3) (oi := { dst := some 52, op := Op.load 128 (Operand.tmp 51), type := 128, pos := "store.go:84", after := #[{ on := 2, ground := Ground.data }], guard := none }) (v := .pointer (some ⟨S.pc, 0, none⟩)) rfl (by kernel_rfl) (by kernel_rfl) (by kernel_rfl) (fun _ _ _ h => h) (Or.inl ⟨by rfl, by intro w hS; have hc := hS.2; go_simp⟩) hHeld ?_
  try simp only [Act.put, List.setIfInBounds_toArray, List.set_cons_zero, List.set_cons_succ]
  refine wpAnyH_ready (rs := [6]) (by kernel_rfl) (by simp) ?_
  refine (AllReadyH.cons (o := { dst := some 55, op := Op.call { callee := Callee.value (Operand.func 159), args := #[Operand.tmp 52, Operand.tmp 53, Operand.tmp 54], argTypes := #[128, 3, 166] }, type := 0, pos := "store.go:84", after := #[{ on := 3, ground := Ground.data }, { on := 4, ground := Ground.data }, { on := 5, ground := Ground.data }], guard := none }) rfl (fun K hK => ?_) AllReadyH.nil)
  go_simp
  go_at_call 159
  refine (HPU.out).mono ?_
  rintro e w7 ⟨rfl, hX7⟩
  go_wp2_with fail
  refine hK.out _ _ (HKP.out w7 hX7) (fun hHeld2 => ?_)
  clear hK K hHeld
  have hHeld := hHeld2
  clear hHeld2
  try simp only [Act.put, List.setIfInBounds_toArray, List.set_cons_zero, List.set_cons_succ]
  refine wpAnyH_done (by kernel_rfl) ?_ _
  refine NoPanic.normal ?_
  clear hHeld
  obtain ⟨S7, hS7, hR7, hQ7, hB7⟩ := HKQ.out w7 hX7
  have rr := (HKP.out w7 hX7).1
  have n0 : w7.cell? ⟨fb, 0, none⟩ = some (.int .i64 c.kd) := rr 0 _ rfl
  have n1 : w7.cell? ⟨fb, 1, none⟩ = some (.slice c.sp c.n c.c) := rr 1 _ rfl
  have hNl : fb < w7.heap.size := World.block_lt_of_cell? w7 _ n0
  have HS7 := hid hS7
  have HR7 := hid hR7
  have HQ7 := hid hQ7
  have HBZ := hid hB7
  have HB7s := hid (Nat.le_trans HBW.out (hB7.1.size))
  have HWs := hid (show w.heap.size ≤ w7.heap.size from hB7.1.size)
  have HKD := hid (show c.kd = kd from hQ7.kd)
  have HCP : Hid (∀ w', Below w7.heap.size w7 w' → Calls Tryz.prog 160 #[.slice c.sp c.n c.c] w' fun e w8 => ∃ v, e = .returned v ∧ Own w8 w'.heap.size v zs ∧ Below w'.heap.size w' w8) := hid (fun w' q => by
    have hq := HQ7.out.to (w1 := w') (fun k q => q) fun k z => q.block k (HS7.out.in_lt (Or.inr (Or.inr (Or.inr (Or.inr (Or.inr z)))))).2
    obtain ⟨sp, cap, e, hS, hn⟩ := hq.ow.form
    have hle := hq.le
    obtain ⟨e1, e2, e3⟩ := Value.slice.inj e
    subst e1
    subst e3
    rw [e2]
    exact copied_any w' zs c.sp c.c hS hn (by show zs.length ≤ 1000; have : zs.length ≤ 246 := hle; omega))
  clear hS7 hB7 hR7 hQ7 rr HKP HKQ HPU hX7
  go_wp2_with fail
  refine wp_region_noPanic ?_
  refine wp_region_held_drew (S := fun w' => Below w7.heap.size w7 w') (by kernel_rfl) (Below.refl _ _).drew (fun hHeld => ?_)
  refine wpAnyH_take (i := 0) (oi := { dst := some 56, op := Op.fieldAddr 166 (Operand.tmp 8) 0, type := 0, pos := "store.go:86", after := #[], guard := none }) (v := .pointer (some ⟨fb, 0, none⟩)) rfl (by kernel_rfl) (by kernel_rfl) (by kernel_rfl) (fun _ _ _ h => h) (Or.inl ⟨by rfl, by intro w hS; go_simp⟩) hHeld ?_
  try simp only [Act.put, List.setIfInBounds_toArray, List.set_cons_zero, List.set_cons_succ]
  refine wpAnyH_take (i := 2) (oi := { dst := some 58, op := Op.fieldAddr 166 (Operand.tmp 8) 1, type := 0, pos := "store.go:86", after := #[], guard := none }) (v := .pointer (some ⟨fb, 1, none⟩)) rfl (by kernel_rfl) (by kernel_rfl) (by kernel_rfl) (fun _ _ _ h => h) (Or.inl ⟨by rfl, by intro w hS; go_simp⟩) hHeld ?_
  try simp only [Act.put, List.setIfInBounds_toArray, List.set_cons_zero, List.set_cons_succ]
  refine wpAnyH_take (i := 1) (oi := { dst := some 57, op := Op.load 3 (Operand.tmp 56), type := 3, pos := "store.go:86", after := #[{ on := 0, ground := Ground.data }], guard := none }) (v := .int .i64 c.kd) rfl (by kernel_rfl) (by kernel_rfl) (by kernel_rfl) (fun _ _ _ h => h) (Or.inl ⟨by rfl, by intro w hS; have hc := (hS.cell (p := ⟨fb, 0, none⟩) hNl).trans n0; go_simp⟩) hHeld ?_
  try simp only [Act.put, List.setIfInBounds_toArray, List.set_cons_zero, List.set_cons_succ]
  refine wpAnyH_take (i := 3) (oi := { dst := some 59, op := Op.load 45 (Operand.tmp 58), type := 45, pos := "store.go:86", after := #[{ on := 2, ground := Ground.data }], guard := none }) (v := .slice c.sp c.n c.c) rfl (by kernel_rfl) (by kernel_rfl) (by kernel_rfl) (fun _ _ _ h => h) (Or.inl ⟨by rfl, by intro w hS; have hc := (hS.cell (p := ⟨fb, 1, none⟩) hNl).trans n1; go_simp⟩) hHeld ?_
  try simp only [Act.put, List.setIfInBounds_toArray, List.set_cons_zero, List.set_cons_succ]
  refine wpAnyH_ready (rs := [4]) (by kernel_rfl) (by simp) ?_
  refine (AllReadyH.cons (o := { dst := some 60, op := Op.call { callee := Callee.value (Operand.func 160), args := #[Operand.tmp 59], argTypes := #[45] }, type := 45, pos := "store.go:86", after := #[{ on := 3, ground := Ground.data }], guard := none }) rfl (fun K hK => ?_) AllReadyH.nil)
  go_simp
  go_at_call 160
  refine (HCP.out _ hHeld).mono ?_
  rintro e w8 ⟨v8, rfl, hO8, hb8⟩
  obtain ⟨s8, c8, hv8, _, _⟩ := hO8.form
  subst hv8
  have HO8 := hid hO8
  have HBw := hid hHeld
  clear hO8
  go_wp2_with fail
  refine hK.out _ _ (hHeld.trans (hb8.mono hHeld.size)) (fun hHeld2 => ?_)
  clear hK K hHeld
  have hHeld := hHeld2
  clear hHeld2
  clear hb8
  try simp only [Act.put, List.setIfInBounds_toArray, List.set_cons_zero, List.set_cons_succ]
  refine wpAnyH_take (i := 5) (oi := { dst := some 4, op := Op.assign (Operand.tmp 57), type := 3, pos := "store.go:86", after := #[{ on := 1, ground := Ground.data }, { on := 4, ground := Ground.chain }, { on := 0, ground := Ground.phase }, { on := 1, ground := Ground.phase }, { on := 2, ground := Ground.textOnly Departure.lateStores }, { on := 3, ground := Ground.textOnly Departure.lateStores }, { on := 4, ground := Ground.textOnly Departure.lateStoresUnsure }], guard := none }) (v := .int .i64 c.kd) rfl (by kernel_rfl) (by kernel_rfl) (by kernel_rfl) (fun _ _ _ h => h) (Or.inl ⟨by rfl, by intro w hS; go_simp⟩) hHeld ?_
  try simp only [Act.put, List.setIfInBounds_toArray, List.set_cons_zero, List.set_cons_succ]
  refine wpAnyH_take (i := 6) (oi := { dst := some 5, op := Op.assign (Operand.tmp 60), type := 45, pos := "store.go:86", after := #[{ on := 4, ground := Ground.data }, { on := 5, ground := Ground.chain }, { on := 0, ground := Ground.phase }, { on := 1, ground := Ground.phase }, { on := 2, ground := Ground.phase }, { on := 3, ground := Ground.phase }, { on := 4, ground := Ground.phase }, { on := 5, ground := Ground.phase }], guard := none }) (v := .slice s8 zs.length c8) rfl (by kernel_rfl) (by kernel_rfl) (by kernel_rfl) (fun _ _ _ h => h) (Or.inl ⟨by rfl, by intro w hS; go_simp⟩) hHeld ?_
  try simp only [Act.put, List.setIfInBounds_toArray, List.set_cons_zero, List.set_cons_succ]
  refine wpAnyH_take (i := 7) (oi := { dst := some 6, op := Op.assign (Operand.const (Value.int IntKind.i64 0)), type := 30, pos := "store.go:86", after := #[{ on := 6, ground := Ground.chain }, { on := 0, ground := Ground.phase }, { on := 1, ground := Ground.phase }, { on := 2, ground := Ground.phase }, { on := 3, ground := Ground.phase }, { on := 4, ground := Ground.phase }, { on := 5, ground := Ground.phase }, { on := 6, ground := Ground.phase }], guard := none }) (v := .int IntKind.i64 0) rfl (by kernel_rfl) (by kernel_rfl) (by kernel_rfl) (fun _ _ _ h => h) (Or.inl ⟨by rfl, by intro w hS; go_simp⟩) hHeld ?_
  try simp only [Act.put, List.setIfInBounds_toArray, List.set_cons_zero, List.set_cons_succ]
  refine wpAnyH_done (by kernel_rfl) ?_ _
  refine NoPanic.normal ?_
  have HB9 := hid hHeld
  clear hHeld
  go_wp2
  go_ret3
  exact ⟨S7, .slice s8 zs.length c8, by rw [HKD.out]; rfl, HO8.out.base (Nat.le_trans HWs.out HBw.out.size), ⟨HS7.out.below HB9.out, HR7.out⟩, HBZ.out.1.trans (HB9.out.mono HB7s.out), HBZ.out.2.1.trans (Fr.of_below HB9.out) HBZ.out.2.2, HBZ.out.2.2⟩
end Go.Proofs.YtjpcegjgandnjaaGreatDoor
namespace Go.Proofs.YtjpcegjgandnjaaGreatDoor
set_option linter.unusedVariables false
set_option linter.unusedSimpArgs false
open Go.RowKit
open Go.Proofs.YtjpcegjgandnjaaGreatDoor.Ca (Ct ct0 ctC argV AS)
attribute [local go_sem ↓] Go.wp_at_zero Go.wp_at_succ

end Go.Proofs.YtjpcegjgandnjaaGreatDoor
namespace Go.Proofs.YtjpcegjgandnjaaGreatDoor
set_option linter.unusedVariables false
set_option linter.unusedSimpArgs false
open Go.RowKit
open Go.Proofs.YtjpcegjgandnjaaGreatDoor.Ca (Ct ct0 ctC argV AS)
attribute [local go_sem ↓] Go.wp_at_zero Go.wp_at_succ

end Go.Proofs.YtjpcegjgandnjaaGreatDoor
namespace Go.Proofs.YtjpcegjgandnjaaGreatDoor
set_option linter.unusedVariables false
set_option linter.unusedSimpArgs false
open Go.RowKit
open Go.Proofs.YtjpcegjgandnjaaGreatDoor.Ca (Ct ct0 ctC argV AS)
attribute [local go_sem ↓] Go.wp_at_zero Go.wp_at_succ

/-- The same store behind at most k reads. -/
structure Rd (k : Nat) (S S' : Sto) : Prop where
  p : S'.p = S.p
  g : S'.g = S.g
  st : S'.st = S.st
  pc : S'.pc = S.pc
  s : S'.s = S.s
  nx : S'.nx = S.nx
  ep : S'.ep = S.ep
  vs : S'.vs = S.vs
  cts : S'.cts = S.cts
  D : S'.D = { S.D with reads := S'.D.reads }
  rd : S.D.reads ≤ S'.D.reads ∧ S'.D.reads ≤ S.D.reads + k
  N : S'.N ≤ S.N + 2 * k
theorem Rd.refl (S : Sto) : Rd 0 S S := ⟨rfl, rfl, rfl, rfl, rfl, rfl, rfl, rfl, rfl, rfl, ⟨by omega, by omega⟩, by omega⟩
theorem Rd.trans {k l : Nat} {S S' S'' : Sto} (h : Rd k S S') (q : Rd l S' S'') : Rd (k + l) S S'' :=
  ⟨q.p.trans h.p, q.g.trans h.g, q.st.trans h.st, q.pc.trans h.pc, q.s.trans h.s, q.nx.trans h.nx, q.ep.trans h.ep, q.vs.trans h.vs, q.cts.trans h.cts, by rw [q.D, h.D], ⟨by have := h.rd; have := q.rd; omega, by have := h.rd; have := q.rd; push_cast; omega⟩, by have := h.N; have := q.N; omega⟩
theorem Rd.live {k : Nat} {S S' : Sto} (h : Rd k S S') : liveF S'.D S'.ep = liveF S.D S.ep := by rw [h.D, h.ep]; rfl
/-- What a store knows of a page. -/
def Kn (S : Sto) (q : Nat) (v : Int × List Int) : Prop :=
  (2 ≤ q ∧ (q : Int) < S.s.ma ∧ q < S.D.np ∧ unpackF q (S.D.readOf q) = (v.1, v.2, 0) ∧ (1 ≤ v.1 ∧ v.1 ≤ 3) ∧ v.2.length ≤ 246 ∧ Byts v.2) ∨ (∃ j : Nat, j < S.cts.length ∧ (q : Int) = S.s.ma + j ∧ S.vs.getD j (0, []) = v)
theorem Kn.rd {k : Nat} {S S' : Sto} {q : Nat} {v : Int × List Int} (h : Kn S q v) (r : Rd k S S') : Kn S' q v := by
  unfold Kn
  rw [r.D, r.s, r.cts, r.vs]
  exact h
theorem findL_memC {l : List (Int × Ct)} {k : Int} {c : Ct} (h : Ca.findL l k = some c) : (k, c) ∈ l := by
  unfold Ca.findL at h
  obtain ⟨x, h1, h2⟩ := Option.map_eq_some_iff.1 h
  have := List.mem_of_find?_eq_some h1
  have e := List.find?_some h1
  have e2 : x.1 = k := by simpa using e
  rw [← e2, ← h2]; exact this
set_option maxHeartbeats 1000000 in
theorem oLoad_kn (w : World) (base : Nat) (S : Sto) (h : SK w base S) (hlv : liveF S.D S.ep = 0) (hl : S.cts.length ≤ 100000) (m : Nat) (hm : S.s.ma = m) (hnx : S.nx = m) (hm2 : 2 ≤ m ∧ m ≤ 100000) (hN : S.N < 2500000000000000000) (hr : S.D.reads < 3000000000000000000) (q : Nat) (v : Int × List Int) (hk : Kn S q v) :
    Calls Tryz.prog 125 #[.pointer (some ⟨S.st, 0, none⟩), .int .i64 q] w fun e w' => ∃ S' u, e = .returned (.tuple #[.int .i64 v.1, u, .int .i64 0]) ∧ Own w' w.heap.size u v.2 ∧ (SK w' base S' ∧ Rd 1 S S') ∧ Below base w w' ∧ Fr S.fp w w' ∧ Gr w S.fp S'.fp := by
  have hbw := h.base
  have HIT : ∀ c, 2 ≤ (q : Int) ∧ (q : Int) < S.s.ma + S.cts.length → S.a.val (q : Int) = some c → CtIs w base S.lb c v → Calls Tryz.prog 125 #[.pointer (some ⟨S.st, 0, none⟩), .int .i64 q] w fun e w' => ∃ S' u, e = .returned (.tuple #[.int .i64 v.1, u, .int .i64 0]) ∧ Own w' w.heap.size u v.2 ∧ (SK w' base S' ∧ Rd 1 S S') ∧ Below base w w' ∧ Fr S.fp w w' ∧ Gr w S.fp S'.fp := fun c hq hv hc => by
    refine (oLoad_hit w base S h hlv hl ⟨by omega, by omega⟩ (by omega) q hq c hv v.1 v.2 hc).mono fun e w' ⟨FC, u, he, hO, hK, hF, hG⟩ => ⟨_, u, he, hO, ⟨hK, ⟨rfl, rfl, rfl, rfl, rfl, rfl, rfl, rfl, rfl, rfl, ⟨Int.le_refl _, ?_⟩, ?_⟩⟩, ?_, ?_, ?_⟩
    · show S.D.reads ≤ S.D.reads + 1; omega
    · show S.N + 1 ≤ S.N + 2 * 1; omega
    · exact hF.below (fun k hk => (h.in_lt (by simp [hk])).1) hbw
    · exact ⟨hF.os, hF.tape, hF.output, hF.size, fun k hk hn => hF.block k hk (fun z => hn ((Sto.mem S k).2 (by simp [z])))⟩
    · intro k q
      rcases (Sto.mem _ k).1 q with e | e | e | e | e | e
      · exact Or.inl ((Sto.mem S k).2 (Or.inl e))
      · exact Or.inl ((Sto.mem S k).2 (Or.inr (Or.inl e)))
      · exact Or.inl ((Sto.mem S k).2 (Or.inr (Or.inr (Or.inl e))))
      · rcases hG k e with z | z
        · exact Or.inl ((Sto.mem S k).2 (Or.inr (Or.inr (Or.inr (Or.inl z)))))
        · exact Or.inr z
      · exact Or.inl ((Sto.mem S k).2 (Or.inr (Or.inr (Or.inr (Or.inr (Or.inl e))))))
      · exact Or.inl ((Sto.mem S k).2 (Or.inr (Or.inr (Or.inr (Or.inr (Or.inr e))))))
  rcases hk with ⟨h1, h2, h3, h4, h5, h6, h7⟩ | ⟨j, hj, e, hv⟩
  · by_cases hn : S.a.val (q : Int) = none
    · refine (oLoad_miss w base S h hlv hl m hm hnx hm2 hN q ⟨h1, by omega, h3⟩ hn hr v.1 v.2 h4 h5 h6 h7).mono fun e w' ⟨S', u, he, hO, ⟨hK, hS, k1, k2, k3⟩, hB⟩ => ⟨S', u, he, hO, ⟨hK, ⟨hS.p, hS.g, hS.st, hS.pc, hS.s, hS.nx, hS.ep, k2, k3, ?_, ⟨?_, ?_⟩, ?_⟩⟩, hB⟩
      · rw [show S'.D = _ from hS.D]
      · rw [show S'.D = _ from hS.D]; show S.D.reads ≤ S.D.reads + 1; omega
      · rw [show S'.D = _ from hS.D]; show S.D.reads + 1 ≤ S.D.reads + ((1 : Nat) : Int); omega
      · rw [k1]; omega
    · obtain ⟨c, hc⟩ := Option.ne_none_iff_exists'.1 hn
      refine HIT c ⟨by omega, by omega⟩ hc ?_
      unfold Ca.AS.val at hc
      rw [h.hd, heldL_no _ _ _ (Or.inl h2)] at hc
      have hc2 : Ca.findL S.a.clean (q : Int) = some c := by simpa using hc
      obtain ⟨v', c1, c2, c3, c4⟩ := h.ck _ (findL_memC hc2)
      have e4 : (v'.1, v'.2, (0 : Int)) = (v.1, v.2, 0) := c4.symm.trans (by show unpackF (q : Int) (S.D.readOf ((q : Int)).toNat) = _; rw [Int.toNat_natCast]; exact h4)
      obtain ⟨e5, e6⟩ := Prod.mk.inj e4
      obtain ⟨e7, _⟩ := Prod.mk.inj e6
      have : v' = v := Prod.ext e5 e7
      exact this ▸ c1
  · have hval := h.held_key j hj
    rw [← e] at hval
    exact HIT _ ⟨by omega, by omega⟩ hval (hv ▸ h.cv j hj)
end Go.Proofs.YtjpcegjgandnjaaGreatDoor
