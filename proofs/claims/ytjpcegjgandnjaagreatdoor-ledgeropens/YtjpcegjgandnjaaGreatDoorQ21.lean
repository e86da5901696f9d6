import Derived.Test.YtjpcegjgandnjaaGreatDoorQ19
import Derived.Test.YtjpcegjgandnjaaGreatDoorQ13
import Derived.Test.YtjpcegjgandnjaaGreatDoorQ20
import Derived.Deep.DeepCutAuto
import Derived.Test.YtjpcegjgandnjaaGreatDoorQ01
import Derived.Lib.AppendZeros
namespace Go.Proofs.YtjpcegjgandnjaaGreatDoor
set_option linter.unusedVariables false
set_option linter.unusedSimpArgs false
open Go.RowKit
open Go.Proofs.YtjpcegjgandnjaaGreatDoor.Ca (Ct ct0 ctC argV AS)
attribute [local go_sem ↓] Go.wp_at_zero Go.wp_at_succ

theorem resC3 {P : Program} {fn : Func} {p q r : Tmp} {ty : TypeId} (h : fn.results = #[.cell p ty, .tmp q, .tmp r]) (tmps : Array Value) (w : World) (g : Nat) (t : TypeId) (cs : Array Value) (fr : Nat × Nat) (d : TypeDesc)
    (hp : tmps.getD p undef = .pointer (some ⟨g, 0, none⟩)) (hg : w.heap[g]? = some (.cells cs t fr))
    (hu : P.underlying ty = some d) (hd : (match d with | .struct _ | .array _ _ => true | _ => false) = true) (hi : (P.info? ty).map (·.size) = some cs.size) :
    (results fn tmps).run P w = .ok (.tuple #[.agg cs, tmps.getD q undef, tmps.getD r undef]) w := by
  have hp' : tmps[p]?.getD undef = .pointer (some ⟨g, 0, none⟩) := by simpa using hp
  simp [results, h, hp', asAddr, run_loadVar_row w g t ty cs fr d hg hu hd hi]
theorem resT3 {fn : Func} {t u v : Tmp} (h : fn.results = #[.tmp t, .tmp u, .tmp v]) (tmps : Array Value) (P : Program) (w : World) :
    (results fn tmps).run P w = .ok (.tuple #[tmps.getD t undef, tmps.getD u undef, tmps.getD v undef]) w := by
  simp [results, h]
/-- How a call that answers a number and touches nothing older is known. -/
def Tel (f : FuncId) (av : Array Value) (w : World) (c : Int) : Prop := ∀ w1, Below w.heap.size w w1 → Calls Tryz.prog f av w1 fun e w2 => e = .returned (.int .i64 c) ∧ Below w1.heap.size w1 w2
theorem Tel.later {f : FuncId} {av : Array Value} {w w1 : World} {c : Int} (h : Tel f av w c) (hb : Below w.heap.size w w1) : Tel f av w1 c := fun w2 h2 => h w2 (hb.trans (h2.mono hb.size))
set_option maxRecDepth 100000 in
set_option maxHeartbeats 2000000 in
theorem pageOrNone_any (w : World) (st : Nat) (nx q : Int) (NX : Tel 128 #[.pointer (some ⟨st, 0, none⟩)] w nx) :
    Calls Tryz.prog 124 #[.pointer (some ⟨st, 0, none⟩), .int .i64 q] w fun e w' => e = .returned (.bool (decide (q = 0 ∨ (2 ≤ q ∧ q < nx)))) ∧ Below w.heap.size w w' := by
  have HN := hid (NX w (Below.refl _ _))
  clear NX
  by_cases h0 : q = 0
  · subst h0
    rw [decide_eq_true (Or.inl rfl)]
    clear HN
    go_enter Tryz.func124, Tryz.ntmps124
    go_wp2
    go_ret
    exact ⟨rfl, Below.refl _ _⟩
  · have e0 : (q == 0) = false := by simpa using h0
    by_cases h1 : 2 ≤ q
    · have e1 : decide (q = 0 ∨ (2 ≤ q ∧ q < nx)) = decide (q < nx) := by simp [h0, h1]
      rw [e1]
      clear e1 h0
      go_enter Tryz.func124, Tryz.ntmps124
      go_wp2_with fail
      refine HN.out.mono ?_
      rintro e w1 ⟨rfl, hb⟩
      go_wp2
      go_ret
      exact ⟨rfl, hb⟩
    · have e1 : decide (q = 0 ∨ (2 ≤ q ∧ q < nx)) = false := by simp [h0, h1]
      rw [e1]
      clear e1 h0 HN
      go_enter Tryz.func124, Tryz.ntmps124
      go_wp2
      go_ret
      exact ⟨rfl, Below.refl _ _⟩
set_option maxRecDepth 100000 in
set_option maxHeartbeats 2000000 in
theorem ready_live (w : World) (st : Nat) (nx q : Int) (LV : Tel 28 #[.pointer (some ⟨st, 0, none⟩)] w 0) (NX : Tel 128 #[.pointer (some ⟨st, 0, none⟩)] w nx) : Tel 90 #[.pointer (some ⟨st, 0, none⟩), .int .i64 q] w (if q = 0 ∨ (2 ≤ q ∧ q < nx) then 0 else 41) := fun w1 hb1 => by
  have HL := hid (LV w1 hb1)
  have HP := hid (fun w2 (hb : Below w1.heap.size w1 w2) => pageOrNone_any w2 st nx q ((NX.later hb1).later hb))
  clear LV NX hb1
  by_cases h : q = 0 ∨ (2 ≤ q ∧ q < nx)
  · rw [if_pos h]
    rw [decide_eq_true h] at HP
    clear h
    go_enter Tryz.func90, Tryz.ntmps90
    go_wp2_with fail
    refine HL.out.mono ?_
    rintro e w2 ⟨rfl, hb2⟩
    have HB2 := hid hb2
    clear hb2
    go_wp2_with fail
    refine (HP.out w2 HB2.out).mono ?_
    rintro e w3 ⟨rfl, hb3⟩
    go_wp2
    go_ret
    exact ⟨rfl, HB2.out.trans (hb3.mono HB2.out.size)⟩
  · rw [if_neg h]
    rw [decide_eq_false h] at HP
    clear h
    go_enter Tryz.func90, Tryz.ntmps90
    go_wp2_with fail
    refine HL.out.mono ?_
    rintro e w2 ⟨rfl, hb2⟩
    have HB2 := hid hb2
    clear hb2
    go_wp2_with fail
    refine (HP.out w2 HB2.out).mono ?_
    rintro e w3 ⟨rfl, hb3⟩
    go_wp2
    go_ret
    exact ⟨rfl, HB2.out.trans (hb3.mono HB2.out.size)⟩
theorem SK.fpIn {w : World} {base : Nat} {S : Sto} (h : SK w base S) {k : Nat} (hk : k ∈ S.fp) : base ≤ k ∧ k < w.heap.size := h.in_lt (by rcases (Sto.mem S k).1 hk with e | e | e | e | e | e <;> simp [e])
/-- What a call leaves of a store. -/
structure Stp (w : World) (S : Sto) (w' : World) (S' : Sto) : Prop where
  fr : Fr S.fp w w'
  gr : Gr w S.fp S'.fp
  st : S'.st = S.st
  p : S'.p = S.p
  g : S'.g = S.g
  s : S'.s = S.s
  ep : S'.ep = S.ep
  D : S'.D = { S.D with reads := S'.D.reads }
theorem Stp.refl (w : World) (S : Sto) : Stp w S w S := ⟨Fr.refl _ _, Gr.refl _ _, rfl, rfl, rfl, rfl, rfl, rfl⟩
theorem Stp.trans {w w1 w2 : World} {S S1 S2 : Sto} (h : Stp w S w1 S1) (k : Stp w1 S1 w2 S2) : Stp w S w2 S2 :=
  ⟨h.fr.trans k.fr h.gr, h.gr.trans k.gr h.fr.size, k.st.trans h.st, k.p.trans h.p, k.g.trans h.g, k.s.trans h.s, k.ep.trans h.ep, by rw [k.D, h.D]⟩
theorem Stp.call {w w1 w2 : World} {S S1 : Sto} (h : Stp w S w1 S1) (hb : Below w1.heap.size w1 w2) : Stp w S w2 S1 := h.trans ⟨Fr.of_below hb, Gr.refl _ _, rfl, rfl, rfl, rfl, rfl, rfl⟩
theorem Stp.below {w w1 : World} {base : Nat} {S S1 : Sto} (h : Stp w S w1 S1) (hk : SK w base S) : Below base w w1 := h.fr.below (fun k q => (hk.fpIn q).1) hk.base
/-- A live store whose pages from 2 on are P: on the disk below the mark, staged above it. -/
structure Ls (w : World) (base : Nat) (S : Sto) (P : List (Int × List Int)) (b : Nat) : Prop where
  sk : SK w base S
  lv : liveF S.D S.ep = 0
  ma : ∃ m : Nat, S.s.ma = m ∧ S.nx = m ∧ 2 ≤ m ∧ m + S.cts.length = 2 + P.length
  kn : ∀ i, i < P.length → Kn S (2 + i) (P.getD i (0, []))
  np : 2 + P.length ≤ S.D.np ∧ S.D.np ≤ 4096
  N : S.N ≤ 2 * b
  rd : S.D.reads ≤ 1000 + b
theorem Ls.keep {w w1 : World} {base : Nat} {S : Sto} {P : List (Int × List Int)} {b : Nat} (h : Ls w base S P b) (hk : ∀ k ∈ S.fp, w1.heap[k]? = w.heap[k]?) (hs : w.heap.size ≤ w1.heap.size) : Ls w1 base S P b :=
  ⟨h.sk.of_heap (fun k q => hk k ((Sto.mem S k).2 (by rcases q with e | e | e | e | e | e <;> simp [e]))) hs, h.lv, h.ma, h.kn, h.np, h.N, h.rd⟩
theorem Ls.below {w w1 : World} {base : Nat} {S : Sto} {P : List (Int × List Int)} {b : Nat} (h : Ls w base S P b) (hb : Below w.heap.size w w1) : Ls w1 base S P b := h.keep (fun k q => hb.block k (h.sk.fpIn q).2) hb.size
theorem Ls.more {w : World} {base : Nat} {S : Sto} {P : List (Int × List Int)} {b : Nat} (h : Ls w base S P b) (c : Nat) (hc : b ≤ c) : Ls w base S P c := ⟨h.sk, h.lv, h.ma, h.kn, h.np, by have := h.N; omega, by have := h.rd; omega⟩
theorem Ls.live {w : World} {base : Nat} {S : Sto} {P : List (Int × List Int)} {b : Nat} (h : Ls w base S P b) : Tel 28 #[.pointer (some ⟨S.st, 0, none⟩)] w 0 := fun w1 hb => by
  have := oLive_any w1 base S (h.sk.below hb)
  rw [h.lv] at this; exact this
theorem Ls.next {w : World} {base : Nat} {S : Sto} {P : List (Int × List Int)} {b : Nat} (h : Ls w base S P b) : Tel 128 #[.pointer (some ⟨S.st, 0, none⟩)] w (2 + P.length : Nat) := fun w1 hb => by
  have hl := h.np
  obtain ⟨m, m1, m2, m3, m4⟩ := h.ma
  have := oNext_any w1 base S (h.sk.below hb) (by omega) (by rw [m1]; omega)
  rw [m1, show (m : Int) + (S.cts.length : Int) = ((2 + P.length : Nat) : Int) by omega] at this; exact this
theorem Ls.page {w : World} {base : Nat} {S : Sto} {P : List (Int × List Int)} {b : Nat} (h : Ls w base S P b) (i : Nat) (hi : i < P.length) : (1 ≤ (P.getD i (0, [])).1 ∧ (P.getD i (0, [])).1 ≤ 3) ∧ (P.getD i (0, [])).2.length ≤ 246 ∧ Byts (P.getD i (0, [])).2 := by
  rcases h.kn i hi with ⟨_, _, _, _, h5, h6, h7⟩ | ⟨j, hj, e, hv⟩
  · exact ⟨h5, h6, h7⟩
  · have c := h.sk.cv j hj
    rw [hv] at c
    exact ⟨c.kk, c.le, c.by8⟩
theorem Ls.load {w : World} {base : Nat} {S : Sto} {P : List (Int × List Int)} {b : Nat} (h : Ls w base S P b) (hb : b ≤ 1000000000000000000) (i : Nat) (hi : i < P.length) (q : Int) (hq : q = (2 + i : Nat)) :
    Calls Tryz.prog 125 #[.pointer (some ⟨S.st, 0, none⟩), .int .i64 q] w fun e w' => ∃ S' u, e = .returned (.tuple #[.int .i64 (P.getD i (0, [])).1, u, .int .i64 0]) ∧ Own w' w.heap.size u (P.getD i (0, [])).2 ∧ Ls w' base S' P (b + 1) ∧ Stp w S w' S' := by
  have hl := h.np
  have hN := h.N
  have hR := h.rd
  obtain ⟨m, m1, m2, m3, m4⟩ := h.ma
  subst hq
  refine (oLoad_kn w base S h.sk h.lv (by omega) m m1 m2 ⟨m3, by omega⟩ (by omega) (by omega) (2 + i) _ (h.kn i hi)).mono fun e w' ⟨S', u, he, hO, ⟨hK, r⟩, _, hF, hG⟩ => ⟨S', u, he, hO, ⟨hK, by rw [r.live]; exact h.lv, ?_, fun j hj => (h.kn j hj).rd r, ?_, ?_, ?_⟩, ⟨hF, hG, r.st, r.p, r.g, r.s, r.ep, r.D⟩⟩
  · exact ⟨m, by rw [r.s]; exact m1, by rw [r.nx]; exact m2, m3, by rw [r.cts]; exact m4⟩
  · rw [r.D]; exact h.np
  · have := r.N; omega
  · have := r.rd; push_cast; omega
theorem Ls.ready {w : World} {base : Nat} {S : Sto} {P : List (Int × List Int)} {b : Nat} (h : Ls w base S P b) (q : Int) (hq : q = 0 ∨ (2 ≤ q ∧ q < (2 + P.length : Nat))) : Tel 90 #[.pointer (some ⟨S.st, 0, none⟩), .int .i64 q] w 0 := by
  have := ready_live w S.st _ q h.live h.next
  rw [if_pos hq] at this; exact this
/-- The store beside rows of the caller's own, made since w0. -/
structure Lc (w0 : World) (base : Nat) (S0 : Sto) (P : List (Int × List Int)) (b : Nat) (w : World) (S : Sto) (L : List (Nat × List Value × Nat)) : Prop where
  ls : Ls w base S P b
  sp : Stp w0 S0 w S
  rows : ∀ x ∈ L, w.heap[x.1]? = some (.cells x.2.1.toArray x.2.2 (0, 0)) ∧ w0.heap.size ≤ x.1 ∧ x.1 ∉ S.fp
section
variable {w0 w w1 : World} {base b : Nat} {S0 S : Sto} {P : List (Int × List Int)} {L : List (Nat × List Value × Nat)}
theorem Lc.start (h : Ls w base S P b) : Lc w base S P b w S [] := ⟨h, Stp.refl _ _, fun x q => by cases q⟩
theorem Lc.row (h : Lc w0 base S0 P b w S L) {k t : Nat} {C : List Value} (hm : (k, C, t) ∈ L) : w.heap[k]? = some (.cells C.toArray t (0, 0)) := (h.rows _ hm).1
theorem Lc.cell (h : Lc w0 base S0 P b w S L) {k t : Nat} {C : List Value} (hm : (k, C, t) ∈ L) {j : Nat} {v : Value} (hv : C[j]? = some v) : w.cell? ⟨k, j, none⟩ = some v := by
  rw [cell_of_row _ _ _ _ _ _ (h.row hm)]; simpa using hv
theorem Lc.call (h : Lc w0 base S0 P b w S L) (hb : Below w.heap.size w w1) : Lc w0 base S0 P b w1 S L :=
  ⟨h.ls.below hb, h.sp.call hb, fun x q => ⟨(hb.block _ (hlt (h.rows x q).1)).trans (h.rows x q).1, (h.rows x q).2⟩⟩
theorem Lc.drew (h : Lc w0 base S0 P b w S L) : Lc w0 base S0 P b w.drew S L := h.call (Below.refl _ _).drew
theorem Lc.store {S1 : Sto} {P1 : List (Int × List Int)} {b1 : Nat} (h : Lc w0 base S0 P b w S L) (hl : Ls w1 base S1 P1 b1) (hs : Stp w S w1 S1) : Lc w0 base S0 P1 b1 w1 S1 L :=
  ⟨hl, h.sp.trans hs, fun x q => by
    obtain ⟨r1, r2, r3⟩ := h.rows x q
    exact ⟨(hs.fr.block _ (hlt r1) r3).trans r1, r2, fun e => (hs.gr _ e).elim r3 (fun z => by have := hlt r1; omega)⟩⟩
theorem Lc.alloc (h : Lc w0 base S0 P b w S L) (C : List Value) (t : Nat) : Lc w0 base S0 P b (w.alloc (.cells C.toArray t)) S ((w.heap.size, C, t) :: L) := by
  have hb := below_new w (.cells C.toArray t)
  have h1 := h.call hb
  refine ⟨h1.ls, h1.sp, fun x q => ?_⟩
  rcases List.mem_cons.1 q with rfl | q
  · exact ⟨hnew w _, h.sp.fr.size, fun e => by have := (h.ls.sk.fpIn e).2; exact Nat.lt_irrefl _ this⟩
  · exact h1.rows x q
theorem Lc.sub {L1 : List (Nat × List Value × Nat)} (h : Lc w0 base S0 P b w S L) (hs : ∀ x ∈ L1, x ∈ L) : Lc w0 base S0 P b w S L1 := ⟨h.ls, h.sp, fun x q => h.rows x (hs x q)⟩
theorem Lc.any (h : Lc w0 base S0 P b w S L) {k t : Nat} {C : List Value} (hm : (k, C, t) ∈ L) (hne : ∀ i, i ≠ k → w1.heap[i]? = w.heap[i]?) (D : List Value) (hk : w1.heap[k]? = some (.cells D.toArray t (0, 0))) (hos : w1.os = w.os ∧ w1.tape = w.tape ∧ w1.output = w.output) (hsz : w1.heap.size = w.heap.size) (L1 : List (Nat × List Value × Nat)) (hL : ∀ x ∈ L1, x ∈ L ∧ x.1 ≠ k) : Lc w0 base S0 P b w1 S ((k, D, t) :: L1) := by
  obtain ⟨r1, r2, r3⟩ := h.rows _ hm
  have ne : ∀ i ∈ S.fp, i ≠ k := fun i q e => r3 (e ▸ q)
  refine ⟨h.ls.keep (fun i q => hne i (ne i q)) (by omega), ?_, fun x q => ?_⟩
  · refine ⟨⟨hos.1.trans h.sp.fr.os, hos.2.1.trans h.sp.fr.tape, hos.2.2.trans h.sp.fr.output, by have := h.sp.fr.size; omega, fun i hi hn => ?_⟩, h.sp.gr, h.sp.st, h.sp.p, h.sp.g, h.sp.s, h.sp.ep, h.sp.D⟩
    have r2' : w0.heap.size ≤ k := r2
    exact (hne i (by omega)).trans (h.sp.fr.block i hi hn)
  · rcases List.mem_cons.1 q with rfl | q
    · exact ⟨hk, r2, r3⟩
    · obtain ⟨q1, q2⟩ := hL x q
      exact ⟨(hne _ q2).trans (h.rows x q1).1, (h.rows x q1).2⟩
theorem Lc.set (h : Lc w0 base S0 P b w S L) {k t : Nat} {C : List Value} (hm : (k, C, t) ∈ L) (D : List Value) (L1 : List (Nat × List Value × Nat)) (hL : ∀ x ∈ L1, x ∈ L ∧ x.1 ≠ k) : Lc w0 base S0 P b (w.setRow k D.toArray) S ((k, D, t) :: L1) :=
  h.any hm (fun i q => setRow_other w _ _ _ q) D (setRow_heap w _ _ _ _ _ (h.row hm)) ⟨rfl, rfl, rfl⟩ (by simp) L1 hL
theorem Lc.fz (h : Lc w0 base S0 P b w S L) {k t : Nat} {C : List Value} (hm : (k, C, t) ∈ L) (j : Nat) : w.frozen? ⟨k, j, none⟩ = false := frozen_of_row _ _ _ _ _ (h.row hm)
theorem Lc.lt (h : Lc w0 base S0 P b w S L) {k t : Nat} {C : List Value} (hm : (k, C, t) ∈ L) : k < w.heap.size := hlt (h.row hm)
end
end Go.Proofs.YtjpcegjgandnjaaGreatDoor
namespace Go.Proofs.YtjpcegjgandnjaaGreatDoor
set_option linter.unusedVariables false
set_option linter.unusedSimpArgs false
open Go.RowKit
open Go.Proofs.YtjpcegjgandnjaaGreatDoor.Ca (Ct ct0 ctC argV AS)
attribute [local go_sem ↓] Go.wp_at_zero Go.wp_at_succ

def spC (q : Int) (r : Rc) : List Value := .int .i64 q :: rcC r
theorem spC_one (q : Int) (r : Rc) : ∀ y ∈ spC q r, y.oneCell' = true := fun y hy => by
  rcases List.mem_cons.1 hy with e | e
  · rw [e]; rfl
  · exact rcC_one _ y e
theorem built_sp0 : Tryz.prog.built 186 [] = some (spC 0 rc0).toArray := by kernel_rfl
theorem allocSp (a : Act) (o : Oper) (w : World) (ho : o.op = .alloc 186) : (execOp a.eval o).run Tryz.prog w = .ok (.value (.pointer (some ⟨w.heap.size, 0, none⟩))) (w.alloc (.cells (spC 0 rc0).toArray 186)) := by
  unfold execOp
  rw [ho]
  kernel_rfl
theorem wpList_allocSp {w : World} {ops : Array Oper} {rest : List Oper} {o : Oper} {a : Act} {Q : Exit → Act → World → Prop} (hg : o.guard = none) (ho : o.op = .alloc 186)
    (h : wpList Tryz.prog ops Q rest (a.put o.dst (.pointer (some ⟨w.heap.size, 0, none⟩))) (w.alloc (.cells (spC 0 rc0).toArray 186))) : wpList Tryz.prog ops Q (o :: rest) a w := by
  refine wpList_plain hg fun K hK => ?_
  unfold Oper.wp
  rw [allocSp a o w ho]
  exact hK _ _ h
theorem wpList_allocRc {w : World} {ops : Array Oper} {rest : List Oper} {o : Oper} {a : Act} {Q : Exit → Act → World → Prop} (hg : o.guard = none) (ho : o.op = .alloc 94)
    (h : wpList Tryz.prog ops Q rest (a.put o.dst (.pointer (some ⟨w.heap.size, 0, none⟩))) (w.alloc (.cells (rcC rc0).toArray 94))) : wpList Tryz.prog ops Q (o :: rest) a w := by
  refine wpList_plain hg fun K hK => ?_
  unfold Oper.wp
  rw [allocRc a o w ho]
  exact hK _ _ h
/-- Where a spot leads on the way to a wanted number. -/
def linkP (r : Rc) (t : Int) : Int × Int := if t ≤ far (numR r.v r.f) then (r.s, far (numR r.v r.f)) else (r.p, numR r.v r.f - 1)
end Go.Proofs.YtjpcegjgandnjaaGreatDoor
namespace Go.Proofs.YtjpcegjgandnjaaGreatDoor
set_option linter.unusedVariables false
set_option linter.unusedSimpArgs false
open Go.RowKit
open Go.Proofs.YtjpcegjgandnjaaGreatDoor.Ca (Ct ct0 ctC argV AS)
attribute [local go_sem ↓] Go.wp_at_zero Go.wp_at_succ

/-- The record that stands at a page. -/
def lookP (P : List (Int × List Int)) (q : Int) : Option Rc :=
  if (P.getD (q - 2).toNat (0, [])).1 = 3 then (match decR (P.getD (q - 2).toNat (0, [])).2 with
    | some r => if r.p < q ∧ r.s < q ∧ r.r < q then some r else none
    | none => none) else none
theorem lookP_some {P : List (Int × List Int)} {q : Int} {r : Rc} (h : lookP P q = some r) : RightR r ∧ RcOk r ∧ r.p < q ∧ r.s < q ∧ r.r < q := by
  unfold lookP at h
  split at h
  · split at h
    · rename_i x hx
      split at h
      · rename_i hc; cases h; obtain ⟨a, b, _, _⟩ := decR_right hx; exact ⟨a, b, hc⟩
      · cases h
    · cases h
  · cases h
/-- What a look tells. -/
def LookP (w : World) (base : Nat) (S : Sto) (P : List (Int × List Int)) (b : Nat) (Z : List Value) (c : Int) (e : Ending) (w' : World) : Prop := ∃ S', e = .returned (.tuple #[.agg Z.toArray, .int .i64 c]) ∧ Ls w' base S' P (b + 1) ∧ Stp w S w' S'
set_option maxRecDepth 100000 in
set_option maxHeartbeats 2000000 in
theorem look_no (w : World) (base : Nat) (S : Sto) (P : List (Int × List Int)) (b : Nat) (h : Ls w base S P b) (hb : b ≤ 1000000000000000000) (q : Int) (i : Nat) (hi : i < P.length) (hq : q = (2 + i : Nat)) (kd : Int) (zs : List Int) (hv : P.getD i (0, []) = (kd, zs)) (hk : kd = 3) (hd : decR zs = none) :
    Calls Tryz.prog 92 #[.pointer (some ⟨S.st, 0, none⟩), .int .i64 q] w (LookP w base S P b (spC 0 rc0) 4) := by
  have hpg := (h.page i hi).2
  have L1 := (Lc.start h).alloc (spC 0 rc0) 186
  have LD := hid (L1.ls.load hb i hi q hq)
  rw [hv] at LD hpg
  have HL1 := hid L1
  have HW := hid (show 0 < 1 from Nat.one_pos)
  have BS := hid built_sp0
  have hN := hid (show (Tryz.prog.info? 186).map (·.size) = some (spC 0 rc0).toArray.size by kernel_rfl)
  have hO := hid (all_oneCell_toArray (spC_one 0 rc0))
  have AL := hid (fun (w : World) (ops : Array Oper) (rest : List Oper) (o : Oper) (a : Act) (Q : Exit → Act → World → Prop) => @wpList_allocSp w ops rest o a Q)
  have HP := hid hpg
  obtain ⟨CR, hCR⟩ : ∃ CR, rcC rc0 = CR := ⟨_, rfl⟩
  have ARc := hid (show ∀ (a : Act) (o : Oper) (w : World), o.op = .alloc 94 → (execOp a.eval o).run Tryz.prog w = .ok (.value (.pointer (some ⟨w.heap.size, 0, none⟩))) (w.alloc (.cells CR.toArray 94)) from fun a o w ho => by rw [← hCR]; exact allocRc a o w ho)
  have LRc0 := hid (show CR.length = 38 by rw [← hCR]; exact rcC_len rc0_ok)
  have EV := hid (show rcC (decRV zs) = CR by rw [← hCR]; unfold decRV; rw [hd]; rfl)
  obtain ⟨c, hc⟩ : ∃ c : Int, c = 150 := ⟨_, rfl⟩
  have EE := hid (show decRE zs = c by rw [hc]; unfold decRE; rw [hd]; rfl)
  have hc1 : (c != 0) = true := by rw [hc]; rfl
  have LRc := LRc0
  have ORc := hid (show ∀ y ∈ CR, y.oneCell' = true by rw [← hCR]; exact rcC_one rc0)
  subst hk
  clear hd hCR hc
  generalize hC : spC 0 rc0 = C at *
  have HC := hid hC
  clear h hpg L1 hC hv hq
  go_enter Tryz.func92, Tryz.ntmps92
  go_wp2_with (first | refine AL.out _ _ _ _ _ _ rfl rfl ?_)
  refine LD.out.mono ?_
  rintro e w2 ⟨S2, v2, rfl, hO2, hL2, hS2⟩
  obtain ⟨s2, c2, rfl, hs2, hn2⟩ := hO2.form
  have HL2 := hid (HL1.out.store hL2 hS2)
  have HSR := hid hs2
  clear hO2 hL2 hS2 hn2 hs2 LD HL1
  have KD := hid (idecode_any w2 zs (by exact HP.out.2) s2 c2 HSR.out)
  go_wp2_with fail
  refine KD.out.mono ?_
  rintro e w3 ⟨rfl, hb3⟩
  have HL3 := hid (HL2.out.call hb3)
  clear hb3 KD HL2 HSR
  rw [EV.out, EE.out]
  go_wp2_with (first
    | (refine wpList_new ARc.out LRc0.out Tryz.sizeRc rfl rfl rfl _ _ rfl rfl CR rfl rfl LRc.out ORc.out ?_; refine Hid.out ?_))
  refine hid ?_
  have HL4 := hid (HL3.out.alloc CR 94)
  have hg4 : w.heap.size ≠ w3.heap.size := Nat.ne_of_lt (HL3.out.lt List.mem_cons_self)
  have HL9 := hid (HL4.out.sub (L1 := [(w.heap.size, C, 186)]) (fun x q => by simp at q; simp [q]))
  clear HL3 HL4
  go_upto_region 6 with fail
  have r9 := HL9.out.row List.mem_cons_self
  go_wp2_with (first
    | refine wpList_built (by rfl) 186 _ rfl _ rfl _ BS.out ?_
    | refine wpList_store_row (by rfl) 186 (.tmp 4) (.tmp 42) (by rfl) w.heap.size C.toArray (by rfl) (by rfl) 186 C.toArray (by exact r9) hN.out rfl hO.out ?_)
  have L5 := HL9.out.set List.mem_cons_self C [] (fun x q => by cases q)
  refine bodyPost_ret (v := .tuple #[.agg C.toArray, .int .i64 4]) (results_c2 Tryz.results92 _ _ w.heap.size 186 _ _ _ rfl (L5.row List.mem_cons_self) Tryz.underlying186 rfl hN.out) rfl ⟨_, rfl, L5.ls, L5.sp⟩
end Go.Proofs.YtjpcegjgandnjaaGreatDoor
namespace Go.Proofs.YtjpcegjgandnjaaGreatDoor
set_option linter.unusedVariables false
set_option linter.unusedSimpArgs false
open Go.RowKit
open Go.Proofs.YtjpcegjgandnjaaGreatDoor.Ca (Ct ct0 ctC argV AS)
attribute [local go_sem ↓] Go.wp_at_zero Go.wp_at_succ

/-- A record that stands at the page q. -/
structure Stands (P : List (Int × List Int)) (q : Int) (r : Rc) : Prop where
  lo : 2 ≤ q
  hi : q < (2 + P.length : Nat)
  lk : lookP P q = some r
theorem Stands.ok {P : List (Int × List Int)} {q : Int} {r : Rc} (h : Stands P q r) : RcOk r := (lookP_some h.lk).2.1
theorem Stands.link {P : List (Int × List Int)} {q : Int} {r : Rc} (h : Stands P q r) {t : Int} (h1 : 1 ≤ t) (h2 : t < numR r.v r.f) : 2 ≤ (linkP r t).1 ∧ (linkP r t).1 < q ∧ t ≤ (linkP r t).2 ∧ (linkP r t).2 < numR r.v r.f := by
  obtain ⟨hr, _, hp, hs, _⟩ := lookP_some h.lk
  have hb := numR_bd hr.1
  have hf := far_bd (numR r.v r.f) hb.1 hb.2
  obtain ⟨_, _, _, hl⟩ := hr
  have hp2 : 2 ≤ r.p := by
    rcases hl with ⟨e, _, _⟩ | ⟨_, p, _⟩
    · omega
    · exact p.1
  unfold linkP
  by_cases c : t ≤ far (numR r.v r.f)
  · rw [if_pos c]
    refine ⟨?_, hs, c, by omega⟩
    rcases hl with ⟨e, _, _⟩ | ⟨_, p, (⟨z, _⟩ | ⟨_, (⟨_, e⟩ | ⟨_, e, _⟩)⟩)⟩
    · omega
    · omega
    · show 2 ≤ r.s; omega
    · exact e
  · rw [if_neg c]
    exact ⟨hp2, hp, by omega, by show numR r.v r.f - 1 < numR r.v r.f; omega⟩
end Go.Proofs.YtjpcegjgandnjaaGreatDoor
namespace Go.Proofs.YtjpcegjgandnjaaGreatDoor
set_option linter.unusedVariables false
set_option linter.unusedSimpArgs false
set_option linter.unnecessarySimpa false
open Go.RowKit
open Go.Proofs.YtjpcegjgandnjaaGreatDoor.Ca (Ct ct0 ctC argV AS)
attribute [local go_sem ↓] Go.wp_at_zero Go.wp_at_succ

end Go.Proofs.YtjpcegjgandnjaaGreatDoor
namespace Go.Proofs.YtjpcegjgandnjaaGreatDoor
set_option linter.unusedVariables false
set_option linter.unusedSimpArgs false
set_option linter.unnecessarySimpa false
open Go.RowKit
open Go.Proofs.YtjpcegjgandnjaaGreatDoor.Ca (Ct ct0 ctC argV AS)
attribute [local go_sem ↓] Go.wp_at_zero Go.wp_at_succ

/-- A round of the loop: its own blocks are written. -/
theorem Lc.round {w0 w w1 : World} {base b : Nat} {S0 S : Sto} {P : List (Int × List Int)} {L : List (Nat × List Value × Nat)} (h : Lc w0 base S0 P b w S L) {B : List Nat} (f : Fr B w w1) (hB : ∀ k ∈ B, w0.heap.size ≤ k ∧ k ∉ S.fp) (hL : ∀ x ∈ L, x.1 ∉ B) : Lc w0 base S0 P b w1 S L :=
  ⟨h.ls.keep (fun k q => f.block k (h.ls.sk.fpIn q).2 (fun z => (hB k z).2 q)) f.size,
   ⟨⟨f.os.trans h.sp.fr.os, f.tape.trans h.sp.fr.tape, f.output.trans h.sp.fr.output, Nat.le_trans h.sp.fr.size f.size, fun i hi hn => (f.block i (Nat.lt_of_lt_of_le hi h.sp.fr.size) (fun z => by have := (hB i z).1; omega)).trans (h.sp.fr.block i hi hn)⟩, h.sp.gr, h.sp.st, h.sp.p, h.sp.g, h.sp.s, h.sp.ep, h.sp.D⟩,
   fun x q => ⟨(f.block _ (hlt (h.rows x q).1) (hL x q)).trans (h.rows x q).1, (h.rows x q).2⟩⟩
end Go.Proofs.YtjpcegjgandnjaaGreatDoor
namespace Go.Proofs.YtjpcegjgandnjaaGreatDoor
set_option linter.unusedVariables false
set_option linter.unusedSimpArgs false
open Go.RowKit
open Go.Proofs.YtjpcegjgandnjaaGreatDoor.Ca (Ct ct0 ctC argV AS)
attribute [local go_sem ↓] Go.wp_at_zero Go.wp_at_succ
attribute [local go_sem] Oper.semAt_some

/-- A cell of the caller's own is written. -/
theorem Lc.own {w0 w : World} {base b : Nat} {S0 S : Sto} {P : List (Int × List Int)} (h : Lc w0 base S0 P b w S []) {k : Nat} (hk : w0.heap.size ≤ k ∧ k ∉ S.fp) (j : Nat) (v : Value) : Lc w0 base S0 P b (w.setCell ⟨k, j, none⟩ v) S [] :=
  h.round ((Fr.refl [k] w).setCell (by simp) j v) (fun i hi => by simp at hi; rw [hi]; exact hk) (fun x q => by cases q)
theorem Lc.put {w0 w : World} {base b : Nat} {S0 S : Sto} {P : List (Int × List Int)} (h : Lc w0 base S0 P b w S []) {k : Nat} (hk : w0.heap.size ≤ k ∧ k ∉ S.fp) (o : Obj) : Lc w0 base S0 P b (w.putObj k o) S [] :=
  h.round (fr_put k w o) (fun i hi => by simp at hi; rw [hi]; exact hk) (fun x q => by cases q)
end Go.Proofs.YtjpcegjgandnjaaGreatDoor
namespace Go.Proofs.YtjpcegjgandnjaaGreatDoor
set_option linter.unusedVariables false
set_option linter.unusedSimpArgs false
open Go.RowKit
open Go.Proofs.YtjpcegjgandnjaaGreatDoor.Ca (Ct ct0 ctC argV AS)
attribute [local go_sem ↓] Go.wp_at_zero Go.wp_at_succ

end Go.Proofs.YtjpcegjgandnjaaGreatDoor
namespace Go.Proofs.YtjpcegjgandnjaaGreatDoor
set_option linter.unusedVariables false
set_option linter.unusedSimpArgs false
open Go.RowKit
open Go.Proofs.YtjpcegjgandnjaaGreatDoor.Ca (Ct ct0 ctC argV AS)
attribute [local go_sem ↓] Go.wp_at_zero Go.wp_at_succ

end Go.Proofs.YtjpcegjgandnjaaGreatDoor
namespace Go.Proofs.YtjpcegjgandnjaaGreatDoor
set_option linter.unusedVariables false
set_option linter.unusedSimpArgs false
open Go.RowKit
open Go.Proofs.YtjpcegjgandnjaaGreatDoor.Ca (Ct ct0 ctC argV AS)
attribute [local go_sem ↓] Go.wp_at_zero Go.wp_at_succ

/-- What a disk holds: s under o, and the pages L. -/
structure Hs (D : DS) (n : Nat) (s o : Sup) (L : List (Int × List Int)) : Prop where
  ok : DsOk D
  np : D.np = n
  ops : D.ops = []
  pw : D.power = true
  gd : Good s o (pgO D.img 0) (pgO D.img 1)
  ma : s.ma = (2 + L.length : Nat)
  pg : s.pg = n
  pgs : ∀ j, j < L.length → pgO D.img (2 + j) = pageP (L.getD j (0, [])).1 ((2 + j : Nat) : Int) (L.getD j (0, [])).2
  lv : ∀ v ∈ L, (1 ≤ v.1 ∧ v.1 ≤ 3) ∧ v.2.length ≤ 246 ∧ Byts v.2
  le : 2 + L.length ≤ n
theorem Hs.n4 {D : DS} {n : Nat} {s o : Sup} {L : List (Int × List Int)} (h : Hs D n s o L) : 3 ≤ n ∧ n ≤ 4096 := by
  obtain ⟨h3, h4, _, _⟩ := h.ok.np
  rw [h.np] at h3 h4
  exact ⟨h3, h4⟩
theorem Hs.chs {D : DS} {n : Nat} {s o : Sup} {L : List (Int × List Int)} (h : Hs D n s o L) : chooseF (D.readOf 0) (D.readOf 1) = (s, 0) := h.gd.chooses h.ops
theorem mem_getD {L : List (Int × List Int)} {j : Nat} (hj : j < L.length) : L.getD j (0, []) ∈ L := by
  rw [List.getD_eq_getElem?_getD, List.getElem?_eq_getElem hj]; exact List.getElem_mem hj
theorem Hs.kn {S : Sto} {n : Nat} {o : Sup} {L : List (Int × List Int)} (h : Hs S.D n S.s o L) (j : Nat) (hj : j < L.length) : Kn S (2 + j) (L.getD j (0, [])) := by
  have h4 := h.n4
  have hle := h.le
  obtain ⟨v1, v2, v3⟩ := h.lv _ (mem_getD hj)
  refine Or.inl ⟨by omega, by rw [h.ma]; push_cast; omega, by rw [h.np]; omega, ?_, v1, v2, v3⟩
  rw [readOf_nil h.ops, h.pgs j hj, unpack_page _ _ _ _ ((kindOk_iff _).2 v1) ((placeOk_iff _).2 ⟨by omega, by omega⟩) v2 v3, if_pos rfl]
theorem Hs.reads {D D' : DS} {n : Nat} {s o : Sup} {L : List (Int × List Int)} (h : Hs D n s o L) (hok : DsOk D') (h1 : D'.img = D.img) (h2 : D'.ops = D.ops) (h3 : D'.power = true) : Hs D' n s o L :=
  ⟨hok, (np_img (by rw [h1])).trans h.np, h2.trans h.ops, h3, by rw [h1]; exact h.gd, h.ma, h.pg, fun j hj => by rw [h1]; exact h.pgs j hj, h.lv, h.le⟩
/-- The superblock's own slot, and the other. -/
theorem Good.own {s o : Sup} {L0 L1 : List Int} (h : Good s o L0 L1) : ∃ Y : List Int, Y.length = 192 ∧ Byts Y ∧ (s.ge % 2 = 0 → L0 = secS s ++ Y) ∧ (s.ge % 2 = 1 → L1 = secS s ++ Y) := by
  obtain ⟨hv, ho, hf, Y, Z, hY, hZ, y8, z8, ⟨h1, h2, h3⟩ | ⟨h1, h2, h3⟩⟩ := h
  · exact ⟨Y, hY, y8, fun _ => h2, fun q => by omega⟩
  · exact ⟨Z, hZ, z8, fun q => by omega, fun _ => h3⟩
end Go.Proofs.YtjpcegjgandnjaaGreatDoor
namespace Go.Proofs.YtjpcegjgandnjaaGreatDoor
set_option linter.unusedVariables false
set_option linter.unusedSimpArgs false
open Go.RowKit
open Go.Proofs.YtjpcegjgandnjaaGreatDoor.Ca (Ct ct0 ctC argV AS)
attribute [local go_sem ↓] Go.wp_at_zero Go.wp_at_succ

end Go.Proofs.YtjpcegjgandnjaaGreatDoor
namespace Go.Proofs.YtjpcegjgandnjaaGreatDoor
set_option linter.unusedVariables false
set_option linter.unusedSimpArgs false
open Go.RowKit
open Go.Proofs.YtjpcegjgandnjaaGreatDoor.Ca (Ct ct0 ctC argV AS)
attribute [local go_sem ↓] Go.wp_at_zero Go.wp_at_succ

end Go.Proofs.YtjpcegjgandnjaaGreatDoor
namespace Go.Proofs.YtjpcegjgandnjaaGreatDoor
set_option linter.unusedVariables false
set_option linter.unusedSimpArgs false
open Go.RowKit
open Go.Proofs.YtjpcegjgandnjaaGreatDoor.Ca (Ct ct0 ctC argV AS)
attribute [local go_sem ↓] Go.wp_at_zero Go.wp_at_succ

/-- What stands behind a store that is live: the disk holds L, its superblock is the store's, o the one ahead of it. -/
structure Hk (S : Sto) (o : Sup) (L : List (Int × List Int)) (b : Nat) : Prop where
  hs : Hs S.D 4096 S.s o L
  ar : S.D.armed = 0
  wr : S.D.writes ≤ b
  sy : S.D.syncs ≤ b
  ge : S.s.ge ≤ b
  ep : S.D.epoch ≤ b
/-- What was staged over what the disk holds. -/
theorem Ls.split {w : World} {base : Nat} {S : Sto} {P : List (Int × List Int)} {b : Nat} (h : Ls w base S P b) {o : Sup} {L : List (Int × List Int)} {c : Nat} (k : Hk S o L c) : P = L ++ S.vs := by
  obtain ⟨m, m1, m2, m3, m4⟩ := h.ma
  have hm : m = 2 + L.length := by have := k.hs.ma; omega
  have hcv : S.vs.length = S.cts.length := h.sk.cl.symm
  apply List.ext_getElem?
  intro i
  by_cases hi : i < P.length
  · rw [List.getElem?_eq_getElem hi]
    have e0 : P.getD i (0, []) = P[i] := by rw [List.getD_eq_getElem?_getD, List.getElem?_eq_getElem hi]; rfl
    rw [← e0]
    by_cases hl : i < L.length
    · rw [List.getElem?_append_left hl, List.getElem?_eq_getElem hl]
      have e1 : L.getD i (0, []) = L[i] := by rw [List.getD_eq_getElem?_getD, List.getElem?_eq_getElem hl]; rfl
      rw [← e1]
      congr 1
      have k1 := h.kn i hi
      have k2 := k.hs.kn i hl
      rcases k1 with ⟨_, _, _, u1, _⟩ | ⟨j, _, e, _⟩
      · rcases k2 with ⟨_, _, _, u2, _⟩ | ⟨j, _, e, _⟩
        · have := u1.symm.trans u2
          obtain ⟨q1, q2⟩ := Prod.mk.inj this
          obtain ⟨q3, _⟩ := Prod.mk.inj q2
          exact Prod.ext q1 q3
        · rw [m1] at e; omega
      · rw [m1] at e; omega
    · rw [List.getElem?_append_right (by omega)]
      have hj : i - L.length < S.vs.length := by omega
      rw [List.getElem?_eq_getElem hj]
      have e1 : S.vs.getD (i - L.length) (0, []) = S.vs[i - L.length] := by rw [List.getD_eq_getElem?_getD, List.getElem?_eq_getElem hj]; rfl
      rw [← e1]
      congr 1
      rcases h.kn i hi with ⟨_, q, _⟩ | ⟨j, _, e, hv⟩
      · rw [m1] at q; omega
      · rw [m1] at e
        obtain rfl : j = i - L.length := by omega
        exact hv.symm
  · rw [List.getElem?_eq_none (by omega), List.getElem?_eq_none (by rw [List.length_append]; omega)]
end Go.Proofs.YtjpcegjgandnjaaGreatDoor
namespace Go.Proofs.YtjpcegjgandnjaaGreatDoor
set_option linter.unusedVariables false
set_option linter.unusedSimpArgs false
open Go.RowKit
attribute [local go_sem ↓] Go.wp_at_zero Go.wp_at_succ

theorem Tryz.und3 : Tryz.prog.underlying 3 = some (.int .i64) := by kernel_rfl
set_option maxRecDepth 100000 in
set_option maxHeartbeats 400000 in
/-- slices.Grow of nothing. -/
theorem grow_any (w : World) (n : Nat) (hn : n ≤ 140737488355328) :
    Calls Tryz.prog 123 #[.slice none 0 0, .int .i64 n] w fun e w' => ∃ v, e = .returned v ∧ Own w' w.heap.size v [] ∧ Below w.heap.size w w' := by
  have i0 : ¬ ((n : Int) < 0) := by omega
  by_cases hp : n = 0
  · subst hp
    rw [show ((0 : Nat) : Int) = 0 from rfl]
    go_enter Tryz.func123, Tryz.ntmps123
    go_wp2
    go_ret
    exact ⟨_, rfl, Own.nil _ _, Below.refl _ _⟩
  · obtain ⟨i5, hi5, hz5, hs5, hy5⟩ := Tryz.info5
    have i1 : (0 : Int) < n := by omega
    have i2 : (n : Int) ≤ 140737488355328 := by omega
    have hrz : ∀ ty, (Builtin.append_ #[45, 3] ty #[.slice none 0 0, .int .i64 n]).run Tryz.prog w =
      .ok (.slice (some ⟨w.heap.size, 0, none⟩) n (grownCap w n 0 5)) (w.drew.alloc (.cells (Builtin.zeroCells (Value.int .u8 0).cells n ++ Builtin.zeroCells (Value.int .u8 0).cells (grownCap w n 0 5 - n)) 5)) := fun ty =>
      Lib.run_append_nil_zeros w 45 3 ty 5 i5 (.int .u8 0) .i64 .i64 Tryz.underlying45 Tryz.und3 hi5 hz5 n (by omega) (by omega) (by omega) (by rw [hy5]; omega)
    have hG : n ≤ grownCap w n 0 5 := grownCap_ge w _ _ _
    have hG2 : grownCap w n 0 5 ≤ maxLen := grownCap_le_maxLen w n 0 5 (by unfold maxLen; omega)
    obtain ⟨G, hGe⟩ : ∃ G, G = grownCap w n 0 5 := ⟨_, rfl⟩
    rw [← hGe] at hrz hG hG2
    have hrow : (Builtin.zeroCells (Value.int .u8 0).cells n ++ Builtin.zeroCells (Value.int .u8 0).cells (G - n)).size = G := by
      simp [Builtin.zeroCells, Value.cells]
      omega
    have hO : Own (w.drew.alloc (.cells (Builtin.zeroCells (Value.int .u8 0).cells n ++ Builtin.zeroCells (Value.int .u8 0).cells (G - n)) 5)) w.heap.size (.slice (some ⟨w.heap.size, 0, none⟩) 0 G) [] :=
      ⟨rfl, Or.inr ⟨w.heap.size, G, _, rfl, Nat.le_refl _, hnew w.drew _, Nat.zero_le _, hG2, by rw [hrow, Nat.mul_one], by simp [ints]⟩⟩
    have hB : Below w.heap.size w (w.drew.alloc (.cells (Builtin.zeroCells (Value.int .u8 0).cells n ++ Builtin.zeroCells (Value.int .u8 0).cells (G - n)) 5)) := (Below.refl w.heap.size w).drew.alloc (Nat.le_refl _) _
    have i3 : (n : Int) ≤ (G : Int) := by omega
    have i4 : (G : Int) ≤ 9223372036854775807 := by unfold maxLen at hG2; omega
    clear hrow hG hG2 hGe hi5
    generalize w.drew.alloc (.cells (Builtin.zeroCells (Value.int .u8 0).cells n ++ Builtin.zeroCells (Value.int .u8 0).cells (G - n)) 5) = w1 at *
    have HO := hid hO
    have HB := hid hB
    clear hO hB
    go_enter Tryz.func123, Tryz.ntmps123
    go_wp2_with (at_builtin; refine Lib.wpList_append_run _ rfl _ _ _ _ rfl _ _ rfl rfl _ _ (hrz _) ?_)
    go_ret
    exact ⟨_, rfl, HO.out, HB.out⟩

/-- append(own, src...), src nil or not. -/
theorem wpList_append_most {w : World} {ops : Array Oper} {rest : List Oper} {o : Oper} {a : Act} {Q : Exit → Act → World → Prop} (hgd : o.guard = none) (s x : Operand)
    (ho : o.op = .call { callee := .builtin .append, args := #[s, x], argTypes := #[45, 45] })
    (base : Nat) (v : Value) (zs ys : List Int) (hs : a.eval s = v) (hown : Own w base v zs) (sp : Option Addr) (c : Nat) (hx : a.eval x = .slice sp ys.length c) (hnil : sp = none → c = 0) (hS : Src w sp c ys)
    (hlen : zs.length + ys.length ≤ 140737488355328) (hbase : base ≤ w.heap.size)
    (h : ∀ v' w', Own w' base v' (zs ++ ys) → w.grownBy w' v.ownBlock → (v'.ownBlock = v.ownBlock ∨ v'.ownBlock = some w.heap.size) → wpList Tryz.prog ops Q rest (a.put o.dst v') w') :
    wpList Tryz.prog ops Q (o :: rest) a w := by
  obtain ⟨i5, hi5, hz5, hs5, hy5⟩ := Tryz.info5
  cases sp with
  | none =>
    obtain rfl := hnil rfl
    obtain rfl : ys = [] := List.eq_nil_of_length_eq_zero (by have := hS.1; omega)
    refine wpList_append_own_none hgd s x 45 ho base 5 i5 1 Tryz.underlying45 hi5 v _ _ hs hown hx (h v w ?_ ⟨rfl, rfl, rfl, Nat.le_refl _, fun _ _ _ => rfl⟩ (Or.inl rfl))
    rw [List.append_nil]; exact hown
  | some ad =>
    refine wpList_append_own_at _ hgd s x 45 ho base 5 i5 (.int .u8 0) 1 1 Tryz.underlying45 hi5 hz5 hs5 hy5 rfl Nat.one_pos v zs.length (ints .u8 zs) hs hown ad ys.length c (ints .u8 ys) hx (by rw [ints_len]; omega) (src_news hS) (ints_one _ _) (by unfold maxLen; omega) (by omega) hbase ?_
    intro v' w' h1 h2 _ h4
    exact h v' w' (Own.mk_append h1) h2 h4

theorem flat_take (ps : List (List Int)) (k : Nat) (h : k < ps.length) : (ps.take (k + 1)).flatten = (ps.take k).flatten ++ ps.getD k [] := by
  rw [List.take_succ_eq_append_getElem h, List.flatten_append, List.getD_eq_getElem?_getD, List.getElem?_eq_getElem h]; simp
theorem flat_le (ps : List (List Int)) (k : Nat) : ((ps.take k).flatten).length ≤ ps.flatten.length := by
  rw [← List.take_append_drop k ps, List.flatten_append]; simp
set_option maxRecDepth 100000 in
set_option maxHeartbeats 1000000 in
/-- slices.Concat. -/
theorem concat_any (w : World) (ps : List (List Int)) (sp : Option Addr) (cap : Nat) (hS : Rws w sp ps) (hl : ps.length ≤ 1000) (hlen : ps.flatten.length ≤ 140737488355328) :
    Calls Tryz.prog 89 #[.slice sp ps.length cap] w fun e w' => ∃ v, e = .returned v ∧ Own w' w.heap.size v ps.flatten ∧ Below w.heap.size w w' := by
  have HS := hid hS
  have i0 : (ps.length : Int) ≤ 1000 := by omega
  have HL := hid hlen
  generalize hn : ps.length = n at *
  have HN := hid hn
  clear hn hlen hS
  go_enter Tryz.func89, Tryz.ntmps89
  go_wp2
  go_loopw [3, 11] (fun s i wr => w = wr ∧ ∃ k : Nat, k ≤ n ∧ i = .int .i64 k ∧ s = .int .i64 ((ps.take k).flatten).length) (fun _ i _ => n - (intOf i).toNat)
  case atStart => exact ⟨rfl, 0, by omega, rfl, by simp⟩
  case round =>
    obtain ⟨rfl, k, hk, rfl, rfl⟩ := hrel
    by_cases hlt : k < n
    · have i1 : (k : Int) < (n : Int) := by omega
      obtain ⟨b, o, sp', c, rfl, c0, hnil, hsr, hb⟩ := HS.out.piece (Below.refl _ _) k (by rw [HN.out]; exact hlt)
      have HT := hid (show ((ps.take (k + 1)).flatten).length = ((ps.take k).flatten).length + (ps.getD k []).length by rw [flat_take ps k (by rw [HN.out]; exact hlt), List.length_append])
      have h1 := flat_le ps (k + 1)
      have h2 := HL.out
      rw [HT.out] at h1
      generalize (ps.getD k []).length = y at *
      generalize ((ps.take k).flatten).length = x at *
      generalize ps.flatten.length = z at *
      have i2 : (x : Int) + (y : Int) ≤ 140737488355328 := by omega
      have i3 : ¬ ((x : Int) + (y : Int) < 0) := by omega
      clear h1 h2
      go_wp2
      go_roundw
      case rel => exact ⟨trivial, k + 1, by omega, by go_num, by rw [HT.out]; go_num⟩
      case measure => simp [intOf]; omega
    · obtain rfl : k = n := by omega
      rw [show (ps.take k).flatten = ps.flatten by rw [← HN.out, List.take_length]]
      clear hlt
      have hg := grow_any w ps.flatten.length (by have := HL.out; omega)
      generalize hz : ps.flatten.length = z at *
      have HZ := hid hz
      clear hz
      go_wp2_with fail
      refine hg.mono ?_
      rintro e w1 ⟨v, rfl, hO, hB⟩
      clear hg
      obtain ⟨spv, capv, rfl, -, -⟩ := hO.form
      go_wp2
      go_loopw [6, 27] (fun v i wr => ∃ j : Nat, j ≤ k ∧ i = .int .i64 j ∧ Own wr w.heap.size v (ps.take j).flatten ∧ Below w.heap.size w wr) (fun _ i _ => k - (intOf i).toNat)
      case atStart => exact ⟨0, by omega, rfl, hO, hB⟩
      case round =>
        clear hO hB
        obtain ⟨j, hj, rfl, hO, hB⟩ := hrel
        by_cases hlt : j < k
        · have i1 : (j : Int) < (k : Int) := by omega
          obtain ⟨b, o, sp', c, rfl, c0, hnil, hsr, hb⟩ := HS.out.piece hB j (by rw [HN.out]; exact hlt)
          have HT := hid (flat_take ps j (by rw [HN.out]; exact hlt))
          have h1 := flat_le ps (j + 1)
          rw [HT.out, List.length_append, HZ.out] at h1
          have h2 := HL.out
          have hsr2 := hsr.below hB (Nat.le_refl _)
          generalize (ps.take j).flatten = x at *
          generalize ps.getD j [] = y at *
          have KL := hid (show x.length + y.length ≤ 140737488355328 by omega)
          have HB := hid hB.size
          clear h1 h2
          obtain ⟨spv, capv, rfl, -, -⟩ := hO.form
          go_wp2_with (first | (at_builtin; refine wpList_append_most rfl (.tmp 31) (.tmp 32) rfl w.heap.size _ x y rfl hO sp' c rfl hnil hsr2 KL.out HB.out ?_; intro v2 w2 hO2 hg2 _))
          have hB2 : Below w.heap.size w w2 := hB.trans (grown_keeps hg2 (fun q hq => (hO.block q hq).1) hB.size)
          go_roundw
          case rel => exact ⟨j + 1, by omega, by go_num, by rw [HT.out]; exact hO2, hB2⟩
          case measure => simp [intOf]; omega
        · obtain rfl : j = k := by omega
          rw [show (ps.take j).flatten = ps.flatten by rw [← HN.out, List.take_length]] at hO
          clear hlt
          obtain ⟨spv, capv, rfl, -, -⟩ := hO.form
          go_wp2
          go_ret
          exact ⟨_, rfl, hO, hB⟩
end Go.Proofs.YtjpcegjgandnjaaGreatDoor
