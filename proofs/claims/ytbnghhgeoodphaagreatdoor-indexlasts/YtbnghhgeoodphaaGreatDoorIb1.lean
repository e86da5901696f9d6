import Derived.Test.YtbnghhgeoodphaaGreatDoorIa1
import Derived.Test.YtbnghhgeoodphaaGreatDoorSe
import Derived.Test.YtbnghhgeoodphaaGreatDoorG9
namespace Go.Proofs.YtbnghhgeoodphaaGreatDoor
set_option maxRecDepth 100000
set_option maxHeartbeats 40000000
set_option linter.unusedVariables false
set_option linter.unusedSimpArgs false
open Go.RowKit
open Go.Proofs.YtbnghhgeoodphaaGreatDoor.Ca (Ct ct0 ctC argV AS)
attribute [local go_sem ↓] Go.wp_at_zero Go.wp_at_succ
theorem resC3 {P : Program} {fn : Func} {p q r : Tmp} {ty : TypeId} (h : fn.results = #[.cell p ty, .tmp q, .tmp r]) (tmps : Array Value) (w : World) (g : Nat) (t : TypeId) (cs : Array Value) (fr : Nat × Nat) (d : TypeDesc)
   (hp : tmps.getD p undef = .pointer (some ⟨g, 0, none⟩)) (hg : w.heap[g]? = some (.cells cs t fr))
   (hu : P.underlying ty = some d) (hd : (match d with | .struct _ | .array _ _ => true | _ => false) = true) (hi : (P.info? ty).map (·.size) = some cs.size) :
   (results fn tmps).run P w = .ok (.tuple #[.agg cs, tmps.getD q undef, tmps.getD r undef]) w := by
 have hp' : tmps[p]?.getD undef = .pointer (some ⟨g, 0, none⟩) := by simpa using hp
 simp [results, h, hp', asAddr, run_loadVar_row w g t ty cs fr d hg hu hd hi]
def Tel (f : FuncId) (av : Array Value) (w : World) (c : Int) : Prop := ∀ w1, Below w.heap.size w w1 -> Calls Tryz.prog f av w1 fun e w2 => e = .returned (.int .i64 c) /\ Below w1.heap.size w1 w2
theorem Tel.later {f : FuncId} {av : Array Value} {w w1 : World} {c : Int} (h : Tel f av w c) (hb : Below w.heap.size w w1) : Tel f av w1 c := fun w2 h2 => h w2 (hb.trans (h2.mono hb.size))
theorem pageOrNone_any (w : World) (st : Nat) (nx q : Int) (NX : Tel 18 #[.pointer (some ⟨st, 0, none⟩)] w nx) :
   Calls Tryz.prog 41 #[.pointer (some ⟨st, 0, none⟩), .int .i64 q] w fun e w' => e = .returned (.bool (decide (q = 0 \/ (2 <= q /\ q < nx)))) /\ Below w.heap.size w w' := by
 have HN := hid (NX w (Below.refl _ _))
 clear NX
 by_cases h0 : q = 0
 · subst h0
   rw [decide_eq_true (Or.inl rfl)]
   clear HN
   go_enter Tryz.func41, Tryz.ntmps41
   go_wp2
   go_ret
   exact ⟨rfl, Below.refl _ _⟩
 · have e0 : (q == 0) = false := by simpa using h0
   by_cases h1 : 2 <= q
   · have e1 : decide (q = 0 \/ (2 <= q /\ q < nx)) = decide (q < nx) := by simp [h0, h1]
     rw [e1]
     clear e1 h0
     go_enter Tryz.func41, Tryz.ntmps41
     go_wp2_with fail
     refine HN.out.mono ?_
     rintro e w1 ⟨rfl, hb⟩
     go_wp2
     go_ret
     exact ⟨rfl, hb⟩
   · have e1 : decide (q = 0 \/ (2 <= q /\ q < nx)) = false := by simp [h0, h1]
     rw [e1]
     clear e1 h0 HN
     go_enter Tryz.func41, Tryz.ntmps41
     go_wp2
     go_ret
     exact ⟨rfl, Below.refl _ _⟩
theorem ready_live (w : World) (st : Nat) (nx q : Int) (LV : Tel 28 #[.pointer (some ⟨st, 0, none⟩)] w 0) (NX : Tel 18 #[.pointer (some ⟨st, 0, none⟩)] w nx) : Tel 36 #[.pointer (some ⟨st, 0, none⟩), .int .i64 q] w (if q = 0 \/ (2 <= q /\ q < nx) then 0 else 41) := fun w1 hb1 => by
 have HL := hid (LV w1 hb1)
 have HP := hid (fun w2 (hb : Below w1.heap.size w1 w2) => pageOrNone_any w2 st nx q ((NX.later hb1).later hb))
 clear LV NX hb1
 by_cases h : q = 0 \/ (2 <= q /\ q < nx)
 · rw [if_pos h]
   rw [decide_eq_true h] at HP
   clear h
   go_enter Tryz.func36, Tryz.ntmps36
   go_wp2_with fail
   refine HL.out.mono ?_
   rintro e w2 ⟨rfl, hb2⟩
   have HB2 := hid hb2
   clear hb2
   go_wp2_with fail
   refine (HP.out w2 HB2.out).mono ?_
   rintro e w3 ⟨rfl, hb3⟩
   go_wp2
   go_ret
   exact ⟨rfl, HB2.out.trans (hb3.mono HB2.out.size)⟩
 · rw [if_neg h]
   rw [decide_eq_false h] at HP
   clear h
   go_enter Tryz.func36, Tryz.ntmps36
   go_wp2_with fail
   refine HL.out.mono ?_
   rintro e w2 ⟨rfl, hb2⟩
   have HB2 := hid hb2
   clear hb2
   go_wp2_with fail
   refine (HP.out w2 HB2.out).mono ?_
   rintro e w3 ⟨rfl, hb3⟩
   go_wp2
   go_ret
   exact ⟨rfl, HB2.out.trans (hb3.mono HB2.out.size)⟩
theorem SK.fpIn {w : World} {base : Nat} {S : Sto} (h : SK w base S) {k : Nat} (hk : k ∈ S.fp) : base <= k /\ k < w.heap.size := h.in_lt (by rcases (Sto.mem S k).1 hk with e | e | e | e | e | e <;> simp [e])
structure Stp (w : World) (S : Sto) (w' : World) (S' : Sto) : Prop where
 fr : Fr S.fp w w'
 gr : Gr w S.fp S'.fp
 st : S'.st = S.st
 p : S'.p = S.p
 g : S'.g = S.g
 s : S'.s = S.s
 ep : S'.ep = S.ep
 D : S'.D = { S.D with reads := S'.D.reads }
theorem Stp.refl (w : World) (S : Sto) : Stp w S w S := ⟨Fr.refl _ _, Gr.refl _ _, rfl, rfl, rfl, rfl, rfl, rfl⟩
theorem Stp.trans {w w1 w2 : World} {S S1 S2 : Sto} (h : Stp w S w1 S1) (k : Stp w1 S1 w2 S2) : Stp w S w2 S2 :=
 ⟨h.fr.trans k.fr h.gr, h.gr.trans k.gr h.fr.size, k.st.trans h.st, k.p.trans h.p, k.g.trans h.g, k.s.trans h.s, k.ep.trans h.ep, by rw [k.D, h.D]⟩
theorem Stp.call {w w1 w2 : World} {S S1 : Sto} (h : Stp w S w1 S1) (hb : Below w1.heap.size w1 w2) : Stp w S w2 S1 := h.trans ⟨Fr.of_below hb, Gr.refl _ _, rfl, rfl, rfl, rfl, rfl, rfl⟩
theorem Stp.below {w w1 : World} {base : Nat} {S S1 : Sto} (h : Stp w S w1 S1) (hk : SK w base S) : Below base w w1 := h.fr.below (fun k q => (hk.fpIn q).1) hk.base
structure Ls (w : World) (base : Nat) (S : Sto) (P : List (Int × List Int)) (b : Nat) : Prop where
 sk : SK w base S
 lv : liveF S.D S.ep = 0
 ma : ∃ m : Nat, S.s.ma = m /\ S.nx = m /\ 2 <= m /\ m + S.cts.length = 2 + P.length
 kn : ∀ i, i < P.length -> Kn S (2 + i) (P.getD i (0, []))
 np : 2 + P.length <= S.D.np /\ S.D.np <= 4096
 N : S.N <= 2 * b
 rd : S.D.reads <= 1000 + b
theorem Ls.keep {w w1 : World} {base : Nat} {S : Sto} {P : List (Int × List Int)} {b : Nat} (h : Ls w base S P b) (hk : ∀ k ∈ S.fp, w1.heap[k]? = w.heap[k]?) (hs : w.heap.size <= w1.heap.size) : Ls w1 base S P b :=
 ⟨h.sk.of_heap (fun k q => hk k ((Sto.mem S k).2 (by rcases q with e | e | e | e | e | e <;> simp [e]))) hs, h.lv, h.ma, h.kn, h.np, h.N, h.rd⟩
theorem Ls.below {w w1 : World} {base : Nat} {S : Sto} {P : List (Int × List Int)} {b : Nat} (h : Ls w base S P b) (hb : Below w.heap.size w w1) : Ls w1 base S P b := h.keep (fun k q => hb.block k (h.sk.fpIn q).2) hb.size
theorem Ls.more {w : World} {base : Nat} {S : Sto} {P : List (Int × List Int)} {b : Nat} (h : Ls w base S P b) (c : Nat) (hc : b <= c) : Ls w base S P c := ⟨h.sk, h.lv, h.ma, h.kn, h.np, by have := h.N; omega, by have := h.rd; omega⟩
theorem Ls.live {w : World} {base : Nat} {S : Sto} {P : List (Int × List Int)} {b : Nat} (h : Ls w base S P b) : Tel 28 #[.pointer (some ⟨S.st, 0, none⟩)] w 0 := fun w1 hb => by
 have := oLive_any w1 base S (h.sk.below hb)
 rw [h.lv] at this; exact this
theorem Ls.next {w : World} {base : Nat} {S : Sto} {P : List (Int × List Int)} {b : Nat} (h : Ls w base S P b) : Tel 18 #[.pointer (some ⟨S.st, 0, none⟩)] w (2 + P.length : Nat) := fun w1 hb => by
 have hl := h.np
 obtain ⟨m, m1, m2, m3, m4⟩ := h.ma
 have := oNext_any w1 base S (h.sk.below hb) (by omega) (by rw [m1]; omega)
 rw [m1, show (m : Int) + (S.cts.length : Int) = ((2 + P.length : Nat) : Int) by omega] at this; exact this
theorem Ls.page {w : World} {base : Nat} {S : Sto} {P : List (Int × List Int)} {b : Nat} (h : Ls w base S P b) (i : Nat) (hi : i < P.length) : (1 <= (P.getD i (0, [])).1 /\ (P.getD i (0, [])).1 <= 3) /\ (P.getD i (0, [])).2.length <= 246 /\ Byts (P.getD i (0, [])).2 := by
 rcases h.kn i hi with ⟨_, _, _, _, h5, h6, h7⟩ | ⟨j, hj, e, hv⟩
 · exact ⟨h5, h6, h7⟩
 · have c := h.sk.cv j hj
   rw [hv] at c
   exact ⟨c.kk, c.le, c.by8⟩
theorem Ls.load {w : World} {base : Nat} {S : Sto} {P : List (Int × List Int)} {b : Nat} (h : Ls w base S P b) (hb : b <= 1000000000000000000) (i : Nat) (hi : i < P.length) (q : Int) (hq : q = (2 + i : Nat)) :
   Calls Tryz.prog 73 #[.pointer (some ⟨S.st, 0, none⟩), .int .i64 q] w fun e w' => ∃ S' u, e = .returned (.tuple #[.int .i64 (P.getD i (0, [])).1, u, .int .i64 0]) /\ Own w' w.heap.size u (P.getD i (0, [])).2 /\ Ls w' base S' P (b + 1) /\ Stp w S w' S' := by
 have hl := h.np
 have hN := h.N
 have hR := h.rd
 obtain ⟨m, m1, m2, m3, m4⟩ := h.ma
 subst hq
 refine (oLoad_kn w base S h.sk h.lv (by omega) m m1 m2 ⟨m3, by omega⟩ (by omega) (by omega) (2 + i) _ (h.kn i hi)).mono fun e w' ⟨S', u, he, hO, ⟨hK, r⟩, _, hF, hG⟩ => ⟨S', u, he, hO, ⟨hK, by rw [r.live]; exact h.lv, ?_, fun j hj => (h.kn j hj).rd r, ?_, ?_, ?_⟩, ⟨hF, hG, r.st, r.p, r.g, r.s, r.ep, r.D⟩⟩
 · exact ⟨m, by rw [r.s]; exact m1, by rw [r.nx]; exact m2, m3, by rw [r.cts]; exact m4⟩
 · rw [r.D]; exact h.np
 · have := r.N; omega
 · have := r.rd; push_cast; omega
theorem Ls.stage {w : World} {base : Nat} {S : Sto} {P : List (Int × List Int)} {b : Nat} (h : Ls w base S P b) (hb : b <= 1000000000000000000) (hnp : 2 + P.length < S.D.np) (kd : Int) (hk : 1 <= kd /\ kd <= 3) (zs : List Int) (h8 : Byts zs) (hz : zs.length <= 246) (sp : Option Addr) (cap : Nat) (hS : Src w sp cap zs) (hn : sp = none -> cap = 0) :
   Calls Tryz.prog 45 #[.pointer (some ⟨S.st, 0, none⟩), .int .i64 kd, .slice sp zs.length cap] w fun e w' => ∃ S', e = .returned (.tuple #[.int .i64 (2 + P.length : Nat), .int .i64 0]) /\ Ls w' base S' (P ++ [(kd, zs)]) (b + 1) /\ Stp w S w' S' := by
 have hl := h.np
 have hN := h.N
 have hR := h.rd
 have hcv : S.vs.length = S.cts.length := h.sk.cl.symm
 obtain ⟨m, m1, m2, m3, m4⟩ := h.ma
 refine (oStage_any w base S h.sk h.lv (by omega) (by rw [m1]; omega) (by omega) (by rw [m1]; omega) kd hk zs h8 hz sp cap hS hn).mono fun e w' ⟨FC, lb, a, sv, c, he, hK, hF, hG⟩ => ⟨_, by rw [he, m1, show (m : Int) + (S.cts.length : Int) = ((2 + P.length : Nat) : Int) by omega], ⟨hK, h.lv, ?_, ?_, ?_, ?_, ?_⟩, ⟨hF, hG, rfl, rfl, rfl, rfl, rfl, rfl⟩⟩
 · exact ⟨m, m1, m2, m3, by show m + (S.cts ++ [c]).length = 2 + (P ++ [(kd, zs)]).length; rw [List.length_append, List.length_append, List.length_singleton, List.length_singleton]; omega⟩
 · intro i hi
   rw [List.length_append, List.length_singleton] at hi
   by_cases hc : i < P.length
   · rw [show (P ++ [(kd, zs)]).getD i (0, []) = P.getD i (0, []) by rw [List.getD_eq_getElem?_getD, List.getElem?_append_left hc, <- List.getD_eq_getElem?_getD]]
     rcases h.kn i hc with g | ⟨j, hj, e, hv⟩
     · exact Or.inl g
     · refine Or.inr ⟨j, by show j < (S.cts ++ [c]).length; rw [List.length_append]; omega, e, ?_⟩
       show (S.vs ++ [(kd, zs)]).getD j (0, []) = _
       rw [List.getD_eq_getElem?_getD, List.getElem?_append_left (by omega), <- List.getD_eq_getElem?_getD]; exact hv
   · obtain rfl : i = P.length := by omega
     refine Or.inr ⟨S.cts.length, by show S.cts.length < (S.cts ++ [c]).length; rw [List.length_append, List.length_singleton]; omega, by show ((2 + P.length : Nat) : Int) = S.s.ma + (S.cts.length : Int); rw [m1]; omega, ?_⟩
     show (S.vs ++ [(kd, zs)]).getD S.cts.length (0, []) = (P ++ [(kd, zs)]).getD P.length (0, [])
     rw [<- hcv]; simp
 · show 2 + (P ++ [(kd, zs)]).length <= S.D.np /\ S.D.np <= 4096; rw [List.length_append, List.length_singleton]; omega
 · show S.N + 1 <= 2 * (b + 1); omega
 · show S.D.reads <= 1000 + ((b + 1 : Nat) : Int); push_cast; omega
theorem Ls.ready {w : World} {base : Nat} {S : Sto} {P : List (Int × List Int)} {b : Nat} (h : Ls w base S P b) (q : Int) (hq : q = 0 \/ (2 <= q /\ q < (2 + P.length : Nat))) : Tel 36 #[.pointer (some ⟨S.st, 0, none⟩), .int .i64 q] w 0 := by
 have := ready_live w S.st _ q h.live h.next
 rw [if_pos hq] at this; exact this
structure Lc (w0 : World) (base : Nat) (S0 : Sto) (P : List (Int × List Int)) (b : Nat) (w : World) (S : Sto) (L : List (Nat × List Value × Nat)) : Prop where
 ls : Ls w base S P b
 sp : Stp w0 S0 w S
 rows : ∀ x ∈ L, w.heap[x.1]? = some (.cells x.2.1.toArray x.2.2 (0, 0)) /\ w0.heap.size <= x.1 /\ x.1 ∉ S.fp
section
variable {w0 w w1 : World} {base b : Nat} {S0 S : Sto} {P : List (Int × List Int)} {L : List (Nat × List Value × Nat)}
theorem Lc.start (h : Ls w base S P b) : Lc w base S P b w S [] := ⟨h, Stp.refl _ _, fun x q => by cases q⟩
theorem Lc.row (h : Lc w0 base S0 P b w S L) {k t : Nat} {C : List Value} (hm : (k, C, t) ∈ L) : w.heap[k]? = some (.cells C.toArray t (0, 0)) := (h.rows _ hm).1
theorem Lc.cell (h : Lc w0 base S0 P b w S L) {k t : Nat} {C : List Value} (hm : (k, C, t) ∈ L) {j : Nat} {v : Value} (hv : C[j]? = some v) : w.cell? ⟨k, j, none⟩ = some v := by
 rw [cell_of_row _ _ _ _ _ _ (h.row hm)]; simpa using hv
theorem Lc.call (h : Lc w0 base S0 P b w S L) (hb : Below w.heap.size w w1) : Lc w0 base S0 P b w1 S L :=
 ⟨h.ls.below hb, h.sp.call hb, fun x q => ⟨(hb.block _ (hlt (h.rows x q).1)).trans (h.rows x q).1, (h.rows x q).2⟩⟩
theorem Lc.drew (h : Lc w0 base S0 P b w S L) : Lc w0 base S0 P b w.drew S L := h.call (Below.refl _ _).drew
theorem Lc.store {S1 : Sto} {P1 : List (Int × List Int)} {b1 : Nat} (h : Lc w0 base S0 P b w S L) (hl : Ls w1 base S1 P1 b1) (hs : Stp w S w1 S1) : Lc w0 base S0 P1 b1 w1 S1 L :=
 ⟨hl, h.sp.trans hs, fun x q => by
   obtain ⟨r1, r2, r3⟩ := h.rows x q
   exact ⟨(hs.fr.block _ (hlt r1) r3).trans r1, r2, fun e => (hs.gr _ e).elim r3 (fun z => by have := hlt r1; omega)⟩⟩
theorem Lc.alloc (h : Lc w0 base S0 P b w S L) (C : List Value) (t : Nat) : Lc w0 base S0 P b (w.alloc (.cells C.toArray t)) S ((w.heap.size, C, t) :: L) := by
 have hb := below_new w (.cells C.toArray t)
 have h1 := h.call hb
 refine ⟨h1.ls, h1.sp, fun x q => ?_⟩
 rcases List.mem_cons.1 q with rfl | q
 · exact ⟨hnew w _, h.sp.fr.size, fun e => by have := (h.ls.sk.fpIn e).2; exact Nat.lt_irrefl _ this⟩
 · exact h1.rows x q
theorem Lc.sub {L1 : List (Nat × List Value × Nat)} (h : Lc w0 base S0 P b w S L) (hs : ∀ x ∈ L1, x ∈ L) : Lc w0 base S0 P b w S L1 := ⟨h.ls, h.sp, fun x q => h.rows x (hs x q)⟩
theorem Lc.any (h : Lc w0 base S0 P b w S L) {k t : Nat} {C : List Value} (hm : (k, C, t) ∈ L) (hne : ∀ i, i ≠ k -> w1.heap[i]? = w.heap[i]?) (D : List Value) (hk : w1.heap[k]? = some (.cells D.toArray t (0, 0))) (hos : w1.os = w.os /\ w1.tape = w.tape /\ w1.output = w.output) (hsz : w1.heap.size = w.heap.size) (L1 : List (Nat × List Value × Nat)) (hL : ∀ x ∈ L1, x ∈ L /\ x.1 ≠ k) : Lc w0 base S0 P b w1 S ((k, D, t) :: L1) := by
 obtain ⟨r1, r2, r3⟩ := h.rows _ hm
 have ne : ∀ i ∈ S.fp, i ≠ k := fun i q e => r3 (e ▸ q)
 refine ⟨h.ls.keep (fun i q => hne i (ne i q)) (by omega), ?_, fun x q => ?_⟩
 · refine ⟨⟨hos.1.trans h.sp.fr.os, hos.2.1.trans h.sp.fr.tape, hos.2.2.trans h.sp.fr.output, by have := h.sp.fr.size; omega, fun i hi hn => ?_⟩, h.sp.gr, h.sp.st, h.sp.p, h.sp.g, h.sp.s, h.sp.ep, h.sp.D⟩
   have r2' : w0.heap.size <= k := r2
   exact (hne i (by omega)).trans (h.sp.fr.block i hi hn)
 · rcases List.mem_cons.1 q with rfl | q
   · exact ⟨hk, r2, r3⟩
   · obtain ⟨q1, q2⟩ := hL x q
     exact ⟨(hne _ q2).trans (h.rows x q1).1, (h.rows x q1).2⟩
theorem Lc.set (h : Lc w0 base S0 P b w S L) {k t : Nat} {C : List Value} (hm : (k, C, t) ∈ L) (D : List Value) (L1 : List (Nat × List Value × Nat)) (hL : ∀ x ∈ L1, x ∈ L /\ x.1 ≠ k) : Lc w0 base S0 P b (w.setRow k D.toArray) S ((k, D, t) :: L1) :=
 h.any hm (fun i q => setRow_other w _ _ _ q) D (setRow_heap w _ _ _ _ _ (h.row hm)) ⟨rfl, rfl, rfl⟩ (by simp) L1 hL
theorem Lc.setC (h : Lc w0 base S0 P b w S L) {k t : Nat} {C : List Value} (hm : (k, C, t) ∈ L) (j : Nat) (v : Value) (L1 : List (Nat × List Value × Nat)) (hL : ∀ x ∈ L1, x ∈ L /\ x.1 ≠ k) : Lc w0 base S0 P b (w.setCell ⟨k, j, none⟩ v) S ((k, C.set j v, t) :: L1) := by
 refine h.any hm (fun i q => heap_setCell_other w ⟨k, j, none⟩ i v q) _ ?_ ⟨rfl, rfl, rfl⟩ (by simp [World.size_setCell]) L1 hL
 have := heap_setCell_same w k j _ _ v (h.row hm)
 simpa using this
theorem Lc.fz (h : Lc w0 base S0 P b w S L) {k t : Nat} {C : List Value} (hm : (k, C, t) ∈ L) (j : Nat) : w.frozen? ⟨k, j, none⟩ = false := frozen_of_row _ _ _ _ _ (h.row hm)
theorem Lc.lt (h : Lc w0 base S0 P b w S L) {k t : Nat} {C : List Value} (hm : (k, C, t) ∈ L) : k < w.heap.size := hlt (h.row hm)
end
def spC (q : Int) (r : Rc) : List Value := .int .i64 q :: rcC r
theorem spC_len (q : Int) {r : Rc} (ok : RcOk r) : (spC q r).length = 39 := by simp [spC, rcC_len ok]
theorem spC_one (q : Int) (r : Rc) : ∀ y ∈ spC q r, y.oneCell' = true := fun y hy => by
 rcases List.mem_cons.1 hy with e | e
 · rw [e]; rfl
 · exact rcC_one _ y e
theorem Tryz.sizeSp : (Tryz.prog.info? 91).map (·.size) = some 39 := by kernel_rfl
theorem built_sp0 : Tryz.prog.built 91 [] = some (spC 0 rc0).toArray := by kernel_rfl
theorem built_sp' (q a b c d e f : Int) (l : List Value) (hl : l.length = 32) : Tryz.prog.built 91 [(0, .int .i64 q), (1, .agg ([Value.int .i64 a, .int .i64 b, .int .i64 c, .int .i64 d, .int .i64 e, .int .i64 f] ++ l).toArray)] = some (.int .i64 q :: ([Value.int .i64 a, .int .i64 b, .int .i64 c, .int .i64 d, .int .i64 e, .int .i64 f] ++ l)).toArray := by
 obtain ⟨x0, x1, x2, x3, x4, x5, x6, x7, x8, x9, x10, x11, x12, x13, x14, x15, x16, x17, x18, x19, x20, x21, x22, x23, x24, x25, x26, x27, x28, x29, x30, x31, rfl⟩ := list32 hl
 kernel_rfl
theorem built_sp (q : Int) (r : Rc) (ok : RcOk r) : Tryz.prog.built 91 [(0, .int .i64 q), (1, .agg (rcC r).toArray)] = some (spC q r).toArray := built_sp' _ _ _ _ _ _ _ _ (by rw [ints_len, ok.sm])
theorem allocSp (a : Act) (o : Oper) (w : World) (ho : o.op = .alloc 91) : (execOp a.eval o).run Tryz.prog w = .ok (.value (.pointer (some ⟨w.heap.size, 0, none⟩))) (w.alloc (.cells (spC 0 rc0).toArray 91)) := by
 unfold execOp
 rw [ho]
 kernel_rfl
theorem wpList_allocSp {w : World} {ops : Array Oper} {rest : List Oper} {o : Oper} {a : Act} {Q : Exit -> Act -> World -> Prop} (hg : o.guard = none) (ho : o.op = .alloc 91)
   (h : wpList Tryz.prog ops Q rest (a.put o.dst (.pointer (some ⟨w.heap.size, 0, none⟩))) (w.alloc (.cells (spC 0 rc0).toArray 91))) : wpList Tryz.prog ops Q (o :: rest) a w := by
 refine wpList_plain hg fun K hK => ?_
 unfold Oper.wp
 rw [allocSp a o w ho]
 exact hK _ _ h
theorem wpList_allocRc {w : World} {ops : Array Oper} {rest : List Oper} {o : Oper} {a : Act} {Q : Exit -> Act -> World -> Prop} (hg : o.guard = none) (ho : o.op = .alloc 49)
   (h : wpList Tryz.prog ops Q rest (a.put o.dst (.pointer (some ⟨w.heap.size, 0, none⟩))) (w.alloc (.cells (rcC rc0).toArray 49))) : wpList Tryz.prog ops Q (o :: rest) a w := by
 refine wpList_plain hg fun K hK => ?_
 unfold Oper.wp
 rw [allocRc a o w ho]
 exact hK _ _ h
theorem spNumber_any (w : World) (q : Int) (r : Rc) (ok : RcOk r) (hv : VerR r) : Calls Tryz.prog 102 #[.agg (spC q r).toArray] w fun e w' => e = .returned (.int .i64 (numR r.v r.f)) /\ Below w.heap.size w w' := by
 have hr : (w.alloc (.cells (spC q r).toArray 91)).rangeAt w.heap.size 1 (rcC r) := fun j v h => by
   rw [cell_of_row _ _ _ _ _ _ (hnew w (.cells (spC q r).toArray 91))]
   simp only [List.getElem?_toArray, spC]
   rw [Nat.add_comm 1 j, List.getElem?_cons_succ]; exact h
 have HR := hid hr
 have HB := hid (below_new w (.cells (spC q r).toArray 91))
 have HS := hid (show (Tryz.prog.info? 49).map (·.size) = some (rcC r).length by rw [Tryz.sizeRc, rcC_len ok])
 have KN := hid (fun w1 => inumberOf_any w1 r ok hv)
 generalize spC q r = Z at *
 generalize rcC r = C at *
 generalize numR r.v r.f = I at *
 clear hr hv
 go_enter Tryz.func102, Tryz.ntmps102
 go_wp2_with (first | refine wpList_load_mid_w (by rfl) 49 _ (by rfl) w.heap.size 1 (by rfl) C _ HR.out Tryz.underlying49 rfl HS.out ?_)
 refine (KN.out _).mono ?_
 rintro e w2 ⟨rfl, hb2⟩
 go_wp2
 go_ret
 exact ⟨rfl, HB.out.trans (hb2.mono HB.out.size)⟩
def linkP (r : Rc) (t : Int) : Int × Int := if t <= far (numR r.v r.f) then (r.s, far (numR r.v r.f)) else (r.p, numR r.v r.f - 1)
theorem spLink_any (w : World) (q : Int) (r : Rc) (ok : RcOk r) (hv : VerR r) (t : Int) : Calls Tryz.prog 131 #[.agg (spC q r).toArray, .int .i64 t] w fun e w' => e = .returned (.tuple #[.int .i64 (linkP r t).1, .int .i64 (linkP r t).2]) /\ Below w.heap.size w w' := by
 have r0 := hnew w (.cells (spC q r).toArray 91)
 have HB := hid (below_new w (.cells (spC q r).toArray 91))
 have HS := hid (show (Tryz.prog.info? 91).map (·.size) = some (spC q r).toArray.size by rw [Tryz.sizeSp, List.size_toArray, spC_len q ok])
 have KN := hid (fun w1 => spNumber_any w1 q r ok hv)
 have hb := numR_bd hv
 have KS := hid (fun w1 => skipped_any w1 (numR r.v r.f) hb.1 hb.2)
 have P2 := hid (show (spC q r)[3]? = some (.int .i64 r.p) from rfl)
 have P3 := hid (show (spC q r)[4]? = some (.int .i64 r.s) from rfl)
 unfold linkP
 generalize spC q r = Z at *
 generalize numR r.v r.f = I at *
 generalize far I = J at *
 generalize r.s = rs at *
 generalize r.p = rp at *
 have R0 := hid r0
 obtain ⟨hI1, hI2⟩ := hb
 clear hv r0 ok
 by_cases hc : t <= J
 · rw [if_pos hc]
   go_enter Tryz.func131, Tryz.ntmps131
   go_wp2_with (first | refine wpList_load_row_w (by rfl) 91 _ (by rfl) _ (by rfl) 91 _ _ _ R0.out Tryz.underlying91 rfl HS.out ?_)
   refine (KN.out _).mono ?_
   rintro e w2 ⟨rfl, hb2⟩
   have HB2 := hid (HB.out.trans (hb2.mono HB.out.size))
   have R2 := hid ((hb2.block _ (hlt R0.out)).trans R0.out)
   clear hb2
   go_wp2_with fail
   refine (KS.out _).mono ?_
   rintro e w3 ⟨rfl, hb3⟩
   have HB3 := hid (HB2.out.trans (hb3.mono HB2.out.size))
   have r3 := (hb3.block _ (hlt R2.out)).trans R2.out
   have c4 : w3.cell? ⟨w.heap.size, 4, none⟩ = some (.int .i64 rs) := by rw [cell_of_row _ _ _ _ _ _ r3]; simpa using P3.out
   clear hb3 r3
   go_wp2
   go_ret2
   exact ⟨rfl, HB3.out⟩
 · rw [if_neg hc]
   go_enter Tryz.func131, Tryz.ntmps131
   go_wp2_with (first | refine wpList_load_row_w (by rfl) 91 _ (by rfl) _ (by rfl) 91 _ _ _ R0.out Tryz.underlying91 rfl HS.out ?_)
   refine (KN.out _).mono ?_
   rintro e w2 ⟨rfl, hb2⟩
   have HB2 := hid (HB.out.trans (hb2.mono HB.out.size))
   have R2 := hid ((hb2.block _ (hlt R0.out)).trans R0.out)
   clear hb2
   go_wp2_with fail
   refine (KS.out _).mono ?_
   rintro e w3 ⟨rfl, hb3⟩
   have HB3 := hid (HB2.out.trans (hb3.mono HB2.out.size))
   have r3 := (hb3.block _ (hlt R2.out)).trans R2.out
   have c3 : w3.cell? ⟨w.heap.size, 3, none⟩ = some (.int .i64 rp) := by rw [cell_of_row _ _ _ _ _ _ r3]; simpa using P2.out
   clear hb3 r3
   go_wp2
   go_ret2
   exact ⟨rfl, HB3.out⟩
def lookP (P : List (Int × List Int)) (q : Int) : Option Rc :=
 if (P.getD (q - 2).toNat (0, [])).1 = 3 then (match decR (P.getD (q - 2).toNat (0, [])).2 with
   | some r => if r.p < q /\ r.s < q /\ r.r < q then some r else none
   | none => none) else none
def lookS (P : List (Int × List Int)) (q : Int) : List Value := match lookP P q with | some r => spC q r | none => spC 0 rc0
def lookE (P : List (Int × List Int)) (q : Int) : Int := match lookP P q with | some r => 0 | none => 4
theorem lookP_some {P : List (Int × List Int)} {q : Int} {r : Rc} (h : lookP P q = some r) : RightR r /\ RcOk r /\ r.p < q /\ r.s < q /\ r.r < q := by
 unfold lookP at h
 split at h
 · split at h
   · rename_i x hx
     split at h
     · rename_i hc; cases h; obtain ⟨a, b, _, _⟩ := decR_right hx; exact ⟨a, b, hc⟩
     · cases h
   · cases h
 · cases h
theorem skip_le {r : Rc} (h : RightR r) : r.s <= r.p := by
 obtain ⟨_, _, _, h⟩ := h
 rcases h with ⟨_, a, b⟩ | ⟨_, p, (⟨_, b⟩ | ⟨_, (⟨_, b⟩ | ⟨_, _, b⟩)⟩)⟩
 · omega
 · have := p.1; omega
 · omega
 · omega
def LookP (w : World) (base : Nat) (S : Sto) (P : List (Int × List Int)) (b : Nat) (Z : List Value) (c : Int) (e : Ending) (w' : World) : Prop := ∃ S', e = .returned (.tuple #[.agg Z.toArray, .int .i64 c]) /\ Ls w' base S' P (b + 1) /\ Stp w S w' S'
theorem look_kind (w : World) (base : Nat) (S : Sto) (P : List (Int × List Int)) (b : Nat) (h : Ls w base S P b) (hb : b <= 1000000000000000000) (q : Int) (i : Nat) (hi : i < P.length) (hq : q = (2 + i : Nat)) (kd : Int) (zs : List Int) (hv : P.getD i (0, []) = (kd, zs)) (hk : kd ≠ 3) :
   Calls Tryz.prog 38 #[.pointer (some ⟨S.st, 0, none⟩), .int .i64 q] w (LookP w base S P b (spC 0 rc0) 4) := by
 have hpg := (h.page i hi).2
 have L1 := (Lc.start h).alloc (spC 0 rc0) 91
 have LD := hid (L1.ls.load hb i hi q hq)
 rw [hv] at LD hpg
 have HL1 := hid L1
 have HW := hid (show 0 < 1 from Nat.one_pos)
 have BS := hid built_sp0
 have hN := hid (show (Tryz.prog.info? 91).map (·.size) = some (spC 0 rc0).toArray.size by kernel_rfl)
 have hO := hid (all_oneCell_toArray (spC_one 0 rc0))
 have AL := hid (fun (w : World) (ops : Array Oper) (rest : List Oper) (o : Oper) (a : Act) (Q : Exit -> Act -> World -> Prop) => @wpList_allocSp w ops rest o a Q)
 have HP := hid hpg
 have hk1 : (kd != 3) = true := by simpa using hk
 clear hk
 generalize hC : spC 0 rc0 = C at *
 have HC := hid hC
 clear h hpg L1 hC hv hq
 go_enter Tryz.func38, Tryz.ntmps38
 go_wp2_with (first | refine AL.out _ _ _ _ _ _ rfl rfl ?_)
 refine LD.out.mono ?_
 rintro e w2 ⟨S2, v2, rfl, hO2, hL2, hS2⟩
 obtain ⟨s2, c2, rfl, hs2, hn2⟩ := hO2.form
 have HL2 := hid (HL1.out.store hL2 hS2)
 have HSR := hid hs2
 clear hO2 hL2 hS2 hn2 hs2 LD HL1
 have HL9 := HL2
 have r9 := HL9.out.row List.mem_cons_self
 go_wp2_with (first
   | refine wpList_built (by rfl) 91 _ rfl _ rfl _ BS.out ?_
   | refine wpList_store_row (by rfl) 91 (.tmp 4) (.tmp 23) (by rfl) w.heap.size C.toArray (by rfl) (by rfl) 91 C.toArray (by exact r9) hN.out rfl hO.out ?_)
 have L5 := HL9.out.set List.mem_cons_self C [] (fun x q => by cases q)
 refine bodyPost_ret (v := .tuple #[.agg C.toArray, .int .i64 4]) (results_c2 Tryz.results38 _ _ w.heap.size 91 _ _ _ rfl (L5.row List.mem_cons_self) Tryz.underlying91 rfl hN.out) rfl ⟨_, rfl, L5.ls, L5.sp⟩
theorem look_no (w : World) (base : Nat) (S : Sto) (P : List (Int × List Int)) (b : Nat) (h : Ls w base S P b) (hb : b <= 1000000000000000000) (q : Int) (i : Nat) (hi : i < P.length) (hq : q = (2 + i : Nat)) (kd : Int) (zs : List Int) (hv : P.getD i (0, []) = (kd, zs)) (hk : kd = 3) (hd : decR zs = none) :
   Calls Tryz.prog 38 #[.pointer (some ⟨S.st, 0, none⟩), .int .i64 q] w (LookP w base S P b (spC 0 rc0) 4) := by
 have hpg := (h.page i hi).2
 have L1 := (Lc.start h).alloc (spC 0 rc0) 91
 have LD := hid (L1.ls.load hb i hi q hq)
 rw [hv] at LD hpg
 have HL1 := hid L1
 have HW := hid (show 0 < 1 from Nat.one_pos)
 have BS := hid built_sp0
 have hN := hid (show (Tryz.prog.info? 91).map (·.size) = some (spC 0 rc0).toArray.size by kernel_rfl)
 have hO := hid (all_oneCell_toArray (spC_one 0 rc0))
 have AL := hid (fun (w : World) (ops : Array Oper) (rest : List Oper) (o : Oper) (a : Act) (Q : Exit -> Act -> World -> Prop) => @wpList_allocSp w ops rest o a Q)
 have HP := hid hpg
 obtain ⟨CR, hCR⟩ : ∃ CR, rcC rc0 = CR := ⟨_, rfl⟩
 have ARc := hid (show ∀ (a : Act) (o : Oper) (w : World), o.op = .alloc 49 -> (execOp a.eval o).run Tryz.prog w = .ok (.value (.pointer (some ⟨w.heap.size, 0, none⟩))) (w.alloc (.cells CR.toArray 49)) from fun a o w ho => by rw [<- hCR]; exact allocRc a o w ho)
 have LRc0 := hid (show CR.length = 38 by rw [<- hCR]; exact rcC_len rc0_ok)
 have EV := hid (show rcC (decRV zs) = CR by rw [<- hCR]; unfold decRV; rw [hd]; rfl)
 obtain ⟨c, hc⟩ : ∃ c : Int, c = 150 := ⟨_, rfl⟩
 have EE := hid (show decRE zs = c by rw [hc]; unfold decRE; rw [hd]; rfl)
 have hc1 : (c != 0) = true := by rw [hc]; rfl
 have LRc := LRc0
 have ORc := hid (show ∀ y ∈ CR, y.oneCell' = true by rw [<- hCR]; exact rcC_one rc0)
 subst hk
 clear hd hCR hc
 generalize hC : spC 0 rc0 = C at *
 have HC := hid hC
 clear h hpg L1 hC hv hq
 go_enter Tryz.func38, Tryz.ntmps38
 go_wp2_with (first | refine AL.out _ _ _ _ _ _ rfl rfl ?_)
 refine LD.out.mono ?_
 rintro e w2 ⟨S2, v2, rfl, hO2, hL2, hS2⟩
 obtain ⟨s2, c2, rfl, hs2, hn2⟩ := hO2.form
 have HL2 := hid (HL1.out.store hL2 hS2)
 have HSR := hid hs2
 clear hO2 hL2 hS2 hn2 hs2 LD HL1
 have KD := hid (idecode_any w2 zs (by exact HP.out.2) s2 c2 HSR.out)
 go_wp2_with fail
 refine KD.out.mono ?_
 rintro e w3 ⟨rfl, hb3⟩
 have HL3 := hid (HL2.out.call hb3)
 clear hb3 KD HL2 HSR
 rw [EV.out, EE.out]
 go_wp2_with (first
   | (refine wpList_new ARc.out LRc0.out Tryz.sizeRc rfl rfl rfl _ _ rfl rfl CR rfl rfl LRc.out ORc.out ?_; refine Hid.out ?_))
 refine hid ?_
 have HL4 := hid (HL3.out.alloc CR 49)
 have hg4 : w.heap.size ≠ w3.heap.size := Nat.ne_of_lt (HL3.out.lt List.mem_cons_self)
 have HL9 := hid (HL4.out.sub (L1 := [(w.heap.size, C, 91)]) (fun x q => by simp at q; simp [q]))
 clear HL3 HL4
 go_upto_region 6 with fail
 have r9 := HL9.out.row List.mem_cons_self
 go_wp2_with (first
   | refine wpList_built (by rfl) 91 _ rfl _ rfl _ BS.out ?_
   | refine wpList_store_row (by rfl) 91 (.tmp 4) (.tmp 42) (by rfl) w.heap.size C.toArray (by rfl) (by rfl) 91 C.toArray (by exact r9) hN.out rfl hO.out ?_)
 have L5 := HL9.out.set List.mem_cons_self C [] (fun x q => by cases q)
 refine bodyPost_ret (v := .tuple #[.agg C.toArray, .int .i64 4]) (results_c2 Tryz.results38 _ _ w.heap.size 91 _ _ _ rfl (L5.row List.mem_cons_self) Tryz.underlying91 rfl hN.out) rfl ⟨_, rfl, L5.ls, L5.sp⟩
theorem look_hi1 (w : World) (base : Nat) (S : Sto) (P : List (Int × List Int)) (b : Nat) (h : Ls w base S P b) (hb : b <= 1000000000000000000) (q : Int) (i : Nat) (hi : i < P.length) (hq : q = (2 + i : Nat)) (kd : Int) (zs : List Int) (hv : P.getD i (0, []) = (kd, zs)) (hk : kd = 3) (r : Rc) (hd : decR zs = some r) (ho : r.r <= r.p) (hx : q <= r.p) :
   Calls Tryz.prog 38 #[.pointer (some ⟨S.st, 0, none⟩), .int .i64 q] w (LookP w base S P b (spC 0 rc0) 4) := by
 have hpg := (h.page i hi).2
 have L1 := (Lc.start h).alloc (spC 0 rc0) 91
 have LD := hid (L1.ls.load hb i hi q hq)
 rw [hv] at LD hpg
 have HL1 := hid L1
 have HW := hid (show 0 < 1 from Nat.one_pos)
 have BS := hid built_sp0
 have hN := hid (show (Tryz.prog.info? 91).map (·.size) = some (spC 0 rc0).toArray.size by kernel_rfl)
 have hO := hid (all_oneCell_toArray (spC_one 0 rc0))
 have AL := hid (fun (w : World) (ops : Array Oper) (rest : List Oper) (o : Oper) (a : Act) (Q : Exit -> Act -> World -> Prop) => @wpList_allocSp w ops rest o a Q)
 have HP := hid hpg
 have ARc := hid allocRc
 have LRc0 := hid (rcC_len rc0_ok)
 have EV := hid (show rcC (decRV zs) = rcC r by unfold decRV; rw [hd]; rfl)
 have EE := hid (show decRE zs = 0 by unfold decRE; rw [hd]; rfl)
 have LRc := hid (rcC_len (decR_right hd).2.1)
 have ORc := hid (rcC_one r)
 subst hk
 have hsp := skip_le (decR_right hd).1
 have P2 := hid (show (rcC r)[2]? = some (.int .i64 r.p) from rfl)
 have P3 := hid (show (rcC r)[3]? = some (.int .i64 r.s) from rfl)
 have P4 := hid (show (rcC r)[4]? = some (.int .i64 r.r) from rfl)
 clear hd
 generalize rcC r = CR at *
 generalize r.p = rp at *
 generalize r.s = rs at *
 generalize r.r = rr at *
 generalize hC : spC 0 rc0 = C at *
 have HC := hid hC
 clear h hpg L1 hC hv hq
 go_enter Tryz.func38, Tryz.ntmps38
 go_wp2_with (first | refine AL.out _ _ _ _ _ _ rfl rfl ?_)
 refine LD.out.mono ?_
 rintro e w2 ⟨S2, v2, rfl, hO2, hL2, hS2⟩
 obtain ⟨s2, c2, rfl, hs2, hn2⟩ := hO2.form
 have HL2 := hid (HL1.out.store hL2 hS2)
 have HSR := hid hs2
 clear hO2 hL2 hS2 hn2 hs2 LD HL1
 have KD := hid (idecode_any w2 zs (by exact HP.out.2) s2 c2 HSR.out)
 go_wp2_with fail
 refine KD.out.mono ?_
 rintro e w3 ⟨rfl, hb3⟩
 have HL3 := hid (HL2.out.call hb3)
 clear hb3 KD HL2 HSR
 rw [EV.out, EE.out]
 go_wp2_with (first
   | (refine wpList_new ARc.out LRc0.out Tryz.sizeRc rfl rfl rfl _ _ rfl rfl CR rfl rfl LRc.out ORc.out ?_; refine Hid.out ?_))
 refine hid ?_
 have HL4 := hid (HL3.out.alloc CR 49)
 have hg4 : w.heap.size ≠ w3.heap.size := Nat.ne_of_lt (HL3.out.lt List.mem_cons_self)
 have c2 := HL4.out.cell List.mem_cons_self P2.out
 have c3 := HL4.out.cell List.mem_cons_self P3.out
 have c4 := HL4.out.cell List.mem_cons_self P4.out
 have HL9 := hid (HL4.out.sub (L1 := [(w.heap.size, C, 91)]) (fun x q => by simp at q; simp [q]))
 clear HL3 HL4
 have r9 := HL9.out.row List.mem_cons_self
 go_wp2_with (first
   | refine wpList_built (by rfl) 91 _ rfl _ rfl _ BS.out ?_
   | refine wpList_store_row (by rfl) 91 (.tmp 4) (.tmp 42) (by rfl) w.heap.size C.toArray (by rfl) (by rfl) 91 C.toArray (by exact r9) hN.out rfl hO.out ?_)
 have L5 := HL9.out.set List.mem_cons_self C [] (fun x q => by cases q)
 refine bodyPost_ret (v := .tuple #[.agg C.toArray, .int .i64 4]) (results_c2 Tryz.results38 _ _ w.heap.size 91 _ _ _ rfl (L5.row List.mem_cons_self) Tryz.underlying91 rfl hN.out) rfl ⟨_, rfl, L5.ls, L5.sp⟩
theorem look_hi2 (w : World) (base : Nat) (S : Sto) (P : List (Int × List Int)) (b : Nat) (h : Ls w base S P b) (hb : b <= 1000000000000000000) (q : Int) (i : Nat) (hi : i < P.length) (hq : q = (2 + i : Nat)) (kd : Int) (zs : List Int) (hv : P.getD i (0, []) = (kd, zs)) (hk : kd = 3) (r : Rc) (hd : decR zs = some r) (ho : r.p < r.r) (hx : q <= r.r) :
   Calls Tryz.prog 38 #[.pointer (some ⟨S.st, 0, none⟩), .int .i64 q] w (LookP w base S P b (spC 0 rc0) 4) := by
 have hpg := (h.page i hi).2
 have L1 := (Lc.start h).alloc (spC 0 rc0) 91
 have LD := hid (L1.ls.load hb i hi q hq)
 rw [hv] at LD hpg
 have HL1 := hid L1
 have HW := hid (show 0 < 1 from Nat.one_pos)
 have BS := hid built_sp0
 have hN := hid (show (Tryz.prog.info? 91).map (·.size) = some (spC 0 rc0).toArray.size by kernel_rfl)
 have hO := hid (all_oneCell_toArray (spC_one 0 rc0))
 have AL := hid (fun (w : World) (ops : Array Oper) (rest : List Oper) (o : Oper) (a : Act) (Q : Exit -> Act -> World -> Prop) => @wpList_allocSp w ops rest o a Q)
 have HP := hid hpg
 have ARc := hid allocRc
 have LRc0 := hid (rcC_len rc0_ok)
 have EV := hid (show rcC (decRV zs) = rcC r by unfold decRV; rw [hd]; rfl)
 have EE := hid (show decRE zs = 0 by unfold decRE; rw [hd]; rfl)
 have LRc := hid (rcC_len (decR_right hd).2.1)
 have ORc := hid (rcC_one r)
 subst hk
 have hsp := skip_le (decR_right hd).1
 have P2 := hid (show (rcC r)[2]? = some (.int .i64 r.p) from rfl)
 have P3 := hid (show (rcC r)[3]? = some (.int .i64 r.s) from rfl)
 have P4 := hid (show (rcC r)[4]? = some (.int .i64 r.r) from rfl)
 clear hd
 generalize rcC r = CR at *
 generalize r.p = rp at *
 generalize r.s = rs at *
 generalize r.r = rr at *
 generalize hC : spC 0 rc0 = C at *
 have HC := hid hC
 clear h hpg L1 hC hv hq
 go_enter Tryz.func38, Tryz.ntmps38
 go_wp2_with (first | refine AL.out _ _ _ _ _ _ rfl rfl ?_)
 refine LD.out.mono ?_
 rintro e w2 ⟨S2, v2, rfl, hO2, hL2, hS2⟩
 obtain ⟨s2, c2, rfl, hs2, hn2⟩ := hO2.form
 have HL2 := hid (HL1.out.store hL2 hS2)
 have HSR := hid hs2
 clear hO2 hL2 hS2 hn2 hs2 LD HL1
 have KD := hid (idecode_any w2 zs (by exact HP.out.2) s2 c2 HSR.out)
 go_wp2_with fail
 refine KD.out.mono ?_
 rintro e w3 ⟨rfl, hb3⟩
 have HL3 := hid (HL2.out.call hb3)
 clear hb3 KD HL2 HSR
 rw [EV.out, EE.out]
 go_wp2_with (first
   | (refine wpList_new ARc.out LRc0.out Tryz.sizeRc rfl rfl rfl _ _ rfl rfl CR rfl rfl LRc.out ORc.out ?_; refine Hid.out ?_))
 refine hid ?_
 have HL4 := hid (HL3.out.alloc CR 49)
 have hg4 : w.heap.size ≠ w3.heap.size := Nat.ne_of_lt (HL3.out.lt List.mem_cons_self)
 have c2 := HL4.out.cell List.mem_cons_self P2.out
 have c3 := HL4.out.cell List.mem_cons_self P3.out
 have c4 := HL4.out.cell List.mem_cons_self P4.out
 have HL9 := hid (HL4.out.sub (L1 := [(w.heap.size, C, 91)]) (fun x q => by simp at q; simp [q]))
 clear HL3 HL4
 have r9 := HL9.out.row List.mem_cons_self
 go_wp2_with (first
   | refine wpList_built (by rfl) 91 _ rfl _ rfl _ BS.out ?_
   | refine wpList_store_row (by rfl) 91 (.tmp 4) (.tmp 42) (by rfl) w.heap.size C.toArray (by rfl) (by rfl) 91 C.toArray (by exact r9) hN.out rfl hO.out ?_)
 have L5 := HL9.out.set List.mem_cons_self C [] (fun x q => by cases q)
 refine bodyPost_ret (v := .tuple #[.agg C.toArray, .int .i64 4]) (results_c2 Tryz.results38 _ _ w.heap.size 91 _ _ _ rfl (L5.row List.mem_cons_self) Tryz.underlying91 rfl hN.out) rfl ⟨_, rfl, L5.ls, L5.sp⟩
theorem look_lo1 (w : World) (base : Nat) (S : Sto) (P : List (Int × List Int)) (b : Nat) (h : Ls w base S P b) (hb : b <= 1000000000000000000) (q : Int) (i : Nat) (hi : i < P.length) (hq : q = (2 + i : Nat)) (kd : Int) (zs : List Int) (hv : P.getD i (0, []) = (kd, zs)) (hk : kd = 3) (r : Rc) (hd : decR zs = some r) (ho : r.r <= r.p) (hx : r.p < q) :
   Calls Tryz.prog 38 #[.pointer (some ⟨S.st, 0, none⟩), .int .i64 q] w (LookP w base S P b (spC q r) 0) := by
 have hpg := (h.page i hi).2
 have L1 := (Lc.start h).alloc (spC 0 rc0) 91
 have LD := hid (L1.ls.load hb i hi q hq)
 rw [hv] at LD hpg
 have HL1 := hid L1
 have HW := hid (show 0 < 1 from Nat.one_pos)
 have BS := hid built_sp0
 have hN := hid (show (Tryz.prog.info? 91).map (·.size) = some (spC 0 rc0).toArray.size by kernel_rfl)
 have hO := hid (all_oneCell_toArray (spC_one 0 rc0))
 have AL := hid (fun (w : World) (ops : Array Oper) (rest : List Oper) (o : Oper) (a : Act) (Q : Exit -> Act -> World -> Prop) => @wpList_allocSp w ops rest o a Q)
 have HP := hid hpg
 have ARc := hid allocRc
 have LRc0 := hid (rcC_len rc0_ok)
 have EV := hid (show rcC (decRV zs) = rcC r by unfold decRV; rw [hd]; rfl)
 have EE := hid (show decRE zs = 0 by unfold decRE; rw [hd]; rfl)
 have LRc := hid (rcC_len (decR_right hd).2.1)
 have ORc := hid (rcC_one r)
 subst hk
 have hsp := skip_le (decR_right hd).1
 have P2 := hid (show (rcC r)[2]? = some (.int .i64 r.p) from rfl)
 have P3 := hid (show (rcC r)[3]? = some (.int .i64 r.s) from rfl)
 have P4 := hid (show (rcC r)[4]? = some (.int .i64 r.r) from rfl)
 have BSR := hid (built_sp q r (decR_right hd).2.1)
 have hNR := hid (show (Tryz.prog.info? 91).map (·.size) = some (spC q r).toArray.size by rw [Tryz.sizeSp, List.size_toArray, spC_len q (decR_right hd).2.1])
 have hNQ := hid (show (Tryz.prog.info? 49).map (·.size) = some (rcC r).toArray.size by rw [Tryz.sizeRc, List.size_toArray, rcC_len (decR_right hd).2.1])
 have hEQ := hid (show (spC 0 rc0).toArray.size = (spC q r).toArray.size by rw [List.size_toArray, List.size_toArray, spC_len q (decR_right hd).2.1, spC_len 0 rc0_ok])
 have hOR := hid (all_oneCell_toArray (spC_one q r))
 generalize spC q r = Y at *
 clear hd
 generalize rcC r = CR at *
 generalize r.p = rp at *
 generalize r.s = rs at *
 generalize r.r = rr at *
 generalize hC : spC 0 rc0 = C at *
 have HC := hid hC
 clear h hpg L1 hC hv hq
 go_enter Tryz.func38, Tryz.ntmps38
 go_wp2_with (first | refine AL.out _ _ _ _ _ _ rfl rfl ?_)
 refine LD.out.mono ?_
 rintro e w2 ⟨S2, v2, rfl, hO2, hL2, hS2⟩
 obtain ⟨s2, c2, rfl, hs2, hn2⟩ := hO2.form
 have HL2 := hid (HL1.out.store hL2 hS2)
 have HSR := hid hs2
 clear hO2 hL2 hS2 hn2 hs2 LD HL1
 have KD := hid (idecode_any w2 zs (by exact HP.out.2) s2 c2 HSR.out)
 go_wp2_with fail
 refine KD.out.mono ?_
 rintro e w3 ⟨rfl, hb3⟩
 have HL3 := hid (HL2.out.call hb3)
 clear hb3 KD HL2 HSR
 rw [EV.out, EE.out]
 go_wp2_with (first
   | (refine wpList_new ARc.out LRc0.out Tryz.sizeRc rfl rfl rfl _ _ rfl rfl CR rfl rfl LRc.out ORc.out ?_; refine Hid.out ?_))
 refine hid ?_
 have HL4 := hid (HL3.out.alloc CR 49)
 have hg4 : w.heap.size ≠ w3.heap.size := Nat.ne_of_lt (HL3.out.lt List.mem_cons_self)
 have c2 := HL4.out.cell List.mem_cons_self P2.out
 have c3 := HL4.out.cell List.mem_cons_self P3.out
 have c4 := HL4.out.cell List.mem_cons_self P4.out
 have R4 := hid (HL4.out.row List.mem_cons_self)
 have r9 := HL4.out.row (List.mem_cons_of_mem _ List.mem_cons_self)
 clear HL3
 go_wp2_with (first
   | refine wpList_load_row_w (by rfl) 49 _ (by rfl) _ (by rfl) 49 _ _ _ R4.out Tryz.underlying49 rfl hNQ.out ?_
   | refine wpList_built (by rfl) 91 _ rfl _ rfl _ BSR.out ?_
   | refine wpList_store_row (by rfl) 91 (.tmp 4) (.tmp 45) (by rfl) w.heap.size Y.toArray (by rfl) (by rfl) 91 C.toArray (by exact r9) hNR.out hEQ.out hOR.out ?_)
 have L5 := HL4.out.set (List.mem_cons_of_mem _ List.mem_cons_self) Y [] (fun x q => by cases q)
 refine bodyPost_ret (v := .tuple #[.agg Y.toArray, .int .i64 0]) (results_c2 Tryz.results38 _ _ w.heap.size 91 _ _ _ rfl (L5.row List.mem_cons_self) Tryz.underlying91 rfl hNR.out) rfl ⟨_, rfl, L5.ls, L5.sp⟩
theorem look_lo2 (w : World) (base : Nat) (S : Sto) (P : List (Int × List Int)) (b : Nat) (h : Ls w base S P b) (hb : b <= 1000000000000000000) (q : Int) (i : Nat) (hi : i < P.length) (hq : q = (2 + i : Nat)) (kd : Int) (zs : List Int) (hv : P.getD i (0, []) = (kd, zs)) (hk : kd = 3) (r : Rc) (hd : decR zs = some r) (ho : r.p < r.r) (hx : r.r < q) :
   Calls Tryz.prog 38 #[.pointer (some ⟨S.st, 0, none⟩), .int .i64 q] w (LookP w base S P b (spC q r) 0) := by
 have hpg := (h.page i hi).2
 have L1 := (Lc.start h).alloc (spC 0 rc0) 91
 have LD := hid (L1.ls.load hb i hi q hq)
 rw [hv] at LD hpg
 have HL1 := hid L1
 have HW := hid (show 0 < 1 from Nat.one_pos)
 have BS := hid built_sp0
 have hN := hid (show (Tryz.prog.info? 91).map (·.size) = some (spC 0 rc0).toArray.size by kernel_rfl)
 have hO := hid (all_oneCell_toArray (spC_one 0 rc0))
 have AL := hid (fun (w : World) (ops : Array Oper) (rest : List Oper) (o : Oper) (a : Act) (Q : Exit -> Act -> World -> Prop) => @wpList_allocSp w ops rest o a Q)
 have HP := hid hpg
 have ARc := hid allocRc
 have LRc0 := hid (rcC_len rc0_ok)
 have EV := hid (show rcC (decRV zs) = rcC r by unfold decRV; rw [hd]; rfl)
 have EE := hid (show decRE zs = 0 by unfold decRE; rw [hd]; rfl)
 have LRc := hid (rcC_len (decR_right hd).2.1)
 have ORc := hid (rcC_one r)
 subst hk
 have hsp := skip_le (decR_right hd).1
 have P2 := hid (show (rcC r)[2]? = some (.int .i64 r.p) from rfl)
 have P3 := hid (show (rcC r)[3]? = some (.int .i64 r.s) from rfl)
 have P4 := hid (show (rcC r)[4]? = some (.int .i64 r.r) from rfl)
 have BSR := hid (built_sp q r (decR_right hd).2.1)
 have hNR := hid (show (Tryz.prog.info? 91).map (·.size) = some (spC q r).toArray.size by rw [Tryz.sizeSp, List.size_toArray, spC_len q (decR_right hd).2.1])
 have hNQ := hid (show (Tryz.prog.info? 49).map (·.size) = some (rcC r).toArray.size by rw [Tryz.sizeRc, List.size_toArray, rcC_len (decR_right hd).2.1])
 have hEQ := hid (show (spC 0 rc0).toArray.size = (spC q r).toArray.size by rw [List.size_toArray, List.size_toArray, spC_len q (decR_right hd).2.1, spC_len 0 rc0_ok])
 have hOR := hid (all_oneCell_toArray (spC_one q r))
 generalize spC q r = Y at *
 clear hd
 generalize rcC r = CR at *
 generalize r.p = rp at *
 generalize r.s = rs at *
 generalize r.r = rr at *
 generalize hC : spC 0 rc0 = C at *
 have HC := hid hC
 clear h hpg L1 hC hv hq
 go_enter Tryz.func38, Tryz.ntmps38
 go_wp2_with (first | refine AL.out _ _ _ _ _ _ rfl rfl ?_)
 refine LD.out.mono ?_
 rintro e w2 ⟨S2, v2, rfl, hO2, hL2, hS2⟩
 obtain ⟨s2, c2, rfl, hs2, hn2⟩ := hO2.form
 have HL2 := hid (HL1.out.store hL2 hS2)
 have HSR := hid hs2
 clear hO2 hL2 hS2 hn2 hs2 LD HL1
 have KD := hid (idecode_any w2 zs (by exact HP.out.2) s2 c2 HSR.out)
 go_wp2_with fail
 refine KD.out.mono ?_
 rintro e w3 ⟨rfl, hb3⟩
 have HL3 := hid (HL2.out.call hb3)
 clear hb3 KD HL2 HSR
 rw [EV.out, EE.out]
 go_wp2_with (first
   | (refine wpList_new ARc.out LRc0.out Tryz.sizeRc rfl rfl rfl _ _ rfl rfl CR rfl rfl LRc.out ORc.out ?_; refine Hid.out ?_))
 refine hid ?_
 have HL4 := hid (HL3.out.alloc CR 49)
 have hg4 : w.heap.size ≠ w3.heap.size := Nat.ne_of_lt (HL3.out.lt List.mem_cons_self)
 have c2 := HL4.out.cell List.mem_cons_self P2.out
 have c3 := HL4.out.cell List.mem_cons_self P3.out
 have c4 := HL4.out.cell List.mem_cons_self P4.out
 have R4 := hid (HL4.out.row List.mem_cons_self)
 have r9 := HL4.out.row (List.mem_cons_of_mem _ List.mem_cons_self)
 clear HL3
 go_wp2_with (first
   | refine wpList_load_row_w (by rfl) 49 _ (by rfl) _ (by rfl) 49 _ _ _ R4.out Tryz.underlying49 rfl hNQ.out ?_
   | refine wpList_built (by rfl) 91 _ rfl _ rfl _ BSR.out ?_
   | refine wpList_store_row (by rfl) 91 (.tmp 4) (.tmp 45) (by rfl) w.heap.size Y.toArray (by rfl) (by rfl) 91 C.toArray (by exact r9) hNR.out hEQ.out hOR.out ?_)
 have L5 := HL4.out.set (List.mem_cons_of_mem _ List.mem_cons_self) Y [] (fun x q => by cases q)
 refine bodyPost_ret (v := .tuple #[.agg Y.toArray, .int .i64 0]) (results_c2 Tryz.results38 _ _ w.heap.size 91 _ _ _ rfl (L5.row List.mem_cons_self) Tryz.underlying91 rfl hNR.out) rfl ⟨_, rfl, L5.ls, L5.sp⟩
theorem look_any (w : World) (base : Nat) (S : Sto) (P : List (Int × List Int)) (b : Nat) (h : Ls w base S P b) (hb : b <= 1000000000000000000) (q : Int) (hq : 2 <= q /\ q < (2 + P.length : Nat)) :
   Calls Tryz.prog 38 #[.pointer (some ⟨S.st, 0, none⟩), .int .i64 q] w (LookP w base S P b (lookS P q) (lookE P q)) := by
 obtain ⟨i, hi⟩ : ∃ i : Nat, i = (q - 2).toNat := ⟨_, rfl⟩
 have h1 : i < P.length := by omega
 have h2 : q = (2 + i : Nat) := by omega
 obtain ⟨kd, zs, hv⟩ : ∃ kd zs, P.getD i (0, []) = (kd, zs) := ⟨_, _, rfl⟩
 have e : lookP P q = if kd = 3 then (match decR zs with | some r => if r.p < q /\ r.s < q /\ r.r < q then some r else none | none => none) else none := by
   unfold lookP; rw [<- hi, hv]
 unfold lookS lookE
 by_cases hk : kd = 3
 · rw [if_pos hk] at e
   cases hd : decR zs with
   | none => rw [hd] at e; rw [e]; exact look_no w base S P b h hb q i h1 h2 kd zs hv hk hd
   | some r =>
     rw [hd] at e
     have hs := skip_le (decR_right hd).1
     by_cases ho : r.r <= r.p
     · by_cases hx : r.p < q
       · rw [show lookP P q = some r by rw [e]; exact if_pos ⟨hx, by omega, by omega⟩]; exact look_lo1 w base S P b h hb q i h1 h2 kd zs hv hk r hd ho hx
       · rw [show lookP P q = none by rw [e]; exact if_neg (fun z => hx z.1)]; exact look_hi1 w base S P b h hb q i h1 h2 kd zs hv hk r hd ho (by omega)
     · by_cases hx : r.r < q
       · rw [show lookP P q = some r by rw [e]; exact if_pos ⟨by omega, by omega, hx⟩]; exact look_lo2 w base S P b h hb q i h1 h2 kd zs hv hk r hd (by omega) hx
       · rw [show lookP P q = none by rw [e]; exact if_neg (fun z => hx z.2.2)]; exact look_hi2 w base S P b h hb q i h1 h2 kd zs hv hk r hd (by omega) (by omega)
 · rw [if_neg hk] at e
   rw [e]; exact look_kind w base S P b h hb q i h1 h2 kd zs hv hk
def followP (P : List (Int × List Int)) (r : Rc) (t : Int) : Option (Int × Rc) := match lookP P (linkP r t).1 with
 | some y => if y.f = r.f /\ numR y.v y.f = (linkP r t).2 then some ((linkP r t).1, y) else none
 | none => none
structure Stands (P : List (Int × List Int)) (q : Int) (r : Rc) : Prop where
 lo : 2 <= q
 hi : q < (2 + P.length : Nat)
 lk : lookP P q = some r
theorem Stands.right {P : List (Int × List Int)} {q : Int} {r : Rc} (h : Stands P q r) : RightR r := (lookP_some h.lk).1
theorem Stands.ok {P : List (Int × List Int)} {q : Int} {r : Rc} (h : Stands P q r) : RcOk r := (lookP_some h.lk).2.1
theorem Stands.link {P : List (Int × List Int)} {q : Int} {r : Rc} (h : Stands P q r) {t : Int} (h1 : 1 <= t) (h2 : t < numR r.v r.f) : 2 <= (linkP r t).1 /\ (linkP r t).1 < q /\ t <= (linkP r t).2 /\ (linkP r t).2 < numR r.v r.f := by
 obtain ⟨hr, _, hp, hs, _⟩ := lookP_some h.lk
 have hb := numR_bd hr.1
 have hf := far_bd (numR r.v r.f) hb.1 hb.2
 obtain ⟨_, _, _, hl⟩ := hr
 have hp2 : 2 <= r.p := by
   rcases hl with ⟨e, _, _⟩ | ⟨_, p, _⟩
   · omega
   · exact p.1
 unfold linkP
 by_cases c : t <= far (numR r.v r.f)
 · rw [if_pos c]
   refine ⟨?_, hs, c, by omega⟩
   rcases hl with ⟨e, _, _⟩ | ⟨_, p, (⟨z, _⟩ | ⟨_, (⟨_, e⟩ | ⟨_, e, _⟩)⟩)⟩
   · omega
   · omega
   · show 2 <= r.s; omega
   · exact e
 · rw [if_neg c]
   exact ⟨hp2, hp, by omega, by show numR r.v r.f - 1 < numR r.v r.f; omega⟩
theorem followP_stands {P : List (Int × List Int)} {q : Int} {r : Rc} (h : Stands P q r) {t : Int} (h1 : 1 <= t) (h2 : t < numR r.v r.f) {x : Int × Rc} (hx : followP P r t = some x) : Stands P x.1 x.2 /\ x.1 < q /\ x.2.f = r.f /\ numR x.2.v x.2.f = (linkP r t).2 /\ t <= numR x.2.v x.2.f /\ numR x.2.v x.2.f < numR r.v r.f := by
 obtain ⟨l1, l2, l3, l4⟩ := h.link h1 h2
 unfold followP at hx
 split at hx
 · rename_i y hy
   split at hx
   · rename_i c
     cases hx
     exact ⟨⟨l1, by have := h.hi; omega, hy⟩, l2, c.1, c.2, by rw [c.2]; exact l3, by rw [c.2]; exact l4⟩
   · cases hx
 · cases hx
def folS (P : List (Int × List Int)) (r : Rc) (t : Int) : List Value := match followP P r t with | some x => spC x.1 x.2 | none => spC 0 rc0
def folE (P : List (Int × List Int)) (r : Rc) (t : Int) : Int := match followP P r t with | some x => 0 | none => 4
theorem follow_no (w : World) (base : Nat) (S : Sto) (P : List (Int × List Int)) (b : Nat) (h : Ls w base S P b) (hb : b <= 1000000000000000000) (q : Int) (r : Rc) (hst : Stands P q r) (t : Int) (h1 : 1 <= t) (h2 : t < numR r.v r.f) (hy : lookP P (linkP r t).1 = none) :
   Calls Tryz.prog 103 #[.pointer (some ⟨S.st, 0, none⟩), .agg (spC q r).toArray, .int .i64 t] w (LookP w base S P b (spC 0 rc0) 4) := by
 obtain ⟨l1, l2, l3, l4⟩ := hst.link h1 h2
 have hhi := hst.hi
 have L1 := ((Lc.start h).alloc (spC q r) 91).alloc (spC 0 rc0) 91
 have KL := hid (fun w1 => spLink_any w1 q r hst.ok hst.right.1 t)
 have KK := hid (fun (w1 : World) (S1 : Sto) (hl : Ls w1 base S1 P b) => look_any w1 base S1 P b hl hb (linkP r t).1 ⟨l1, by omega⟩)
 have HST := hid hst
 obtain ⟨Y, hY⟩ : ∃ Y, spC 0 rc0 = Y := ⟨_, rfl⟩
 have EV := hid (show lookS P (linkP r t).1 = Y by unfold lookS; rw [hy]; exact hY)
 have EE := hid (show lookE P (linkP r t).1 = 4 by unfold lookE; rw [hy])
 have LY := hid (show Y.length = 39 by rw [<- hY]; exact spC_len 0 rc0_ok)
 have OY := hid (show ∀ y ∈ Y, y.oneCell' = true by rw [<- hY]; exact spC_one 0 rc0)
 clear hY hy
 have hNQ := hid (show (Tryz.prog.info? 91).map (·.size) = some (spC q r).toArray.size by rw [Tryz.sizeSp, List.size_toArray, spC_len q HST.out.ok])
 have BS := hid built_sp0
 have hN := hid (show (Tryz.prog.info? 91).map (·.size) = some (spC 0 rc0).toArray.size by kernel_rfl)
 have hO := hid (all_oneCell_toArray (spC_one 0 rc0))
 have AL := hid (fun (w : World) (ops : Array Oper) (rest : List Oper) (o : Oper) (a : Act) (Q : Exit -> Act -> World -> Prop) => @wpList_allocSp w ops rest o a Q)
 have AS2 := hid allocSp
 have LC := hid (spC_len 0 rc0_ok)
 have QF := hid (show (spC q r)[2]? = some (.int .i64 r.f) from rfl)
 have HST2 := hid (show S.st = S.st from rfl)
 generalize spC 0 rc0 = C at *
 generalize spC q r = A at *
 generalize (linkP r t).1 = lp at *
 generalize (linkP r t).2 = ln at *
 generalize r.f = rf at *
 have e1 : (w.alloc (.cells A.toArray 91)).heap.size = w.heap.size + 1 := by simp
 rw [e1] at L1
 obtain ⟨G, hG⟩ : ∃ G, G = w.heap.size + 1 := ⟨_, rfl⟩
 rw [<- hG] at L1
 have HL1 := hid L1
 have R1 := hid (L1.row (List.mem_cons_of_mem _ List.mem_cons_self))
 have HG := hid hG
 clear h hst hhi l1 l2 l3 l4 h1 h2 e1 L1 hG HST
 go_enter Tryz.func103, Tryz.ntmps103
 go_wp2_with (first | refine AL.out _ _ _ _ _ _ rfl rfl ?_ | refine wpList_load_row_w (by rfl) 91 _ (by rfl) _ (by rfl) 91 _ _ _ R1.out Tryz.underlying91 rfl hNQ.out ?_)
 refine (KL.out _).mono ?_
 rintro e w2 ⟨rfl, hb2⟩
 have HL2 := hid (HL1.out.call hb2)
 clear hb2 HL1 R1 KL
 rw [<- HG.out]
 go_wp2_with fail
 refine (KK.out w2 S HL2.out.ls).mono ?_
 rintro e w3 ⟨S3, rfl, hl3, hs3⟩
 have HL3 := hid (HL2.out.store hl3 hs3)
 clear hl3 hs3 HL2 KK
 rw [EV.out, EE.out]
 go_wp2_with (first
   | (refine wpList_new AS2.out LC.out Tryz.sizeSp rfl rfl rfl _ _ rfl rfl Y rfl rfl LY.out OY.out ?_; refine Hid.out ?_))
 refine hid ?_
 have HL4 := hid (HL3.out.alloc Y 91)
 have hg4 : G < w3.heap.size := HL3.out.lt List.mem_cons_self
 have hg5 : G ≠ w3.heap.size := Nat.ne_of_lt hg4
 clear hg4
 have HL9 := hid (HL4.out.sub (L1 := [(G, C, 91)]) (fun x q => by simp at q; simp [q]))
 clear HL3 HL4
 have r9 := HL9.out.row List.mem_cons_self
 go_upto_region 4 with fail
 go_wp2_with (first
   | refine wpList_built (by rfl) 91 _ rfl _ rfl _ BS.out ?_
   | refine wpList_store_row (by rfl) 91 (.tmp 6) (.tmp 26) (by rfl) G C.toArray (by rfl) (by rfl) 91 C.toArray (by exact r9) hN.out rfl hO.out ?_)
 have L5 := HL9.out.set List.mem_cons_self C [] (fun x q => by cases q)
 refine bodyPost_ret (v := .tuple #[.agg C.toArray, .int .i64 4]) (results_c2 Tryz.results103 _ _ G 91 _ _ _ rfl (L5.row List.mem_cons_self) Tryz.underlying91 rfl hN.out) rfl ⟨_, rfl, L5.ls, L5.sp⟩
theorem follow_first (w : World) (base : Nat) (S : Sto) (P : List (Int × List Int)) (b : Nat) (h : Ls w base S P b) (hb : b <= 1000000000000000000) (q : Int) (r : Rc) (hst : Stands P q r) (t : Int) (h1 : 1 <= t) (h2 : t < numR r.v r.f) (y : Rc) (hy : lookP P (linkP r t).1 = some y) (hx : y.f ≠ r.f) :
   Calls Tryz.prog 103 #[.pointer (some ⟨S.st, 0, none⟩), .agg (spC q r).toArray, .int .i64 t] w (LookP w base S P b (spC 0 rc0) 4) := by
 obtain ⟨l1, l2, l3, l4⟩ := hst.link h1 h2
 have hhi := hst.hi
 have L1 := ((Lc.start h).alloc (spC q r) 91).alloc (spC 0 rc0) 91
 have KL := hid (fun w1 => spLink_any w1 q r hst.ok hst.right.1 t)
 have KK := hid (fun (w1 : World) (S1 : Sto) (hl : Ls w1 base S1 P b) => look_any w1 base S1 P b hl hb (linkP r t).1 ⟨l1, by omega⟩)
 have HST := hid hst
 have oky := (lookP_some hy).2.1
 have EV := hid (show lookS P (linkP r t).1 = spC (linkP r t).1 y by unfold lookS; rw [hy])
 have EE := hid (show lookE P (linkP r t).1 = 0 by unfold lookE; rw [hy])
 have LY := hid (spC_len (linkP r t).1 oky)
 have OY := hid (spC_one (linkP r t).1 y)
 have YF := hid (show (spC (linkP r t).1 y)[2]? = some (.int .i64 y.f) from rfl)
 have KN := hid (fun w1 => spNumber_any w1 (linkP r t).1 y oky (lookP_some hy).1.1)
 have hNY := hid (show (Tryz.prog.info? 91).map (·.size) = some (spC (linkP r t).1 y).toArray.size by rw [Tryz.sizeSp, List.size_toArray, spC_len _ oky])
 have hYC := hid (show (spC 0 rc0).toArray.size = (spC (linkP r t).1 y).toArray.size by rw [List.size_toArray, List.size_toArray, spC_len _ oky, spC_len 0 rc0_ok])
 generalize spC (linkP r t).1 y = Y at *
 clear hy oky
 generalize y.f = yf at *
 have hx1 : (yf != r.f) = true := by simpa using hx
 clear hx
 have hNQ := hid (show (Tryz.prog.info? 91).map (·.size) = some (spC q r).toArray.size by rw [Tryz.sizeSp, List.size_toArray, spC_len q HST.out.ok])
 have BS := hid built_sp0
 have hN := hid (show (Tryz.prog.info? 91).map (·.size) = some (spC 0 rc0).toArray.size by kernel_rfl)
 have hO := hid (all_oneCell_toArray (spC_one 0 rc0))
 have AL := hid (fun (w : World) (ops : Array Oper) (rest : List Oper) (o : Oper) (a : Act) (Q : Exit -> Act -> World -> Prop) => @wpList_allocSp w ops rest o a Q)
 have AS2 := hid allocSp
 have LC := hid (spC_len 0 rc0_ok)
 have QF := hid (show (spC q r)[2]? = some (.int .i64 r.f) from rfl)
 have HST2 := hid (show S.st = S.st from rfl)
 generalize spC 0 rc0 = C at *
 generalize spC q r = A at *
 generalize (linkP r t).1 = lp at *
 generalize (linkP r t).2 = ln at *
 generalize r.f = rf at *
 have e1 : (w.alloc (.cells A.toArray 91)).heap.size = w.heap.size + 1 := by simp
 rw [e1] at L1
 obtain ⟨G, hG⟩ : ∃ G, G = w.heap.size + 1 := ⟨_, rfl⟩
 rw [<- hG] at L1
 have HL1 := hid L1
 have R1 := hid (L1.row (List.mem_cons_of_mem _ List.mem_cons_self))
 have HG := hid hG
 clear h hst hhi l1 l2 l3 l4 h1 h2 e1 L1 hG HST
 go_enter Tryz.func103, Tryz.ntmps103
 go_wp2_with (first | refine AL.out _ _ _ _ _ _ rfl rfl ?_ | refine wpList_load_row_w (by rfl) 91 _ (by rfl) _ (by rfl) 91 _ _ _ R1.out Tryz.underlying91 rfl hNQ.out ?_)
 refine (KL.out _).mono ?_
 rintro e w2 ⟨rfl, hb2⟩
 have HL2 := hid (HL1.out.call hb2)
 clear hb2 HL1 R1 KL
 rw [<- HG.out]
 go_wp2_with fail
 refine (KK.out w2 S HL2.out.ls).mono ?_
 rintro e w3 ⟨S3, rfl, hl3, hs3⟩
 have HL3 := hid (HL2.out.store hl3 hs3)
 clear hl3 hs3 HL2 KK
 rw [EV.out, EE.out]
 go_wp2_with (first
   | (refine wpList_new AS2.out LC.out Tryz.sizeSp rfl rfl rfl _ _ rfl rfl Y rfl rfl LY.out OY.out ?_; refine Hid.out ?_))
 refine hid ?_
 have HL4 := hid (HL3.out.alloc Y 91)
 have hg4 : G < w3.heap.size := HL3.out.lt List.mem_cons_self
 have hg5 : G ≠ w3.heap.size := Nat.ne_of_lt hg4
 clear hg4
 have c2 := HL4.out.cell List.mem_cons_self YF.out
 have c3 := HL4.out.cell (List.mem_cons_of_mem _ (List.mem_cons_of_mem _ List.mem_cons_self)) QF.out
 have HL9 := hid (HL4.out.sub (L1 := [(G, C, 91)]) (fun x q => by simp at q; simp [q]))
 clear HL3 HL4
 have r9 := HL9.out.row List.mem_cons_self
 go_upto_region 6 with fail
 go_wp2_with (first
   | refine wpList_built (by rfl) 91 _ rfl _ rfl _ BS.out ?_
   | refine wpList_store_row (by rfl) 91 (.tmp 6) (.tmp 41) (by rfl) G C.toArray (by rfl) (by rfl) 91 C.toArray (by exact r9) hN.out rfl hO.out ?_)
 have L5 := HL9.out.set List.mem_cons_self C [] (fun x q => by cases q)
 refine bodyPost_ret (v := .tuple #[.agg C.toArray, .int .i64 4]) (results_c2 Tryz.results103 _ _ G 91 _ _ _ rfl (L5.row List.mem_cons_self) Tryz.underlying91 rfl hN.out) rfl ⟨_, rfl, L5.ls, L5.sp⟩
theorem follow_number (w : World) (base : Nat) (S : Sto) (P : List (Int × List Int)) (b : Nat) (h : Ls w base S P b) (hb : b <= 1000000000000000000) (q : Int) (r : Rc) (hst : Stands P q r) (t : Int) (h1 : 1 <= t) (h2 : t < numR r.v r.f) (y : Rc) (hy : lookP P (linkP r t).1 = some y) (hx : y.f = r.f) (hz : numR y.v y.f ≠ (linkP r t).2) :
   Calls Tryz.prog 103 #[.pointer (some ⟨S.st, 0, none⟩), .agg (spC q r).toArray, .int .i64 t] w (LookP w base S P b (spC 0 rc0) 4) := by
 obtain ⟨l1, l2, l3, l4⟩ := hst.link h1 h2
 have hhi := hst.hi
 have L1 := ((Lc.start h).alloc (spC q r) 91).alloc (spC 0 rc0) 91
 have KL := hid (fun w1 => spLink_any w1 q r hst.ok hst.right.1 t)
 have KK := hid (fun (w1 : World) (S1 : Sto) (hl : Ls w1 base S1 P b) => look_any w1 base S1 P b hl hb (linkP r t).1 ⟨l1, by omega⟩)
 have HST := hid hst
 have oky := (lookP_some hy).2.1
 have EV := hid (show lookS P (linkP r t).1 = spC (linkP r t).1 y by unfold lookS; rw [hy])
 have EE := hid (show lookE P (linkP r t).1 = 0 by unfold lookE; rw [hy])
 have LY := hid (spC_len (linkP r t).1 oky)
 have OY := hid (spC_one (linkP r t).1 y)
 have YF := hid (show (spC (linkP r t).1 y)[2]? = some (.int .i64 y.f) from rfl)
 have KN := hid (fun w1 => spNumber_any w1 (linkP r t).1 y oky (lookP_some hy).1.1)
 have hNY := hid (show (Tryz.prog.info? 91).map (·.size) = some (spC (linkP r t).1 y).toArray.size by rw [Tryz.sizeSp, List.size_toArray, spC_len _ oky])
 have hYC := hid (show (spC 0 rc0).toArray.size = (spC (linkP r t).1 y).toArray.size by rw [List.size_toArray, List.size_toArray, spC_len _ oky, spC_len 0 rc0_ok])
 generalize spC (linkP r t).1 y = Y at *
 clear hy oky
 generalize numR y.v y.f = yn at *
 rw [hx] at YF
 have hz1 : (yn != (linkP r t).2) = true := by simpa using hz
 clear hz hx
 have hNQ := hid (show (Tryz.prog.info? 91).map (·.size) = some (spC q r).toArray.size by rw [Tryz.sizeSp, List.size_toArray, spC_len q HST.out.ok])
 have BS := hid built_sp0
 have hN := hid (show (Tryz.prog.info? 91).map (·.size) = some (spC 0 rc0).toArray.size by kernel_rfl)
 have hO := hid (all_oneCell_toArray (spC_one 0 rc0))
 have AL := hid (fun (w : World) (ops : Array Oper) (rest : List Oper) (o : Oper) (a : Act) (Q : Exit -> Act -> World -> Prop) => @wpList_allocSp w ops rest o a Q)
 have AS2 := hid allocSp
 have LC := hid (spC_len 0 rc0_ok)
 have QF := hid (show (spC q r)[2]? = some (.int .i64 r.f) from rfl)
 have HST2 := hid (show S.st = S.st from rfl)
 generalize spC 0 rc0 = C at *
 generalize spC q r = A at *
 generalize (linkP r t).1 = lp at *
 generalize (linkP r t).2 = ln at *
 generalize r.f = rf at *
 have e1 : (w.alloc (.cells A.toArray 91)).heap.size = w.heap.size + 1 := by simp
 rw [e1] at L1
 obtain ⟨G, hG⟩ : ∃ G, G = w.heap.size + 1 := ⟨_, rfl⟩
 rw [<- hG] at L1
 have HL1 := hid L1
 have R1 := hid (L1.row (List.mem_cons_of_mem _ List.mem_cons_self))
 have HG := hid hG
 clear h hst hhi l1 l2 l3 l4 h1 h2 e1 L1 hG HST
 go_enter Tryz.func103, Tryz.ntmps103
 go_wp2_with (first | refine AL.out _ _ _ _ _ _ rfl rfl ?_ | refine wpList_load_row_w (by rfl) 91 _ (by rfl) _ (by rfl) 91 _ _ _ R1.out Tryz.underlying91 rfl hNQ.out ?_)
 refine (KL.out _).mono ?_
 rintro e w2 ⟨rfl, hb2⟩
 have HL2 := hid (HL1.out.call hb2)
 clear hb2 HL1 R1 KL
 rw [<- HG.out]
 go_wp2_with fail
 refine (KK.out w2 S HL2.out.ls).mono ?_
 rintro e w3 ⟨S3, rfl, hl3, hs3⟩
 have HL3 := hid (HL2.out.store hl3 hs3)
 clear hl3 hs3 HL2 KK
 rw [EV.out, EE.out]
 go_wp2_with (first
   | (refine wpList_new AS2.out LC.out Tryz.sizeSp rfl rfl rfl _ _ rfl rfl Y rfl rfl LY.out OY.out ?_; refine Hid.out ?_))
 refine hid ?_
 have HL4 := hid (HL3.out.alloc Y 91)
 have hg4 : G < w3.heap.size := HL3.out.lt List.mem_cons_self
 have hg5 : G ≠ w3.heap.size := Nat.ne_of_lt hg4
 clear hg4
 have c2 := HL4.out.cell List.mem_cons_self YF.out
 have c3 := HL4.out.cell (List.mem_cons_of_mem _ (List.mem_cons_of_mem _ List.mem_cons_self)) QF.out
 have R4 := hid (HL4.out.row List.mem_cons_self)
 clear HL3
 go_wp2_with (first | refine wpList_load_row_w (by rfl) 91 (.tmp 10) (by rfl) _ (by rfl) 91 _ _ _ R4.out Tryz.underlying91 rfl hNY.out ?_)
 refine (KN.out _).mono ?_
 rintro e w5 ⟨rfl, hb5⟩
 have HL5 := hid (HL4.out.call hb5)
 have hg6 : w3.heap.size < w5.heap.size := HL5.out.lt List.mem_cons_self
 clear hb5 HL4 R4 c2 c3
 have HL9 := hid (HL5.out.sub (L1 := [(G, C, 91)]) (fun x q => by simp at q; simp [q]))
 clear HL5
 have r9 := HL9.out.row List.mem_cons_self
 go_upto_region 6 with fail
 go_wp2_with (first
   | refine wpList_built (by rfl) 91 _ rfl _ rfl _ BS.out ?_
   | refine wpList_store_row (by rfl) 91 (.tmp 6) (.tmp 41) (by rfl) G C.toArray (by rfl) (by rfl) 91 C.toArray (by exact r9) hN.out rfl hO.out ?_)
 have L5 := HL9.out.set List.mem_cons_self C [] (fun x q => by cases q)
 refine bodyPost_ret (v := .tuple #[.agg C.toArray, .int .i64 4]) (results_c2 Tryz.results103 _ _ G 91 _ _ _ rfl (L5.row List.mem_cons_self) Tryz.underlying91 rfl hN.out) rfl ⟨_, rfl, L5.ls, L5.sp⟩
theorem follow_yes (w : World) (base : Nat) (S : Sto) (P : List (Int × List Int)) (b : Nat) (h : Ls w base S P b) (hb : b <= 1000000000000000000) (q : Int) (r : Rc) (hst : Stands P q r) (t : Int) (h1 : 1 <= t) (h2 : t < numR r.v r.f) (y : Rc) (hy : lookP P (linkP r t).1 = some y) (hx : y.f = r.f) (hz : numR y.v y.f = (linkP r t).2) :
   Calls Tryz.prog 103 #[.pointer (some ⟨S.st, 0, none⟩), .agg (spC q r).toArray, .int .i64 t] w (LookP w base S P b (spC (linkP r t).1 y) 0) := by
 obtain ⟨l1, l2, l3, l4⟩ := hst.link h1 h2
 have hhi := hst.hi
 have L1 := ((Lc.start h).alloc (spC q r) 91).alloc (spC 0 rc0) 91
 have KL := hid (fun w1 => spLink_any w1 q r hst.ok hst.right.1 t)
 have KK := hid (fun (w1 : World) (S1 : Sto) (hl : Ls w1 base S1 P b) => look_any w1 base S1 P b hl hb (linkP r t).1 ⟨l1, by omega⟩)
 have HST := hid hst
 have oky := (lookP_some hy).2.1
 have EV := hid (show lookS P (linkP r t).1 = spC (linkP r t).1 y by unfold lookS; rw [hy])
 have EE := hid (show lookE P (linkP r t).1 = 0 by unfold lookE; rw [hy])
 have LY := hid (spC_len (linkP r t).1 oky)
 have OY := hid (spC_one (linkP r t).1 y)
 have YF := hid (show (spC (linkP r t).1 y)[2]? = some (.int .i64 y.f) from rfl)
 have KN := hid (fun w1 => spNumber_any w1 (linkP r t).1 y oky (lookP_some hy).1.1)
 have hNY := hid (show (Tryz.prog.info? 91).map (·.size) = some (spC (linkP r t).1 y).toArray.size by rw [Tryz.sizeSp, List.size_toArray, spC_len _ oky])
 have hYC := hid (show (spC 0 rc0).toArray.size = (spC (linkP r t).1 y).toArray.size by rw [List.size_toArray, List.size_toArray, spC_len _ oky, spC_len 0 rc0_ok])
 generalize spC (linkP r t).1 y = Y at *
 clear hy oky
 have hz1 : numR y.v y.f = (linkP r t).2 := hz
 rw [hz] at KN
 rw [hx] at YF
 clear hz hx hz1
 have hNQ := hid (show (Tryz.prog.info? 91).map (·.size) = some (spC q r).toArray.size by rw [Tryz.sizeSp, List.size_toArray, spC_len q HST.out.ok])
 have BS := hid built_sp0
 have hN := hid (show (Tryz.prog.info? 91).map (·.size) = some (spC 0 rc0).toArray.size by kernel_rfl)
 have hO := hid (all_oneCell_toArray (spC_one 0 rc0))
 have AL := hid (fun (w : World) (ops : Array Oper) (rest : List Oper) (o : Oper) (a : Act) (Q : Exit -> Act -> World -> Prop) => @wpList_allocSp w ops rest o a Q)
 have AS2 := hid allocSp
 have LC := hid (spC_len 0 rc0_ok)
 have QF := hid (show (spC q r)[2]? = some (.int .i64 r.f) from rfl)
 have HST2 := hid (show S.st = S.st from rfl)
 generalize spC 0 rc0 = C at *
 generalize spC q r = A at *
 generalize (linkP r t).1 = lp at *
 generalize (linkP r t).2 = ln at *
 generalize r.f = rf at *
 have e1 : (w.alloc (.cells A.toArray 91)).heap.size = w.heap.size + 1 := by simp
 rw [e1] at L1
 obtain ⟨G, hG⟩ : ∃ G, G = w.heap.size + 1 := ⟨_, rfl⟩
 rw [<- hG] at L1
 have HL1 := hid L1
 have R1 := hid (L1.row (List.mem_cons_of_mem _ List.mem_cons_self))
 have HG := hid hG
 clear h hst hhi l1 l2 l3 l4 h1 h2 e1 L1 hG HST
 go_enter Tryz.func103, Tryz.ntmps103
 go_wp2_with (first | refine AL.out _ _ _ _ _ _ rfl rfl ?_ | refine wpList_load_row_w (by rfl) 91 _ (by rfl) _ (by rfl) 91 _ _ _ R1.out Tryz.underlying91 rfl hNQ.out ?_)
 refine (KL.out _).mono ?_
 rintro e w2 ⟨rfl, hb2⟩
 have HL2 := hid (HL1.out.call hb2)
 clear hb2 HL1 R1 KL
 rw [<- HG.out]
 go_wp2_with fail
 refine (KK.out w2 S HL2.out.ls).mono ?_
 rintro e w3 ⟨S3, rfl, hl3, hs3⟩
 have HL3 := hid (HL2.out.store hl3 hs3)
 clear hl3 hs3 HL2 KK
 rw [EV.out, EE.out]
 go_wp2_with (first
   | (refine wpList_new AS2.out LC.out Tryz.sizeSp rfl rfl rfl _ _ rfl rfl Y rfl rfl LY.out OY.out ?_; refine Hid.out ?_))
 refine hid ?_
 have HL4 := hid (HL3.out.alloc Y 91)
 have hg4 : G < w3.heap.size := HL3.out.lt List.mem_cons_self
 have hg5 : G ≠ w3.heap.size := Nat.ne_of_lt hg4
 clear hg4
 have c2 := HL4.out.cell List.mem_cons_self YF.out
 have c3 := HL4.out.cell (List.mem_cons_of_mem _ (List.mem_cons_of_mem _ List.mem_cons_self)) QF.out
 have R4 := hid (HL4.out.row List.mem_cons_self)
 clear HL3
 go_wp2_with (first | refine wpList_load_row_w (by rfl) 91 (.tmp 10) (by rfl) _ (by rfl) 91 _ _ _ R4.out Tryz.underlying91 rfl hNY.out ?_)
 refine (KN.out _).mono ?_
 rintro e w5 ⟨rfl, hb5⟩
 have HL5 := hid (HL4.out.call hb5)
 have hg6 : w3.heap.size < w5.heap.size := HL5.out.lt List.mem_cons_self
 clear hb5 HL4 R4 c2 c3
 have R5 := hid (HL5.out.row List.mem_cons_self)
 have r9 := HL5.out.row (List.mem_cons_of_mem _ List.mem_cons_self)
 go_upto_region 7 with fail
 go_wp2_with (first
   | refine wpList_load_row_w (by rfl) 91 (.tmp 10) (by rfl) _ (by rfl) 91 _ _ _ R5.out Tryz.underlying91 rfl hNY.out ?_
   | refine wpList_store_row (by rfl) 91 (.tmp 6) (.tmp 42) (by rfl) G Y.toArray (by rfl) (by rfl) 91 C.toArray (by exact r9) hNY.out hYC.out (all_oneCell_toArray OY.out) ?_)
 have L5 := HL5.out.set (List.mem_cons_of_mem _ List.mem_cons_self) Y [] (fun x q => by cases q)
 refine bodyPost_ret (v := .tuple #[.agg Y.toArray, .int .i64 0]) (results_c2 Tryz.results103 _ _ G 91 _ _ _ rfl (L5.row List.mem_cons_self) Tryz.underlying91 rfl hNY.out) rfl ⟨_, rfl, L5.ls, L5.sp⟩
theorem follow_any (w : World) (base : Nat) (S : Sto) (P : List (Int × List Int)) (b : Nat) (h : Ls w base S P b) (hb : b <= 1000000000000000000) (q : Int) (r : Rc) (hst : Stands P q r) (t : Int) (h1 : 1 <= t) (h2 : t < numR r.v r.f) :
   Calls Tryz.prog 103 #[.pointer (some ⟨S.st, 0, none⟩), .agg (spC q r).toArray, .int .i64 t] w (LookP w base S P b (folS P r t) (folE P r t)) := by
 unfold folS folE
 cases hy : lookP P (linkP r t).1 with
 | none => rw [show followP P r t = none by unfold followP; rw [hy]]; exact follow_no w base S P b h hb q r hst t h1 h2 hy
 | some y =>
   by_cases hx : y.f = r.f
   · by_cases hz : numR y.v y.f = (linkP r t).2
     · rw [show followP P r t = some ((linkP r t).1, y) by unfold followP; rw [hy]; exact if_pos ⟨hx, hz⟩]; exact follow_yes w base S P b h hb q r hst t h1 h2 y hy hx hz
     · rw [show followP P r t = none by unfold followP; rw [hy]; exact if_neg (fun z => hz z.2)]; exact follow_number w base S P b h hb q r hst t h1 h2 y hy hx hz
   · rw [show followP P r t = none by unfold followP; rw [hy]; exact if_neg (fun z => hx z.1)]; exact follow_first w base S P b h hb q r hst t h1 h2 y hy hx
end Go.Proofs.YtbnghhgeoodphaaGreatDoor
