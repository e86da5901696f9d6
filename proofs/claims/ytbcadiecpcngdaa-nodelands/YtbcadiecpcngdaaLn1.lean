import Derived.Test.YtbcadiecpcngdaaG18
import Derived.Test.YtbcadiecpcngdaaMr9
namespace Go.Proofs.Ytbcadiecpcngdaa
set_option linter.unusedVariables false
set_option linter.unusedSimpArgs false
open Go.RowKit
attribute [local go_sem ↓] Go.wp_at_zero Go.wp_at_succ

def bk0 : Bk := ⟨[], [], 2, 1, 0, 0, 0⟩
theorem fresh_lv {D1 D0 : DS} {n : Nat} {wd : Int} (hw : 1 ≤ wd ∧ wd ≤ 32) (hn : n ≤ 96) (hFm : Fm D1 { D0 with reads := D0.reads + 2 } wd) (hnp : D1.np = n) (h0 : D0.np = n) (hz : D0.reads = 0 ∧ D0.writes = 0 ∧ D0.syncs = 0 ∧ D0.epoch = 0 ∧ D0.armed = 0) (hok : DsOk { D1 with reads := D1.reads + 2, epoch := D1.epoch + 1 }) :
    Lv { D1 with reads := D1.reads + 2, epoch := D1.epoch + 1 } (fS n wd 1) 2 (0 + 1) bk0 n 0 ∧ D1.armed = 0 := by
  have h3 := hFm.ok.np
  have hg := hFm.good hw
  rw [show ({ D0 with reads := D0.reads + 2 } : DS).np = D0.np from rfl, h0] at hg
  have hv := fS_valid (g := 1) (wd := wd) (n := n) (by omega) (by omega) hw ⟨by omega, by omega⟩
  refine ⟨⟨hok, hnp, hn, hFm.pw, ?_, rfl, hv, ⟨_, hg⟩, by show (1 : Int) ≤ _; omega, ⟨rfl, rfl, rfl, rfl⟩, ⟨by show (2 : Int) ≤ _; omega, by omega⟩, ?_, ⟨rfl, Nat.le_refl _, Nat.zero_le _⟩, fun q h2 hq => by omega, ?_⟩, ?_⟩
  · show D1.epoch + 1 = 0 + 1; rw [hFm.epoch]; show D0.epoch + 1 = _; rw [hz.2.2.2.1]
  · intro o ho; change o ∈ D1.ops at ho; rw [hFm.ops] at ho; cases ho
  · refine ⟨?_, ?_, ?_, ?_, ?_⟩
    · show D1.ops.length ≤ _; rw [hFm.ops]; simp
    · show D1.reads + 2 ≤ _; rw [hFm.reads]; show D0.reads + 2 + 2 ≤ _; rw [hz.1]; decide
    · show D1.writes ≤ _; rw [hFm.writes]; show D0.writes + 2 ≤ _; rw [hz.2.1]; decide
    · show D1.syncs ≤ _; rw [hFm.syncs]; show D0.syncs + 2 ≤ _; rw [hz.2.2.1]; decide
    · show D1.epoch + 1 ≤ _; rw [hFm.epoch]; show D0.epoch + 1 ≤ _; rw [hz.2.2.2.1]; decide
  · rw [hFm.arm]; show (if D0.armed = 0 then (0 : Int) else _) = 0; rw [if_pos hz.2.2.2.2]
/-! Lists of numbers that a call makes. -/
def nats (l : List Nat) : List Value := l.map fun (x : Nat) => Value.int .i64 (x : Int)
theorem nats_len (l : List Nat) : (nats l).length = l.length := by simp [nats]
theorem nats_get (l : List Nat) (j : Nat) (hj : j < l.length) : (nats l)[j]? = some (.int .i64 (l.getD j 0 : Nat)) := by
  simp [nats, List.getElem?_eq_getElem hj, List.getD_eq_getElem?_getD]
def OwnN (w : World) (base : Nat) (v : Value) (l : List Nat) : Prop := w.ownsRow base 3 1 v l.length (nats l)
theorem OwnN.nil (w : World) (base : Nat) : OwnN w base (.slice none 0 0) [] := ownsRow_none _ _ _ _
theorem OwnN.heap {w w1 : World} {base : Nat} {v : Value} {l : List Nat} (h : OwnN w base v l) (hk : ∀ i, v.ownBlock = some i → w1.heap[i]? = w.heap[i]?) : OwnN w1 base v l := ownsRow_heap h hk
theorem OwnN.below {w w1 : World} {base : Nat} {v : Value} {l : List Nat} (h : OwnN w base v l) (hb : Below w.heap.size w w1) : OwnN w1 base v l := h.heap fun i e => by
  obtain ⟨_, cur, hh⟩ := ownsRow_block h i e; exact hb.block i (hlt hh)
theorem OwnN.form {w : World} {base : Nat} {v : Value} {l : List Nat} (h : OwnN w base v l) : ∃ sp cap, v = .slice sp l.length cap := ownsRow_form h
theorem OwnN.at {w : World} {base : Nat} {v : Value} {l : List Nat} (h : OwnN w base v l) (j : Nat) (hj : j < l.length) : ∃ g cap, v = .slice (some ⟨g, 0, none⟩) l.length cap ∧ w.cell? ⟨g, j, none⟩ = some (.int .i64 (l.getD j 0 : Nat)) ∧ v.ownBlock = some g := by
  rcases h.2 with ⟨_, h0⟩ | ⟨g, cap, cur, e, hg, hh, hc, hm, hs, ht⟩
  · omega
  · refine ⟨g, cap, e, ?_, by rw [e]; rfl⟩
    have := nats_get l j hj
    rw [← ht, List.getElem?_take, if_pos (by omega)] at this
    rw [cell_of_row _ _ _ _ _ _ hh, ← this]
    simp
theorem info3m : (Try.prog.info? 3).map (fun i => (i.zero, i.size, i.bytes)) = some (some (.int .i64 0), 1, 8) := by kernel_rfl
theorem info3 : ∃ i, Try.prog.info? 3 = some i ∧ i.zero = some (.int .i64 0) ∧ i.size = 1 ∧ i.bytes = 8 := by
  have h := info3m
  cases hq : Try.prog.info? 3 with
  | none => rw [hq] at h; cases h
  | some i =>
    rw [hq] at h
    simp only [Option.map_some, Option.some.injEq, Prod.mk.injEq] at h
    exact ⟨i, rfl, h.1, h.2.1, h.2.2⟩
theorem wpList_pushN {w : World} {ops : Array Oper} {rest : List Oper} {o : Oper} {a : Act} {Q : Exit → Act → World → Prop} (hgd : o.guard = none) (s x : Operand)
    (ho : o.op = .call { callee := .builtin .append, args := #[s, x], argTypes := #[32, 32] })
    (base : Nat) (v : Value) (l : List Nat) (y : Nat) (hs : a.eval s = v) (hown : OwnN w base v l) (hx : a.eval x = .slice (some ⟨w.heap.size, 0, none⟩) 1 1)
    (hlen : l.length + 1 ≤ 17592186044416) (hbase : base ≤ w.heap.size) (t : TypeId) (fr : Nat × Nat)
    (h : ∀ v' w', OwnN w' base v' (l ++ [y]) → Below base w w' → (∀ k, k < w.heap.size → v.ownBlock ≠ some k → w'.heap[k]? = w.heap[k]?) → (v'.ownBlock = v.ownBlock ∨ ∃ k, v'.ownBlock = some k ∧ w.heap.size ≤ k) → wpList Try.prog ops Q rest (a.put o.dst v') w') :
    wpList Try.prog ops Q (o :: rest) a (w.alloc (.cells #[.int .i64 y] t fr)) := by
  obtain ⟨i5, hi5, hz5, hs5, hy5⟩ := info3
  have hown' : OwnN (w.alloc (.cells #[.int .i64 y] t fr)) base v l := hown.below ((Below.refl w.heap.size w).alloc (Nat.le_refl _) _)
  refine wpList_append_own_at _ hgd s x 32 ho base 3 i5 (.int .i64 0) 1 8 Try.underlying32 hi5 hz5 hs5 hy5 rfl (by decide) v l.length (nats l) hs hown' ⟨w.heap.size, 0, none⟩ 1 1 (nats [y]) hx rfl ?_ (by intro z hz; simp [nats] at hz; subst hz; rfl) (by unfold maxLen; omega) (by omega) (by simp; omega) ?_
  · intro j u hu
    have hj : j = 0 := by
      have := (List.getElem?_eq_some_iff.1 hu).1
      simp [nats] at this; exact this
    subst hj
    rw [show (⟨w.heap.size, 0, none⟩ : Addr).add 0 = ⟨w.heap.size, 0, none⟩ from rfl, cell_of_row _ _ _ _ _ _ (hnew w _)]
    simpa [nats] using hu
  · intro v' w' h1 h2 _ h4
    have hB1 : Below base w (w.alloc (.cells #[.int .i64 y] t fr)) := (Below.refl _ _).alloc hbase _
    refine h v' w' (by unfold OwnN; rw [List.length_append]; simpa [nats] using h1) (hB1.trans (grown_keeps h2 (fun k hk => (ownsRow_block hown k hk).1) (by simp; omega))) (fun k hk hne => ?_) ?_
    · rw [h2.block k (by simp; omega) (fun e => hne e.symm)]
      show (w.heap.push _)[k]? = _
      rw [Array.getElem?_push, if_neg (by omega)]
    · rcases h4 with e | e
      · exact Or.inl e
      · exact Or.inr ⟨_, e, by simp⟩
theorem Lv.slots {D : DS} {s : Sup} {nx : Nat} {ep : Int} {B : Bk} {n c : Nat} (h : Lv D s nx ep B n c) : chooseF (D.readOf 0) (D.readOf 1) = (s, 0) := by
  obtain ⟨o, hg⟩ := h.good
  obtain ⟨m, hm1, hm2, hm3⟩ := sup_ma h.val h.pg
  rw [read_page 0 (fun o ho => by have := h.opn o ho; omega), read_page 1 (fun o ho => by have := h.opn o ho; omega)]
  exact hg.choose.1
theorem Lv.fewer {E : DS} {x : Int} {s : Sup} {nx : Nat} {ep : Int} {B : Bk} {n c : Nat} (h : Lv { E with reads := E.reads + x } s nx ep B n c) (h0 : 0 ≤ E.reads) (hx : 0 ≤ x) : Lv E s nx ep B n c := by
  have hok := h.ok
  have hcn := h.cnt
  refine ⟨⟨hok.n, hok.bts, hok.ops, ⟨h0, ?_⟩, hok.writes, hok.syncs, hok.epoch, hok.armed⟩, h.np, h.small, h.pw, h.hep, h.pg, h.val, h.good, h.ge, h.bk, h.hnx, h.opn, h.len, h.pgs, ⟨hcn.1, ?_, hcn.2.2.1, hcn.2.2.2.1, hcn.2.2.2.2⟩⟩
  · have : E.reads + x ≤ _ := hok.reads.2; omega
  · have : E.reads + x ≤ _ := hcn.2.1; omega
/-- A file, and a list of numbers beside it. -/
structure LNs (w wr : World) (base p g n c : Nat) (D : DS) (s : Sup) (nx : Nat) (ep : Int) (B : Bk) (F : List Nat) (v : Value) (P : List Nat) : Prop where
  da : DA wr base F p D
  fk : FK wr g p s nx ep
  lv : Lv D s nx ep B n c
  arm : D.armed = 0
  bg : base ≤ g
  ow : OwnN wr base v P
  bl : Below base w wr
  bw : base ≤ w.heap.size
theorem OwnN.ty {w : World} {base : Nat} {v : Value} {l : List Nat} (h : OwnN w base v l) {k : Nat} (e : v.ownBlock = some k) : ∃ cur, w.heap[k]? = some (.cells cur 3 (0, 0)) := (ownsRow_block h k e).2
theorem own_notin {w : World} {base p : Nat} {F : List Nat} {D : DS} {v : Value} {l : List Nat} (h : OwnN w base v l) (hd : DA w base F p D) {k : Nat} (e : v.ownBlock = some k) : k ∉ F := by
  obtain ⟨cur, hc⟩ := h.ty e
  exact hd.not_in hc (by decide) (by decide) (by decide)
theorem own_notg {w : World} {base p g : Nat} {s : Sup} {nx ep : Int} {v : Value} {l : List Nat} (h : OwnN w base v l) (hf : FK w g p s nx ep) {k : Nat} (e : v.ownBlock = some k) : k ≠ g := by
  obtain ⟨cur, hc⟩ := h.ty e
  exact ne_ty hc hf (by decide)
theorem LNs.below {w wr w2 : World} {base p g n c : Nat} {D : DS} {s : Sup} {nx : Nat} {ep : Int} {B : Bk} {F : List Nat} {v : Value} {P : List Nat} (h : LNs w wr base p g n c D s nx ep B F v P) (hb : Below wr.heap.size wr w2) : LNs w w2 base p g n c D s nx ep B F v P :=
  ⟨h.da.below hb, h.fk.below hb, h.lv, h.arm, h.bg, h.ow.below hb, h.bl.trans (hb.mono (Nat.le_trans h.bw h.bl.size)), h.bw⟩
theorem LNs.next {w wr w2 : World} {base p g n c c' : Nat} {D D' : DS} {s s' : Sup} {nx nx' : Nat} {ep : Int} {B B' : Bk} {F : List Nat} {v : Value} {P : List Nat} (h : LNs w wr base p g n c D s nx ep B F v P) (hN : NxF base F p g wr D' s' nx' ep w2) (hl : Lv D' s' nx' ep B' n c') (ha : D'.armed = 0) : ∃ F', LNs w w2 base p g n c' D' s' nx' ep B' F' v P := by
  obtain ⟨F', hD, hK, hF, hG⟩ := hN
  refine ⟨F', hD, hK, hl, ha, h.bg, h.ow.heap fun k e => hF.block k ?_ ?_, h.bl.trans (hF.below (fun k hk => ?_) (Nat.le_trans h.bw h.bl.size)), h.bw⟩
  · obtain ⟨cur, hc⟩ := h.ow.ty e; exact hlt hc
  · intro hk
    rcases List.mem_cons.1 hk with x | x
    · exact own_notg h.ow h.fk e x
    · exact own_notin h.ow h.da e x
  · rcases List.mem_cons.1 hk with x | x
    · rw [x]; exact h.bg
    · exact (h.da.lt k x).1
theorem LNs.push {w wr w2 : World} {base p g n c : Nat} {D : DS} {s : Sup} {nx : Nat} {ep : Int} {B : Bk} {F : List Nat} {v v' : Value} {P P' : List Nat} (h : LNs w wr base p g n c D s nx ep B F v P) (q1 : OwnN w2 base v' P') (q2 : Below base wr w2) (q3 : ∀ k, k < wr.heap.size → v.ownBlock ≠ some k → w2.heap[k]? = wr.heap[k]?) : LNs w w2 base p g n c D s nx ep B F v' P' :=
  ⟨h.da.of_heap fun k hk => q3 k (h.da.lt k hk).2 (fun e => own_notin h.ow h.da e hk), (q3 g (hlt_ h.fk) (fun e => own_notg h.ow h.fk e rfl)).trans h.fk, h.lv, h.arm, h.bg, q1, h.bl.trans q2, h.bw⟩
theorem LNs.append {w wr : World} {base p g n c : Nat} {D : DS} {s : Sup} {nx : Nat} {ep : Int} {B : Bk} {F : List Nat} {v : Value} {P : List Nat} (h : LNs w wr base p g n c D s nx ep B F v P) (hlt : nx < n) (hc : c ≤ 1000) (kd : Int) (hk : kindOk kd = true) (l : List Int) (h8 : Byts l) (hl : l.length ≤ 246) (sp : Option Addr) (cap : Nat) (hS : Src wr sp cap l) :
    Calls Try.prog 9 #[.pointer (some ⟨g, 0, none⟩), .int .i64 kd, .slice sp l.length cap] wr fun e w' => e = .returned (.tuple #[.int .i64 nx, .int .i64 0]) ∧ ∃ D' F', LNs w w' base p g n (c + 1) D' s (nx + 1) ep { B with Ls := B.Ls.take (nx - 2) ++ [l], Ks := B.Ks.take (nx - 2) ++ [kd] } F' v P := by
  have ha1 : D.armed ≠ 1 := by rw [h.arm]; decide
  have hcn := h.lv.cnt
  obtain ⟨m, hm0, hm1, hm2⟩ := sup_ma h.lv.val h.lv.pg
  have hnx := h.lv.hnx
  have hL := (h.lv.append hlt hc kd hk l h8 hl ha1).1
  have hL := hL.fewer (by rw [(wr_img D ⟨nx, pageP kd nx l⟩).2.2.2.1]; exact h.lv.ok.reads.1) (by omega)
  have har : (D.wr ⟨nx, pageP kd nx l⟩).armed = 0 := by rw [(wr_arm D ⟨nx, pageP kd nx l⟩ h.lv.ok.armed.1).1, if_pos h.arm]
  refine (Append_in wr base F p D h.da (Nat.le_trans h.bw h.bl.size) g s ep nx h.fk h.lv.live ⟨by omega, by rw [h.lv.np]; exact hlt⟩ kd hk l h8 hl sp cap hS (by omega) (by omega)).mono ?_
  rintro e w' ⟨h1, _⟩
  obtain ⟨rfl, hN⟩ := h1 ha1
  exact ⟨rfl, _, h.next hN hL har⟩
theorem LNs.more {w wr : World} {base p g n c : Nat} {D : DS} {s : Sup} {nx : Nat} {ep : Int} {B : Bk} {F : List Nat} {v : Value} {P : List Nat} (h : LNs w wr base p g n c D s nx ep B F v P) : LNs w wr base p g n (c + 1) D s nx ep B F v P := ⟨h.da, h.fk, h.lv.more, h.arm, h.bg, h.ow, h.bl, h.bw⟩
theorem LNs.publish {w wr : World} {base p g n c : Nat} {D : DS} {s : Sup} {nx : Nat} {ep : Int} {B : Bk} {F : List Nat} {v : Value} {P : List Nat} (h : LNs w wr base p g n c D s nx ep B F v P) (hc : c ≤ 1000) :
    Calls Try.prog 10 #[.pointer (some ⟨g, 0, none⟩), .int .i64 0] wr fun e w' => e = .returned (.int .i64 0) ∧ ∃ D' F', LNs w w' base p g n (c + 1) D' (nextS s nx 0) nx ep { B with mrk := nx, hd := 0, gn := B.gn + 1 } F' v P := by
  have hlv := h.lv
  have hvv := (validS_iff s).1 hlv.val
  have hgv := hlv.ge
  have hcn := hlv.cnt
  obtain ⟨R, hR⟩ : ∃ R, R = runS D [.sync, .lay (nextS s nx 0) 0 0, .sync] := ⟨_, rfl⟩
  obtain ⟨hpA, hpB⟩ := hlv.publish hc 0 (Or.inl rfl) R hR
  obtain ⟨r0, ra⟩ := hpB h.arm
  have hlv2 : Lv R.1 (nextS s nx 0) nx ep { B with mrk := nx, hd := 0, gn := B.gn + 1 } n (c + 1) := by
    rcases hpA with ⟨_, x⟩ | ⟨x, _⟩
    · exact x
    · rw [r0] at x; exact absurd x (by decide)
  have hP := Publish_in wr base F p D h.da (Nat.le_trans h.bw h.bl.size) g s nx ep h.fk hlv.live 0 (Or.inl rfl) ⟨by omega, by omega⟩ (nextS s nx 0) rfl (nextS_valid hlv.val hlv.pg hlv.hnx (Or.inl rfl) (by omega)) ⟨hlv.pw, by omega, by omega, by omega⟩
  rw [← hR, r0, if_pos rfl] at hP
  refine hP.mono ?_
  rintro e w' ⟨rfl, hN⟩
  exact ⟨rfl, _, h.next hN hlv2 ra⟩
/-- Where the pages of the nodes lie. -/
def Pgn (f : Nat → Nd) (B : Bk) (nx : Nat) (P : List Nat) : Prop := ∀ j, j < P.length → (P.getD j 0 = 0 ∧ ¬ RightP (f j)) ∨ (2 ≤ P.getD j 0 ∧ P.getD j 0 < nx ∧ RightP (f j) ∧ B.Ks.getD (P.getD j 0 - 2) 0 = (f j).kd ∧ B.Ls.getD (P.getD j 0 - 2) [] = loadP (f j))
theorem getD_takeZ {α : Type} (L : List α) (m i : Nat) (x d : α) (hi : i < m) (hm : m ≤ L.length) : (L.take m ++ [x]).getD i d = L.getD i d := by
  rw [List.getD_eq_getElem?_getD, List.getD_eq_getElem?_getD, List.getElem?_append_left (by simp; omega), List.getElem?_take, if_pos hi]
theorem getD_takeL {α : Type} (L : List α) (m : Nat) (x d : α) (hm : m ≤ L.length) : (L.take m ++ [x]).getD m d = x := by
  rw [List.getD_eq_getElem?_getD, List.getElem?_append_right (by simp; omega)]
  simp [Nat.min_eq_left hm]
theorem Pgn.grow {f : Nat → Nd} {B : Bk} {nx : Nat} {P : List Nat} (h : Pgn f B nx P) (hl : nx - 2 ≤ B.Ls.length ∧ nx - 2 ≤ B.Ks.length) (kd : Int) (l : List Int) : Pgn f { B with Ls := B.Ls.take (nx - 2) ++ [l], Ks := B.Ks.take (nx - 2) ++ [kd] } (nx + 1) P := fun j hj => by
  rcases h j hj with x | ⟨h1, h2, h3, h4, h5⟩
  · exact Or.inl x
  · refine Or.inr ⟨h1, by omega, h3, ?_, ?_⟩
    · show (B.Ks.take (nx - 2) ++ [kd]).getD _ 0 = _
      rw [getD_takeZ _ _ _ _ _ (by omega) hl.2]; exact h4
    · show (B.Ls.take (nx - 2) ++ [l]).getD _ [] = _
      rw [getD_takeZ _ _ _ _ _ (by omega) hl.1]; exact h5
theorem getD_snocN (P : List Nat) (x j : Nat) : (P ++ [x]).getD j 0 = if j = P.length then x else P.getD j 0 := by
  by_cases h : j < P.length
  · rw [if_neg (by omega), List.getD_eq_getElem?_getD, List.getElem?_append_left h, List.getD_eq_getElem?_getD]
  · by_cases e : j = P.length
    · subst e; simp [List.getD_eq_getElem?_getD]
    · rw [if_neg e, List.getD_eq_getElem?_getD, List.getD_eq_getElem?_getD, List.getElem?_eq_none (by simp; omega), List.getElem?_eq_none (by omega)]
theorem Pgn.snoc {f : Nat → Nd} {B : Bk} {nx : Nat} {P : List Nat} (h : Pgn f B nx P) (x : Nat) (hx : (x = 0 ∧ ¬ RightP (f P.length)) ∨ (2 ≤ x ∧ x < nx ∧ RightP (f P.length) ∧ B.Ks.getD (x - 2) 0 = (f P.length).kd ∧ B.Ls.getD (x - 2) [] = loadP (f P.length))) : Pgn f B nx (P ++ [x]) := fun j hj => by
  rw [getD_snocN]
  simp at hj
  by_cases e : j = P.length
  · rw [if_pos e, e]; exact hx
  · rw [if_neg e]; exact h j (by omega)
/-- Behind a loss of power and an Open. -/
theorem LNs.crash {w wr : World} {base p g n c : Nat} {D : DS} {s : Sup} {nx : Nat} {ep : Int} {B : Bk} {F : List Nat} {v : Value} {P : List Nat} (h : LNs w wr base p g n c D s nx ep B F v P) (hc : c ≤ 1000) (fs : List Int) (hfb : Bts fs) (sp : Option Addr) (cap : Nat) (hS : Src w sp cap fs) (hsb : ∀ a, 0 < fs.length → sp = some a → a.block < base) :
    Calls Try.prog 11 #[.pointer (some ⟨p, 0, none⟩), .slice sp fs.length cap] wr fun e w' => e = .returned (.int .i64 D.ops.length) ∧ ∃ F', DA w' base F' p (D.crashed fs) ∧ OwnN w' base v P ∧ Below base w w' := by
  have hcn := h.lv.cnt
  have hSr : Src wr sp cap fs := by
    obtain ⟨h1, h2, b, o, h3, h4, h5⟩ := hS
    refine ⟨h1, h2, b, o, fun hp => ?_, h4, fun j hj => ?_⟩
    · have hb : b < base := hsb _ hp (h4 hp)
      exact Nat.lt_of_lt_of_le hb (Nat.le_trans h.bw h.bl.size)
    · have hb := hsb _ (by omega) (h4 (by omega))
      rw [h.bl.cell (p := ⟨b, o + j, none⟩) hb]; exact h5 j hj
  refine (Crash_any wr base F p D h.da (by omega) fs hfb sp cap hSr (fun a hp e hk => by have := hsb a hp e; have := (h.da.lt _ hk).1; omega)).mono ?_
  rintro e w' ⟨rfl, F', hD, hF, hG⟩
  exact ⟨rfl, F', hD, h.ow.heap fun k e => hF.block k (by obtain ⟨cur, hc⟩ := h.ow.ty e; exact hlt hc) (own_notin h.ow h.da e), h.bl.trans (hF.below (fun k hk => (h.da.lt k hk).1) (Nat.le_trans h.bw h.bl.size))⟩
/-- What is read behind it. -/
structure RO (D2 : DS) (D : DS) (s : Sup) (m n : Nat) (B : Bk) (ep : Int) : Prop where
  np : D2.np = n
  lv : liveF D2 ep = 0
  rd : ∀ q, q < m → D2.readOf q = D.readOf q
  rs : D2.reads ≤ 2000000
theorem crash_open {w1 : World} {base p n c : Nat} {D : DS} {s : Sup} {nx : Nat} {ep : Int} {B : Bk} {F : List Nat} (hl : Lv D s nx ep B n c) (hc : c ≤ 1000) (m : Nat) (hm : s.ma = (m : Int)) (fs : List Int) (h : DA w1 base F p (D.crashed fs)) :
    Calls Try.prog 6 #[.pointer (some ⟨p, 0, none⟩)] w1 fun e w' => ∃ g, e = .returned (.tuple #[.pointer (some ⟨g, 0, none⟩), .int .i64 0]) ∧ w1.heap.size ≤ g ∧ ∃ D2, RO D2 D s m n B (D.epoch + 1 + 1) ∧ FK w' g p s m (D.epoch + 1 + 1) ∧ DA w' base F p D2 ∧ Fr F w1 w' := by
  have hcn := hl.cnt
  obtain ⟨m', hm0, hm1, hm2⟩ := sup_ma hl.val hl.pg
  have hop : ∀ q, q < m → ∀ o ∈ D.ops, o.page ≠ q := fun q hq o ho => by have := hl.opn o ho; omega
  have hrd : ∀ q, q < m → q < D.np → (D.crashed fs).readOf q = D.readOf q := fun q hq hn => crash_read hl.ok fs q hn (hop q hq)
  have h3 := hl.ok.np
  have hch : chooseF ((D.crashed fs).readOf 0) ((D.crashed fs).readOf 1) = (s, 0) := by
    rw [hrd 0 (by omega) (by omega), hrd 1 (by omega) (by omega)]; exact hl.slots
  have hnp : (D.crashed fs).np = n := (crashed_np hl.ok fs).trans hl.np
  refine (Open_ok w1 base F p (D.crashed fs) h rfl (by show D.reads < _; omega) (by show D.epoch + 1 < _; omega) s hch (by rw [hnp]; exact hl.pg)).mono ?_
  rintro e w' ⟨g, rfl, hg, hK, hD, hF⟩
  rw [hm] at hK
  refine ⟨g, rfl, hg, { D.crashed fs with reads := (D.crashed fs).reads + 2, epoch := (D.crashed fs).epoch + 1 }, ⟨hnp, ?_, fun q hq => hrd q hq (by rw [hl.np]; omega), by show D.reads + 2 ≤ _; omega⟩, hK, hD, hF⟩
  unfold liveF
  rw [if_neg (by simp [DS.crashed])]
  simp [DS.crashed]
end Go.Proofs.Ytbcadiecpcngdaa
