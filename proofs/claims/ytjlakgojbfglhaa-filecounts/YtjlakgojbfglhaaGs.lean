import Derived.Test.YtjlakgojbfglhaaG22
namespace Go.Proofs.Ytjlakgojbfglhaa
set_option linter.unusedVariables false
set_option linter.unusedSimpArgs false
open Go.RowKit
attribute [local go_sem ↓] Go.wp_at_zero Go.wp_at_succ

theorem Src.below' {w w1 : World} {B : Nat} {sp : Option Addr} {cap : Nat} {zs : List Int} (h : Src w sp cap zs) (hb : Below B w w1) (hB : 0 < zs.length → ∀ a, sp = some a → a.block < B) : Src w1 sp cap zs := by
  obtain ⟨h1, h2, b, o, h3, h4, h5⟩ := h
  refine ⟨h1, h2, b, o, fun hp => Nat.lt_of_lt_of_le (h3 hp) hb.size, h4, fun j hj => ?_⟩
  have : b < B := hB (by omega) _ (h4 (by omega))
  exact (hb.cell (p := ⟨b, o + j, none⟩) this).trans (h5 j hj)
/-! Acts that came in. -/
structure AC where
  kind : Int
  N : Int
  load : List Int
def dA : AC := ⟨0, 0, []⟩
def AcOk (a : AC) : Prop := (-9223372036854775808 ≤ a.N ∧ a.N ≤ 9223372036854775807) ∧ Byts a.load ∧ a.load.length ≤ 140737488355000
def actL (a : AC) (tp : Option Addr) (tc : Nat) : List Value := [.int .i64 a.kind, .int .i64 a.N, .slice tp a.load.length tc]
def Acs (w : World) (B : Nat) (sp : Option Addr) (ac : List AC) : Prop := ∃ b o, (0 < ac.length → b < B ∧ sp = some ⟨b, o, none⟩) ∧ ∀ i, i < ac.length → ∃ tp tc, w.rangeAt b (o + i * 3) (actL (ac.getD i dA) tp tc) ∧ Src w tp tc (ac.getD i dA).load ∧ (0 < (ac.getD i dA).load.length → ∀ a, tp = some a → a.block < B)
theorem Acs.at {w w1 : World} {B : Nat} {sp : Option Addr} {ac : List AC} (h : Acs w B sp ac) (hb : Below B w w1) (i : Nat) (hi : i < ac.length) : ∃ b o tp tc, sp = some ⟨b, o, none⟩ ∧ b < B ∧ w1.rangeAt b (o + i * 3) (actL (ac.getD i dA) tp tc) ∧ Src w1 tp tc (ac.getD i dA).load := by
  obtain ⟨b, o, h1, h2⟩ := h
  obtain ⟨q1, q2⟩ := h1 (by omega)
  obtain ⟨tp, tc, q3, q4, q5⟩ := h2 i hi
  exact ⟨b, o, tp, tc, q2, q1, rng_below q3 hb q1, q4.below' hb q5⟩
def Fss (w : World) (B : Nat) (sp : Option Addr) (fss : List (List Int)) : Prop := ∃ b o, (0 < fss.length → b < B ∧ sp = some ⟨b, o, none⟩) ∧ ∀ i, i < fss.length → ∃ sp' cap', w.cell? ⟨b, o + i, none⟩ = some (.slice sp' (fss.getD i []).length cap') ∧ Src w sp' cap' (fss.getD i []) ∧ (0 < (fss.getD i []).length → ∀ a, sp' = some a → a.block < B)
theorem Fss.at {w w1 : World} {B : Nat} {sp : Option Addr} {fss : List (List Int)} (h : Fss w B sp fss) (hb : Below B w w1) (i : Nat) (hi : i < fss.length) : ∃ b o sp' cap', sp = some ⟨b, o, none⟩ ∧ w1.cell? ⟨b, o + i, none⟩ = some (.slice sp' (fss.getD i []).length cap') ∧ Src w1 sp' cap' (fss.getD i []) ∧ (0 < (fss.getD i []).length → ∀ a, sp' = some a → a.block < B) ∧ b < B := by
  obtain ⟨b, o, h1, h2⟩ := h
  obtain ⟨q1, q2⟩ := h1 (by omega)
  obtain ⟨sp', cap', q3, q4, q5⟩ := h2 i hi
  exact ⟨b, o, sp', cap', q2, (hb.cell (p := ⟨b, o + i, none⟩) q1).trans q3, q4.below' hb q5, q5, q1⟩
theorem size_fact : (Try.prog.info? 35).map (·.size) = some 3 := by kernel_rfl
theorem build_book (w : World) : (Instr.build 32 #[(2, .int .i64 2), (3, .int .i64 1)]).run Try.prog w = .ok (.agg (bcells (.slice none 0 0) (.slice none 0 0) bk0)) w := by kernel_rfl
/-- The state of a walk between two acts. -/
structure SS (w wr : World) (base p gb n c g : Nat) (D : DS) (s : Sup) (nx : Nat) (ep : Int) (B : Bk) (F G : List Nat) : Prop where
  da : DA wr base F p D
  fk : FK wr g p s nx ep
  ba : BA wr base G gb B
  ap : Apart F G
  ng : g ∉ G
  bg : base ≤ g
  lv : Lv D s nx ep B n c
  bl : Below base w wr
  bw : base ≤ w.heap.size
theorem SS.step {w wr w2 : World} {base p gb n c g : Nat} {D : DS} {s : Sup} {nx : Nat} {ep : Int} {B : Bk} {F G : List Nat} (h : SS w wr base p gb n c g D s nx ep B F G) {Z : Prop} {er : Int} (ha : AO base p g gb F G wr n c ep D s Z er w2) :
    ∃ (D' : DS) (s' : Sup) (nx' : Nat) (B' : Bk) (F' G' : List Nat), (er = 0 ∧ SS w w2 base p gb n (c + 1) g D' s' nx' ep B' F' G' ∨ er = 2 ∧ DA w2 base F' p D' ∧ FK w2 g p s' nx' ep ∧ BA w2 base G' gb B' ∧ Apart F' G' ∧ D'.power = false ∧ D'.epoch = ep ∧ Cr D' B' n (c + 1) ∧ Below base w w2 ∧ s'.ma ≤ B'.mrk) ∧ Kp D s D' s' ∧ Fr (g :: (F ++ G)) wr w2 ∧ Gr wr F F' ∧ Gr wr G G' ∧ (Z → er = 0 ∧ D'.armed = 0) := by
  obtain ⟨D', s', nx', B', F', G', q1, q2, q3, q4, q5, q6, q7, qk, q8, q9⟩ := ha
  have hbl : Below base w w2 := h.bl.trans (q5.below (fun k hk => by
    rcases List.mem_cons.1 hk with e | e
    · rw [e]; exact h.bg
    · rcases List.mem_append.1 e with e | e
      · exact (h.da.lt k e).1
      · exact (h.ba.lt k e).1) (Nat.le_trans h.bw h.bl.size))
  have hng : g ∉ G' := fun e => by
    rcases q7 g e with x | x
    · exact h.ng x
    · have := hlt_ h.fk; omega
  refine ⟨D', s', nx', B', F', G', ?_, qk, q5, q6, q7, q8⟩
  rcases q9 with ⟨e0, l⟩ | ⟨e2, p1, p2, pm, l⟩
  · exact Or.inl ⟨e0, ⟨q1, q2, q3, q4, hng, h.bg, l, hbl, h.bw⟩⟩
  · exact Or.inr ⟨e2, q1, q2, q3, q4, p1, p2, l, hbl, pm⟩
theorem getD_memA (l : List AC) (i : Nat) (hi : i < l.length) : l.getD i dA ∈ l := by
  rw [List.getD_eq_getElem?_getD, List.getElem?_eq_getElem hi]; exact List.getElem_mem hi
theorem getD_memF (l : List (List Int)) (i : Nat) (hi : i < l.length) : l.getD i [] ∈ l := by
  rw [List.getD_eq_getElem?_getD, List.getElem?_eq_getElem hi]; exact List.getElem_mem hi
theorem SS.more {w wr : World} {base p gb n c g : Nat} {D : DS} {s : Sup} {nx : Nat} {ep : Int} {B : Bk} {F G : List Nat} (h : SS w wr base p gb n c g D s nx ep B F G) : SS w wr base p gb n (c + 1) g D s nx ep B F G := ⟨h.da, h.fk, h.ba, h.ap, h.ng, h.bg, h.lv.more, h.bl, h.bw⟩
theorem SS.start {w w1 : World} {base p g n : Nat} {D : DS} {s : Sup} {nx : Nat} {ep : Int} {F : List Nat} (hD : DA w1 base F p D) (hK : FK w1 g p s nx ep) (hg : base ≤ g) (hl : Lv D s nx ep bk0 n 0) (hB : Below base w w1) (hw : base ≤ w.heap.size) :
    SS w (w1.alloc (.cells (bcells (.slice none 0 0) (.slice none 0 0) bk0) 32)) base p w1.heap.size n (2 * 0) g D s nx ep bk0 F [w1.heap.size] := by
  have hb := below_new w1 (.cells (bcells (.slice none 0 0) (.slice none 0 0) bk0) 32)
  refine ⟨hD.below hb, hK.below hb, ⟨.slice none 0 0, .slice none 0 0, [], ?_⟩, ?_, ?_, hg, hl, hB.trans (hb.mono (Nat.le_trans hw hB.size)), hw⟩
  · refine ⟨hnew _ _, List.mem_singleton.2 rfl, ownsRow_none _ _ _ _, fun k e => by simp [Value.ownBlock] at e, ownsRow_none _ _ _ _, fun k e => by simp [Value.ownBlock] at e, rfl, fun i hi => by simp [bk0] at hi, fun i hi => by simp [bk0] at hi, fun k hk => ?_⟩
    rw [List.mem_singleton.1 hk]
    exact ⟨Nat.le_trans hw hB.size, by simp⟩
  · intro k hk e
    rw [List.mem_singleton.1 e] at hk
    have := (hD.lt _ hk).2; omega
  · intro e
    have := hlt_ hK
    rw [List.mem_singleton.1 e] at this; omega
theorem SS.below {w wr w2 : World} {base p gb n c g : Nat} {D : DS} {s : Sup} {nx : Nat} {ep : Int} {B : Bk} {F G : List Nat} (h : SS w wr base p gb n c g D s nx ep B F G) (hb : Below wr.heap.size wr w2) : SS w w2 base p gb n c g D s nx ep B F G :=
  ⟨h.da.below hb, h.fk.below hb, h.ba.below hb, h.ap, h.ng, h.bg, h.lv, h.bl.trans (hb.mono (Nat.le_trans h.bw h.bl.size)), h.bw⟩
end Go.Proofs.Ytjlakgojbfglhaa
