import Derived.Test.YtjlakgojbfglhaaFC1
import Derived.Test.YtjlakgojbfglhaaFC0
import Derived.Test.YtjlakgojbfglhaaGs
namespace Go.Proofs.Ytjlakgojbfglhaa
set_option linter.unusedVariables false
set_option linter.unusedSimpArgs false
open Go.RowKit
attribute [local go_sem ↓] Go.wp_at_zero Go.wp_at_succ

/-- Rows of the walk's own: no call on the file, the disk or the book writes them. -/
def PlT (t : Nat) : Prop := t = 35 ∨ t = 37
structure FC (w wr : World) (base p g gb n c : Nat) (D : DS) (s : Sup) (nx : Nat) (ep : Int) (B Bm : Bk) (F : List Nat) (L : List (Nat × List Value × Nat)) : Prop where
  da : DA wr base F p D
  fk : FK wr g p s nx ep
  lv : Lv D s nx ep B n c
  ba : BA wr base [gb] gb Bm
  ap : Apart F [gb]
  ng : g ∉ [gb]
  arm : D.armed = 0
  gn : Bm.gn = s.ge
  bg : base ≤ g
  bl : Below base w wr
  bw : base ≤ w.heap.size
  rows : ∀ x ∈ L, base ≤ x.1 ∧ wr.heap[x.1]? = some (.cells x.2.1.toArray x.2.2 (0, 0)) ∧ PlT x.2.2
theorem FC.bwr {w wr : World} {base p g gb n c : Nat} {D : DS} {s : Sup} {nx : Nat} {ep : Int} {B Bm : Bk} {F : List Nat} {L : List (Nat × List Value × Nat)} (h : FC w wr base p g gb n c D s nx ep B Bm F L) : base ≤ wr.heap.size := Nat.le_trans h.bw h.bl.size
theorem FC.row {w wr : World} {base p g gb n c : Nat} {D : DS} {s : Sup} {nx : Nat} {ep : Int} {B Bm : Bk} {F : List Nat} {L : List (Nat × List Value × Nat)} (h : FC w wr base p g gb n c D s nx ep B Bm F L) {k t : Nat} {cs : List Value} (hm : (k, cs, t) ∈ L) : wr.heap[k]? = some (.cells cs.toArray t (0, 0)) := (h.rows _ hm).2.1
theorem FC.cell {w wr : World} {base p g gb n c : Nat} {D : DS} {s : Sup} {nx : Nat} {ep : Int} {B Bm : Bk} {F : List Nat} {L : List (Nat × List Value × Nat)} (h : FC w wr base p g gb n c D s nx ep B Bm F L) {k t : Nat} {cs : List Value} (hm : (k, cs, t) ∈ L) {j : Nat} {v : Value} (hv : cs[j]? = some v) : wr.cell? ⟨k, j, none⟩ = some v := by
  rw [cell_of_row _ _ _ _ _ _ (h.row hm)]; simpa using hv
theorem FC.apart {w wr : World} {base p g gb n c : Nat} {D : DS} {s : Sup} {nx : Nat} {ep : Int} {B Bm : Bk} {F : List Nat} {L : List (Nat × List Value × Nat)} (h : FC w wr base p g gb n c D s nx ep B Bm F L) {x : Nat × List Value × Nat} (hx : x ∈ L) : x.1 ∉ g :: (F ++ [gb]) := fun e => by
  obtain ⟨_, hr, ht⟩ := h.rows x hx
  have n1 : x.2.2 ≠ 44 ∧ x.2.2 ≠ 5 ∧ x.2.2 ≠ 89 ∧ x.2.2 ≠ 66 ∧ x.2.2 ≠ 32 := by
    rcases ht with e | e <;> rw [e] <;> exact ⟨by decide, by decide, by decide, by decide, by decide⟩
  rcases List.mem_cons.1 e with e | e
  · exact ne_ty hr h.fk n1.2.2.2.1 e
  · rcases List.mem_append.1 e with e | e
    · exact h.da.not_in hr n1.1 n1.2.1 n1.2.2.1 e
    · obtain ⟨lv, kv, vs, hb⟩ := h.ba
      exact ne_ty hr hb.cell n1.2.2.2.2 (List.mem_singleton.1 e)
theorem FC.below {w wr w2 : World} {base p g gb n c : Nat} {D : DS} {s : Sup} {nx : Nat} {ep : Int} {B Bm : Bk} {F : List Nat} {L : List (Nat × List Value × Nat)} (h : FC w wr base p g gb n c D s nx ep B Bm F L) (hb : Below wr.heap.size wr w2) : FC w w2 base p g gb n c D s nx ep B Bm F L :=
  ⟨h.da.below hb, h.fk.below hb, h.lv, h.ba.below hb, h.ap, h.ng, h.arm, h.gn, h.bg, h.bl.trans (hb.mono h.bwr), h.bw, fun x hx => ⟨(h.rows x hx).1, hbel hb (h.rows x hx).2.1 (hlt (h.rows x hx).2.1), (h.rows x hx).2.2⟩⟩
theorem FC.drew {w wr : World} {base p g gb n c : Nat} {D : DS} {s : Sup} {nx : Nat} {ep : Int} {B Bm : Bk} {F : List Nat} {L : List (Nat × List Value × Nat)} (h : FC w wr base p g gb n c D s nx ep B Bm F L) : FC w wr.drew base p g gb n c D s nx ep B Bm F L := h.below (Below.refl _ _).drew
theorem FC.alloc {w wr : World} {base p g gb n c : Nat} {D : DS} {s : Sup} {nx : Nat} {ep : Int} {B Bm : Bk} {F : List Nat} {L : List (Nat × List Value × Nat)} (h : FC w wr base p g gb n c D s nx ep B Bm F L) (cs : List Value) (t : Nat) (ht : PlT t) : FC w (wr.alloc (.cells cs.toArray t)) base p g gb n c D s nx ep B Bm F ((wr.heap.size, cs, t) :: L) := by
  have h2 := h.below ((Below.refl wr.heap.size wr).alloc (Nat.le_refl _) (.cells cs.toArray t))
  refine ⟨h2.da, h2.fk, h2.lv, h2.ba, h2.ap, h2.ng, h2.arm, h2.gn, h2.bg, h2.bl, h2.bw, fun x hx => ?_⟩
  rcases List.mem_cons.1 hx with rfl | hx
  · exact ⟨h.bwr, hnew wr _, ht⟩
  · exact h2.rows x hx
theorem FC.sub {w wr : World} {base p g gb n c : Nat} {D : DS} {s : Sup} {nx : Nat} {ep : Int} {B Bm : Bk} {F : List Nat} {L L' : List (Nat × List Value × Nat)} (h : FC w wr base p g gb n c D s nx ep B Bm F L) (hL : ∀ x ∈ L', x ∈ L) : FC w wr base p g gb n c D s nx ep B Bm F L' :=
  ⟨h.da, h.fk, h.lv, h.ba, h.ap, h.ng, h.arm, h.gn, h.bg, h.bl, h.bw, fun x hx => h.rows x (hL x hx)⟩
theorem FC.step {w wr w2 : World} {base p g gb n c c' : Nat} {D D' : DS} {s s' : Sup} {nx nx' : Nat} {ep : Int} {B Bm B' Bm' : Bk} {F F' : List Nat} {L : List (Nat × List Value × Nat)} (h : FC w wr base p g gb n c D s nx ep B Bm F L)
    (q1 : DA w2 base F' p D') (q2 : FK w2 g p s' nx' ep) (q3 : BA w2 base [gb] gb Bm') (q4 : Apart F' [gb]) (q5 : Fr (g :: (F ++ [gb])) wr w2) (q7 : D'.armed = 0) (q8 : Lv D' s' nx' ep B' n c') (q9 : Bm'.gn = s'.ge) : FC w w2 base p g gb n c' D' s' nx' ep B' Bm' F' L := by
  refine ⟨q1, q2, q8, q3, q4, h.ng, q7, q9, h.bg, h.bl.trans (q5.below (fun k hk => ?_) h.bwr), h.bw, fun x hx => ⟨(h.rows x hx).1, ?_, (h.rows x hx).2.2⟩⟩
  · rcases List.mem_cons.1 hk with e | e
    · rw [e]; exact h.bg
    · rcases List.mem_append.1 e with e | e
      · exact (h.da.lt k e).1
      · exact (h.ba.lt k e).1
  · exact (q5.block _ (hlt (h.rows x hx).2.1) (h.apart hx)).trans (h.rows x hx).2.1
theorem FC.act {w wr w2 : World} {base p g gb n c : Nat} {D : DS} {s : Sup} {nx : Nat} {ep : Int} {B Bm : Bk} {F : List Nat} {L : List (Nat × List Value × Nat)} (h : FC w wr base p g gb n c D s nx ep B Bm F L) {dw ds : Int} {o : Nat} (ha : AO2 base p g gb F [gb] wr n c ep D dw ds o w2) :
    ∃ (D' : DS) (s' : Sup) (nx' : Nat) (B' Bm' : Bk) (F' : List Nat), FC w w2 base p g gb n (c + 1) D' s' nx' ep B' Bm' F' L ∧ CN D D' dw ds o := by
  obtain ⟨D', s', nx', B', Bm', F', q1, q2, q3, q4, q5, q6, q7, q8, q9, q10⟩ := ha
  exact ⟨D', s', nx', B', Bm', F', h.step q1 q2 q3 q4 q5 q7 q8 q10, q9⟩
theorem FC.setM {w wr : World} {base p g gb n c : Nat} {D : DS} {s : Sup} {nx : Nat} {ep : Int} {B Bm : Bk} {F : List Nat} {L : List (Nat × List Value × Nat)} (h : FC w wr base p g gb n c D s nx ep B Bm F L) (x : Int) : FC w (wr.setCell ⟨gb, 2, none⟩ (.int .i64 x)) base p g gb n c D s nx ep B { Bm with mrk := x } F L := by
  have hgF : gb ∉ F := fun e => h.ap gb e (List.mem_singleton.2 rfl)
  have hgg : g ≠ gb := fun e => h.ng (List.mem_singleton.2 e)
  refine h.step (h.da.setCellN hgF 2 _) ?_ (h.ba.setM x) h.ap ((Fr.refl _ _).setCell (List.mem_cons_of_mem _ (List.mem_append_right _ (List.mem_singleton.2 rfl))) 2 _) h.arm h.lv h.gn
  show (wr.setCell ⟨gb, 2, none⟩ _).heap[g]? = _
  rw [heap_setCell_other _ ⟨gb, 2, none⟩ g _ hgg]
  exact h.fk
theorem Lv.read1 {D : DS} {s : Sup} {nx : Nat} {ep : Int} {B : Bk} {n c : Nat} (h : Lv D s nx ep B n c) (hc : c ≤ 1000) : Lv { D with reads := D.reads + 1 } s nx ep B n (c + 1) := by
  have hok := h.ok
  have hm := h.more
  have hcn := h.cnt
  have hcm := hm.cnt
  refine ⟨⟨hok.n, hok.bts, hok.ops, ⟨?_, ?_⟩, hok.writes, hok.syncs, hok.epoch, hok.armed⟩, h.np, h.small, h.pw, h.hep, h.pg, h.val, h.good, hm.ge, h.bk, h.hnx, h.opn, h.len, h.pgs, ⟨hcm.1, ?_, hcm.2.2.1, hcm.2.2.2.1, hcm.2.2.2.2⟩⟩
  · show 0 ≤ D.reads + 1; have := hok.reads.1; omega
  · show D.reads + 1 ≤ _; have := hcn.2.1; omega
  · show D.reads + 1 ≤ _; have := hcn.2.1; push_cast; omega
theorem Lv.fewer {E : DS} {x : Int} {s : Sup} {nx : Nat} {ep : Int} {B : Bk} {n c : Nat} (h : Lv { E with reads := E.reads + x } s nx ep B n c) (h0 : 0 ≤ E.reads) (hx : 0 ≤ x) : Lv E s nx ep B n c := by
  have hok := h.ok
  have hcn := h.cnt
  refine ⟨⟨hok.n, hok.bts, hok.ops, ⟨h0, ?_⟩, hok.writes, hok.syncs, hok.epoch, hok.armed⟩, h.np, h.small, h.pw, h.hep, h.pg, h.val, h.good, h.ge, h.bk, h.hnx, h.opn, h.len, h.pgs, ⟨hcn.1, ?_, hcn.2.2.1, hcn.2.2.2.1, hcn.2.2.2.2⟩⟩
  · have : E.reads + x ≤ _ := hok.reads.2; omega
  · have : E.reads + x ≤ _ := hcn.2.1; omega
/-- The last page read. -/
theorem FC.read {w wr : World} {base p g gb n c : Nat} {D : DS} {s : Sup} {nx : Nat} {ep : Int} {B Bm : Bk} {F : List Nat} {L : List (Nat × List Value × Nat)} (h : FC w wr base p g gb n c D s nx ep B Bm F L) (hc : c ≤ 1000) (hx : 2 < nx) :
    Calls Try.prog 9 #[.pointer (some ⟨g, 0, none⟩), .int .i64 ((nx : Int) - 1)] wr fun e w' => ∃ kd v, 1 ≤ kd ∧ e = .returned (.tuple #[.int .i64 kd, v, .int .i64 0]) ∧ FC w w' base p g gb n (c + 1) { D with reads := D.reads + 1 } s nx ep B Bm F L := by
  have hlv := h.lv
  have hcn := hlv.cnt
  have hn := hlv.hnx
  have hp := hlv.pgs (nx - 1) (by omega) (by omega)
  refine (FRead_ok wr base F p D h.da g s nx ep h.fk hlv.live (nx - 1) ⟨by omega, by omega, by rw [hlv.np]; omega⟩ (by omega) _ _ hp _ (by omega)).mono ?_
  rintro e w' ⟨v, rfl, hO, hD, hK, hF⟩
  exact ⟨_, v, unpack_kind hp, rfl, h.step hD hK (h.ba.other hF h.ap) h.ap (hF.inl) h.arm (hlv.read1 hc) h.gn⟩
theorem FC.more {w wr : World} {base p g gb n c : Nat} {D : DS} {s : Sup} {nx : Nat} {ep : Int} {B Bm : Bk} {F : List Nat} {L : List (Nat × List Value × Nat)} (h : FC w wr base p g gb n c D s nx ep B Bm F L) : FC w wr base p g gb n (c + 1) D s nx ep B Bm F L := ⟨h.da, h.fk, h.lv.more, h.ba, h.ap, h.ng, h.arm, h.gn, h.bg, h.bl, h.bw, h.rows⟩
theorem FC.append {w wr : World} {base p g gb n c : Nat} {D : DS} {s : Sup} {nx : Nat} {ep : Int} {B Bm : Bk} {F : List Nat} {L : List (Nat × List Value × Nat)} (h : FC w wr base p g gb n c D s nx ep B Bm F L) (hlt : nx < n) (hc : c ≤ 1000) (kd : Int) (hk : kindOk kd = true) (l : List Int) (h8 : Byts l) (hl : l.length ≤ 246) (sp : Option Addr) (cap : Nat) (hS : Src wr sp cap l) :
    Calls Try.prog 10 #[.pointer (some ⟨g, 0, none⟩), .int .i64 kd, .slice sp l.length cap] wr fun e w' => e = .returned (.tuple #[.int .i64 nx, .int .i64 0]) ∧ ∃ D' B' F', FC w w' base p g gb n (c + 1) D' s (nx + 1) ep B' Bm F' L ∧ CN D D' 1 0 (D.ops.length + 1) := by
  have ha1 : D.armed ≠ 1 := by rw [h.arm]; decide
  have hcn := h.lv.cnt
  obtain ⟨m, hm0, hm1, hm2⟩ := sup_ma h.lv.val h.lv.pg
  have hnx := h.lv.hnx
  have hL := (h.lv.append hlt hc kd hk l h8 hl ha1).1
  have hL := hL.fewer (by rw [(wr_img D ⟨nx, pageP kd nx l⟩).2.2.2.1]; exact h.lv.ok.reads.1) (by omega)
  obtain ⟨hcnt, har⟩ := wr_cnt h.arm ⟨nx, pageP kd nx l⟩
  refine (Append_in wr base F p D h.da h.bwr g s ep nx h.fk h.lv.live ⟨by omega, by rw [h.lv.np]; exact hlt⟩ kd hk l h8 hl sp cap hS (by omega) (by omega)).mono ?_
  rintro e w' ⟨h1, _⟩
  obtain ⟨rfl, F', hD, hK, hF, hG⟩ := h1 ha1
  refine ⟨rfl, _, _, F', h.step hD hK (h.ba.other hF (fun k hk e => ?_)) (h.ap.step (fun k hk => (h.ba.lt k hk).2) hG) hF.ing har hL h.gn, hcnt⟩
  rcases List.mem_cons.1 hk with q | q
  · exact h.ng (q ▸ e)
  · exact h.ap k q e
end Go.Proofs.Ytjlakgojbfglhaa
