import Derived.Test.YtjpcegjgandnjaaGreatDoorQ16
import Derived.Lib.LazyBuf
namespace Go.Proofs.YtjpcegjgandnjaaGreatDoor
set_option linter.unusedVariables false
set_option linter.unusedSimpArgs false
open Go.RowKit
open Go.Proofs.YtjpcegjgandnjaaGreatDoor.Ca (Ct ct0 ctC argV AS)
attribute [local go_sem ↓] Go.wp_at_zero Go.wp_at_succ

def Sto.fp (S : Sto) : List Nat := S.g :: S.st :: (S.F ++ (S.FC ++ (S.lb ++ S.sv.ownBlock.toList)))
theorem Sto.mem (S : Sto) (k : Nat) : k ∈ S.fp ↔ (k = S.g ∨ k = S.st ∨ k ∈ S.F ∨ k ∈ S.FC ∨ k ∈ S.lb ∨ S.sv.ownBlock = some k) := by
  simp only [Sto.fp, List.mem_cons, List.mem_append, Option.mem_toList]
theorem infoCm : (Tryz.prog.info? 166).map (fun i => (i.zero.map fun z => z.cells.size, i.size, i.bytes)) = some (some 2, 2, 32) := by kernel_rfl
theorem infoC : ∃ i z, Tryz.prog.info? 166 = some i ∧ i.zero = some z ∧ z.cells.size = 2 ∧ i.size = 2 ∧ i.bytes = 32 := by
  have h := infoCm
  cases hq : Tryz.prog.info? 166 with
  | none => rw [hq] at h; cases h
  | some i =>
    rw [hq] at h
    simp only [Option.map_some, Option.some.injEq, Prod.mk.injEq] at h
    obtain ⟨h1, h2, h3⟩ := h
    cases hz : i.zero with
    | none => rw [hz] at h1; cases h1
    | some z =>
      rw [hz] at h1
      exact ⟨i, z, rfl, hz, by simpa using h1, h2, h3⟩
theorem SK.sv_apart {w : World} {base : Nat} {S : Sto} (h : SK w base S) {k : Nat} (e : S.sv.ownBlock = some k) : k ≠ S.g ∧ k ≠ S.st ∧ k ∉ S.F ∧ k ∉ S.FC ∧ k ∉ S.lb := by
  obtain ⟨_, cs, hc⟩ := h.sv_ty e
  exact ⟨ne_ty hc h.fk (by decide), ne_ty hc h.sk (by decide), h.da.not_in hc (by decide) (by decide) (by decide), h.ca.not_in hc (by decide) (by decide), fun q => by
    obtain ⟨_, cs2, hc2⟩ := h.lb k q
    exact ne_ty hc hc2 (by decide) rfl⟩
theorem SK.st_apart {w : World} {base : Nat} {S : Sto} (h : SK w base S) : S.st ≠ S.g ∧ S.st ∉ S.F ∧ S.st ∉ S.FC ∧ S.st ∉ S.lb :=
  ⟨ne_ty h.sk h.fk (by decide), h.da.not_in h.sk (by decide) (by decide) (by decide), h.ca.not_in h.sk (by decide) (by decide), fun q => by
    obtain ⟨_, cs2, hc2⟩ := h.lb _ q
    exact ne_ty h.sk hc2 (by decide) rfl⟩
theorem SK.g_apart {w : World} {base : Nat} {S : Sto} (h : SK w base S) : S.g ∉ S.F ∧ S.g ∉ S.FC ∧ S.g ∉ S.lb :=
  ⟨h.fk.not h.da, h.ca.not_in h.fk (by decide) (by decide), fun q => by
    obtain ⟨_, cs2, hc2⟩ := h.lb _ q
    exact ne_ty h.fk hc2 (by decide) rfl⟩
theorem SK.grown {w3 w4 : World} {base : Nat} {S : Sto} (h : SK w3 base S) {o1 o2 : Obj} (hg : ((w3.alloc o1).drew.alloc o2).grownBy w4 S.sv.ownBlock) (v4 : Value) (k : Nat) (hk : k < w3.heap.size) (h1 : S.sv.ownBlock ≠ some k) (h2 : k ≠ S.st) :
    (w4.setCell ⟨S.st, 3, none⟩ v4).heap[k]? = w3.heap[k]? := by
  have s1 : (w3.alloc o1).heap.size = w3.heap.size + 1 := by simp
  have s2 : ((w3.alloc o1).drew.alloc o2).heap.size = w3.heap.size + 2 := by
    rw [show ((w3.alloc o1).drew.alloc o2).heap.size = (w3.alloc o1).heap.size + 1 by simp [World.drew], s1]
  rw [heap_setCell_other _ ⟨S.st, 3, none⟩ k v4 h2, hg.block k (by rw [s2]; omega) (fun e => h1 e.symm)]
  have e1 := (below_new (w3.alloc o1).drew o2).block k (by show k < (w3.alloc o1).heap.size; rw [s1]; omega)
  have e2 := (below_new w3 o1).block k hk
  exact e1.trans e2
/-- The store's memory, when one more content was appended and laid into its list. -/
theorem SK.staged0 {w3 w4 : World} {base : Nat} {S : Sto} (h : SK w3 base S) (c : Ct) {t2 : Obj} (hg : ((w3.alloc (.cells (ctC c).toArray 166)).drew.alloc t2).grownBy w4 S.sv.ownBlock) (v4 : Value) :
    Ca.CA (w4.setCell ⟨S.st, 3, none⟩ v4) base S.FC S.pc S.N S.a ∧ (w4.setCell ⟨S.st, 3, none⟩ v4).cell? ⟨S.st, 2, none⟩ = some (.pointer (some ⟨S.pc, 0, none⟩)) ∧ (w4.setCell ⟨S.st, 3, none⟩ v4).rangeAt w3.heap.size 0 (ctC c) ∧ (w4.setCell ⟨S.st, 3, none⟩ v4).heap[S.st]? = some (.cells (stC S.g S.pc v4).toArray 131 (0, 0)) ∧ w4.frozen? ⟨S.st, 3, none⟩ = false ∧ w4.cell? ⟨S.st, 3, none⟩ = some S.sv ∧ w3.heap.size < w4.heap.size := by
  have s1 : (w3.alloc (.cells (ctC c).toArray 166)).heap.size = w3.heap.size + 1 := by simp
  have s2 : ((w3.alloc (.cells (ctC c).toArray 166)).drew.alloc t2).heap.size = w3.heap.size + 2 := by
    rw [show ((w3.alloc (.cells (ctC c).toArray 166)).drew.alloc t2).heap.size = (w3.alloc (.cells (ctC c).toArray 166)).heap.size + 1 by simp [World.drew], s1]
  have hst := h.lt_st
  have e4 : w4.heap[S.st]? = some (.cells (stC S.g S.pc S.sv).toArray 131 (0, 0)) := by
    rw [hg.block S.st (by rw [s2]; omega) (fun e => (h.sv_apart e.symm).2.1 rfl)]
    exact ((below_new (w3.alloc (.cells (ctC c).toArray 166)).drew t2).block S.st (by show S.st < (w3.alloc (.cells (ctC c).toArray 166)).heap.size; rw [s1]; omega)).trans (((below_new w3 _).block S.st hst).trans h.sk)
  have e5 : (w4.setCell ⟨S.st, 3, none⟩ v4).heap[S.st]? = some (.cells (stC S.g S.pc v4).toArray 131 (0, 0)) := by
    rw [heap_setCell_same _ _ _ _ _ _ e4]; rfl
  refine ⟨?_, by rw [cell_of_row _ _ _ _ _ _ e5]; rfl, ?_, e5, frozen_of_row _ _ _ _ _ e4, by rw [cell_of_row _ _ _ _ _ _ e4]; rfl, by have := hg.size; omega⟩
  · obtain ⟨m, n, s, L, e, cc, r⟩ := h.ca
    refine ⟨m, n, s, L, e, cc.of_heap fun k hk => h.grown hg v4 k (h.ca.lt k (by rw [e]; exact hk)).2 (fun q => (h.sv_apart q).2.2.2.1 (by rw [e]; exact hk)) (fun q => h.st_apart.2.2.1 (by rw [← q, e]; exact hk)), r⟩
  · have eN : (w4.setCell ⟨S.st, 3, none⟩ v4).heap[w3.heap.size]? = some (.cells (ctC c).toArray 166 (0, 0)) := by
      rw [heap_setCell_other _ ⟨S.st, 3, none⟩ _ v4 (by show w3.heap.size ≠ S.st; omega), hg.block _ (by rw [s2]; omega) (fun e => by have := (h.in_lt (Or.inr (Or.inr (Or.inr (Or.inr (Or.inl e.symm)))))).2; omega)]
      exact ((below_new (w3.alloc (.cells (ctC c).toArray 166)).drew t2).block w3.heap.size (by show _ < (w3.alloc (.cells (ctC c).toArray 166)).heap.size; rw [s1]; omega)).trans (hnew w3 _)
    intro j v hv
    rw [cell_of_row _ _ _ _ _ _ eN]
    simpa using hv
theorem SK.staged {w2 w3 w4 w6 : World} {base : Nat} {S : Sto} (h : SK w2 base S) (hb : Below w2.heap.size w2 w3) (c : Ct) (zs : List Int) (hO : Own w3 w2.heap.size (.slice c.sp c.n c.c) zs) (hkd : 1 ≤ c.kd ∧ c.kd ≤ 3) (hz : zs.length ≤ 246) (h8 : Byts zs) {t2 : Obj} (v4 : Value)
    (hO4 : w4.ownsRow base 166 2 v4 (S.cts.length + 1) (S.cts.flatMap ctC ++ ctC c)) (hg : ((w3.alloc (.cells (ctC c).toArray 166)).drew.alloc t2).grownBy w4 S.sv.ownBlock) (hd : v4.ownBlock = S.sv.ownBlock ∨ v4.ownBlock = some (w3.heap.size + 2)) (F' : List Nat)
    (hC : Ca.CA w6 base F' S.pc (S.N + 1) { S.a with held := S.a.held ++ [(S.s.ma + S.cts.length, c)] }) (hF : Fr S.FC (w4.setCell ⟨S.st, 3, none⟩ v4) w6) (hG : Gr (w4.setCell ⟨S.st, 3, none⟩ v4) S.FC F') :
    SK w6 base { S with FC := F', lb := (Value.slice c.sp c.n c.c).ownBlock.toList ++ S.lb, N := S.N + 1, a := { S.a with held := S.a.held ++ [(S.s.ma + S.cts.length, c)] }, sv := v4, cts := S.cts ++ [c], vs := S.vs ++ [(c.kd, zs)] } ∧ Fr S.fp w2 w6 ∧ Gr w2 S.fp (Sto.fp { S with FC := F', lb := (Value.slice c.sp c.n c.c).ownBlock.toList ++ S.lb, sv := v4 }) := by
  have h3 := h.below hb
  obtain ⟨c1, c2, c3, c4, c5, c6, c7⟩ := h3.staged0 c hg v4
  have hs5 : (w4.setCell ⟨S.st, 3, none⟩ v4).heap.size = w4.heap.size := World.size_setCell _ _ _
  have hsz := hb.size
  have hkeep : ∀ k, k < w3.heap.size → S.sv.ownBlock ≠ some k → k ≠ S.st → k ∉ S.FC → w6.heap[k]? = w3.heap[k]? := fun k k1 k2 k3 k4 => by
    rw [hF.block k (by rw [hs5]; omega) k4]
    exact h3.grown hg v4 k k1 k2 k3
  have hnb : ∀ k, (Value.slice c.sp c.n c.c).ownBlock = some k → w2.heap.size ≤ k ∧ k < w3.heap.size ∧ ∃ cs, w3.heap[k]? = some (.cells cs 5 (0, 0)) := fun k e => by
    obtain ⟨q1, cur, q2⟩ := ownsRow_block hO k e
    exact ⟨q1, hlt_ q2, cur, q2⟩
  have hold2 : ∀ k, (k = S.g ∨ k = S.st ∨ k ∈ S.F ∨ k ∈ S.FC ∨ S.sv.ownBlock = some k ∨ k ∈ S.lb) → base ≤ k ∧ k < w2.heap.size := fun k q => h.in_lt q
  have hnk : ∀ k, (Value.slice c.sp c.n c.c).ownBlock = some k → w6.heap[k]? = w3.heap[k]? := fun k e => by
    obtain ⟨q1, q2, _⟩ := hnb k e
    exact hkeep k q2 (fun z => by have := (hold2 k (by simp [z])).2; omega) (fun z => by have := (hold2 k (by simp [z])).2; omega) (fun z => by have := (hold2 k (by simp [z])).2; omega)
  have hlbk : ∀ k ∈ S.lb, w6.heap[k]? = w3.heap[k]? := fun k e => by
    have q := (hold2 k (by simp [e])).2
    exact hkeep k (by omega) (fun z => (h3.sv_apart z).2.2.2.2 e) (fun z => h3.st_apart.2.2.2 (z ▸ e)) (fun z => h.a3 k z e)
  have hFk : ∀ k ∈ S.F, w6.heap[k]? = w3.heap[k]? := fun k e => by
    have q := (hold2 k (by simp [e])).2
    exact hkeep k (by omega) (fun z => (h3.sv_apart z).2.2.1 e) (fun z => h3.st_apart.2.1 (z ▸ e)) (fun z => h.a1 k e z)
  have hgk : w6.heap[S.g]? = w3.heap[S.g]? := by
    have q := h.lt_g
    exact hkeep S.g (by omega) (fun z => (h3.sv_apart z).1 rfl) (fun z => h3.st_apart.1 z.symm) h3.g_apart.2.1
  have hlbm : ∀ k ∈ S.lb, k ∈ (Value.slice c.sp c.n c.c).ownBlock.toList ++ S.lb := fun k q => List.mem_append_right _ q
  have hG' : ∀ k ∈ F', k ∈ S.FC ∨ w3.heap.size ≤ k := fun k q => (hG k q).imp id (fun z => by rw [hs5] at z; omega)
  have hv4 : ∀ k, v4.ownBlock = some k → S.sv.ownBlock = some k ∨ k = w3.heap.size + 2 := fun k e => by
    rcases hd with q | q
    · exact Or.inl (q ▸ e)
    · rw [q] at e; cases e; exact Or.inr rfl
  have hv4F : ∀ k, v4.ownBlock = some k → k ∉ S.FC ∧ k ≠ S.st := fun k e => by
    rcases hv4 k e with q | q
    · exact ⟨(h3.sv_apart q).2.2.2.1, (h3.sv_apart q).2.1⟩
    · exact ⟨fun z => by have := (hold2 k (by simp [z])).2; omega, fun z => by have := (hold2 k (by simp [z])).2; omega⟩
  refine ⟨⟨h3.da.of_heap hFk, hgk.trans h3.fk, hC, ?_, ?_, ?_, ?_, ?_, ?_, ?_, ?_, ?_, ?_, h.bg, h.bs, h.bp⟩, ?_, ?_⟩
  · exact (hF.block S.st (by rw [hs5]; have := h.lt_st; omega) h3.st_apart.2.2.1).trans c4
  · show w6.ownsRow base 166 2 v4 (S.cts ++ [c]).length ((S.cts ++ [c]).flatMap ctC)
    rw [List.length_append, List.flatMap_append]
    have := ownsRow_heap (w1 := w6) hO4 fun k e => by
      obtain ⟨_, cur, q⟩ := ownsRow_block hO4 k e
      rw [hF.block k (by rw [hs5]; exact hlt_ q) (hv4F k e).1]
      exact heap_setCell_other _ ⟨S.st, 3, none⟩ k v4 (hv4F k e).2
    simpa using this
  · intro k hk
    rcases List.mem_append.1 hk with q | q
    · rw [Option.mem_toList] at q
      obtain ⟨q1, q2, cs, q3⟩ := hnb k q
      exact ⟨by have := h.base; omega, cs, (hnk k q).trans q3⟩
    · obtain ⟨q1, cs, q2⟩ := h3.lb k q
      exact ⟨q1, cs, (hlbk k q).trans q2⟩
  · show (S.cts ++ [c]).length = (S.vs ++ [(c.kd, zs)]).length
    rw [List.length_append, List.length_append, h.cl]; rfl
  · intro j hj
    have hj' : j < S.cts.length + 1 := by simpa using hj
    show CtIs w6 base _ ((S.cts ++ [c]).getD j ct0) ((S.vs ++ [(c.kd, zs)]).getD j (0, []))
    by_cases q : j < S.cts.length
    · have e1 : (S.cts ++ [c]).getD j ct0 = S.cts.getD j ct0 := by rw [List.getD_eq_getElem?_getD, List.getElem?_append_left q, ← List.getD_eq_getElem?_getD]
      have e2 : (S.vs ++ [(c.kd, zs)]).getD j (0, []) = S.vs.getD j (0, []) := by rw [List.getD_eq_getElem?_getD, List.getElem?_append_left (by rw [← h.cl]; exact q), ← List.getD_eq_getElem?_getD]
      rw [e1, e2]
      exact (h3.cv j q).to hlbm hlbk
    · have hj2 : j = S.cts.length := by omega
      have e1 : (S.cts ++ [c]).getD j ct0 = c := by rw [hj2]; simp
      have e2 : (S.vs ++ [(c.kd, zs)]).getD j (0, []) = (c.kd, zs) := by rw [hj2, h.cl]; simp
      rw [e1, e2]
      exact ⟨rfl, (hO.of_heap hnk).base h.base, fun k e => List.mem_append_left _ (by rw [Option.mem_toList]; exact e), hkd, hz, h8⟩
  · intro x hx
    obtain ⟨v, q1, q2⟩ := h3.ck x hx
    exact ⟨v, q1.to hlbm hlbk, q2⟩
  · show S.a.held ++ [(S.s.ma + (S.cts.length : Int), c)] = heldL S.s.ma (S.cts ++ [c])
    rw [heldL_snoc, h.hd]
  · intro k hk q
    rcases hG' k q with z | z
    · exact h.a1 k hk z
    · have := (hold2 k (by simp [hk])).2; omega
  · intro k hk q
    rcases List.mem_append.1 q with z | z
    · rw [Option.mem_toList] at z
      have := (hold2 k (by simp [hk])).2
      have := (hnb k z).1; omega
    · exact h.a2 k hk z
  · intro k hk q
    rcases List.mem_append.1 q with z | z
    · rw [Option.mem_toList] at z
      obtain ⟨z1, z2, _⟩ := hnb k z
      rcases hG' k hk with y | y
      · have := (hold2 k (by simp [y])).2; omega
      · omega
    · rcases hG' k hk with y | y
      · exact h.a3 k y z
      · have := (hold2 k (by simp [z])).2; omega
  · have g1 := hg
    refine ⟨hF.os.trans (g1.os.trans hb.os), hF.tape.trans (g1.tape.trans hb.tape), hF.output.trans (g1.output.trans hb.output), by have := hF.size; rw [hs5] at this; omega, fun k hk hn => ?_⟩
    have hn' := fun z => hn ((S.mem k).2 z)
    rw [hkeep k (by omega) (fun z => hn' (by simp [z])) (fun z => hn' (by simp [z])) (fun z => hn' (by simp [z]))]
    exact hb.block k hk
  · intro k hk
    rcases (Sto.mem _ k).1 hk with q | q | q | q | q | q
    · exact Or.inl ((S.mem k).2 (Or.inl q))
    · exact Or.inl ((S.mem k).2 (Or.inr (Or.inl q)))
    · exact Or.inl ((S.mem k).2 (by simp at q; simp [q]))
    · rcases hG' k q with z | z
      · exact Or.inl ((S.mem k).2 (by simp [z]))
      · exact Or.inr (by omega)
    · rcases List.mem_append.1 q with z | z
      · rw [Option.mem_toList] at z
        exact Or.inr (hnb k z).1
      · exact Or.inl ((S.mem k).2 (by simp [z]))
    · rcases hv4 k q with z | z
      · exact Or.inl ((S.mem k).2 (by simp [z]))
      · exact Or.inr (by omega)
end Go.Proofs.YtjpcegjgandnjaaGreatDoor
namespace Go.Proofs.YtjpcegjgandnjaaGreatDoor
set_option linter.unusedVariables false
set_option linter.unusedSimpArgs false
open Go.RowKit
open Go.Proofs.YtjpcegjgandnjaaGreatDoor.Ca (Ct ct0 ctC argV AS)
attribute [local go_sem ↓] Go.wp_at_zero Go.wp_at_succ

theorem size_content : ∃ i, Tryz.prog.info? 166 = some i ∧ i.size = 2 := by
  obtain ⟨i, z, h1, _, _, h2, _⟩ := infoC
  exact ⟨i, h1, h2⟩
end Go.Proofs.YtjpcegjgandnjaaGreatDoor
namespace Go.Proofs.YtjpcegjgandnjaaGreatDoor
set_option linter.unusedVariables false
set_option linter.unusedSimpArgs false
open Go.RowKit
open Go.Proofs.YtjpcegjgandnjaaGreatDoor.Ca (Ct ct0 ctC argV AS)
attribute [local go_sem ↓] Go.wp_at_zero Go.wp_at_succ

theorem SK.held_key {w : World} {base : Nat} {S : Sto} (h : SK w base S) (j : Nat) (hj : j < S.cts.length) : S.a.val (S.s.ma + j) = some (S.cts.getD j ct0) := by
  unfold Ca.AS.val
  rw [h.hd, heldL_at _ _ _ hj]
  rfl
theorem get_held (a : AS Int Ct) (k : Int) : (a.get k).held = a.held := by
  unfold Ca.AS.get
  split
  · rfl
  · split <;> rfl
theorem findL_mem {l : List (Int × Ct)} {k : Int} {c : Ct} (h : Ca.findL l k = some c) : (k, c) ∈ l := by
  unfold Ca.findL at h
  cases hq : l.find? fun x => decide (x.1 = k) with
  | none => rw [hq] at h; cases h
  | some x =>
    rw [hq] at h
    have h1 := List.find?_some hq
    have h2 := List.mem_of_find?_eq_some hq
    simp at h h1
    rw [← h1, ← h]
    exact h2
theorem get_clean (a : AS Int Ct) (k : Int) : ∀ x ∈ (a.get k).clean, x ∈ a.clean := by
  intro x hx
  unfold Ca.AS.get at hx
  split at hx
  · exact hx
  · split at hx
    · rename_i c hc
      simp only [List.mem_cons] at hx
      rcases hx with e | e
      · rw [e]; exact findL_mem hc
      · exact (List.mem_filter.1 e).1
    · exact hx
/-- The cache has changed, and holds what it held. -/
theorem SK.cache {w2 w3 : World} {base : Nat} {S : Sto} (h : SK w2 base S) {F' : List Nat} {N' : Nat} {a' : AS Int Ct} (hC : Ca.CA w3 base F' S.pc N' a') (hF : Fr S.FC w2 w3) (hG : Gr w2 S.FC F') (hcl : ∀ x ∈ a'.clean, x ∈ S.a.clean) (hh : a'.held = S.a.held) :
    SK w3 base { S with FC := F', N := N', a := a' } := by
  have hold2 : ∀ k, (k = S.g ∨ k = S.st ∨ k ∈ S.F ∨ k ∈ S.FC ∨ S.sv.ownBlock = some k ∨ k ∈ S.lb) → base ≤ k ∧ k < w2.heap.size := fun k q => h.in_lt q
  have hl : ∀ k ∈ S.lb, w3.heap[k]? = w2.heap[k]? := fun k q => hF.block k (hold2 k (by simp [q])).2 (fun z => h.a3 k z q)
  refine ⟨h.da.of_heap fun k q => hF.block k (hold2 k (by simp [q])).2 (h.a1 k q), (hF.block S.g h.lt_g h.g_apart.2.1).trans h.fk, hC, (hF.block S.st h.lt_st h.st_apart.2.2.1).trans h.sk, ownsRow_heap h.so fun k e => hF.block k (hold2 k (by simp [e])).2 (h.sv_apart e).2.2.2.1, fun k q => ⟨(h.lb k q).1, ?_⟩, h.cl, fun j hj => (h.cv j hj).to (fun k q => q) hl, fun x hx => ?_, hh.trans h.hd, fun k hk q => ?_, h.a2, fun k hk q => ?_, h.bg, h.bs, h.bp⟩
  · obtain ⟨cs, hc⟩ := (h.lb k q).2
    exact ⟨cs, (hl k q).trans hc⟩
  · obtain ⟨v, h1, h2⟩ := h.ck x (hcl x hx)
    exact ⟨v, h1.to (fun k q => q) hl, h2⟩
  · rcases hG k q with z | z
    · exact h.a1 k hk z
    · have := (hold2 k (by simp [hk])).2; omega
  · rcases hG k hk with z | z
    · exact h.a3 k z q
    · have := (hold2 k (by simp [q])).2; omega
set_option maxRecDepth 100000 in
set_option maxHeartbeats 4000000 in
/-- A page that is in memory. -/
theorem oLoad_hit (w : World) (base : Nat) (S : Sto) (h : SK w base S) (hlv : liveF S.D S.ep = 0) (hl : S.cts.length ≤ 100000) (hm : 2 ≤ S.s.ma ∧ S.s.ma ≤ 100000) (hN : S.N < 3000000000000000000) (pg : Int) (hpg : 2 ≤ pg ∧ pg < S.s.ma + S.cts.length) (c : Ct) (hv : S.a.val pg = some c) (kd : Int) (zs : List Int) (hq : CtIs w base S.lb c (kd, zs)) :
    Calls Tryz.prog 125 #[.pointer (some ⟨S.st, 0, none⟩), .int .i64 pg] w fun e w' => ∃ FC v, e = .returned (.tuple #[.int .i64 kd, v, .int .i64 0]) ∧ Own w' w.heap.size v zs ∧ SK w' base { S with FC := FC, N := S.N + 1, a := S.a.get pg } ∧ Fr S.FC w w' ∧ Gr w S.FC FC := by
  have HL := hid (oLive_any w base S h)
  rw [hlv] at HL
  have HA := hid (fun w1 (q : Below w.heap.size w w1) => ohas_any w1 base S (h.below q) hl ⟨by omega, by omega⟩ pg)
  rw [decide_eq_true hpg] at HA
  have H0 := hid h
  have HH := hid (fun w1 (q : Below w.heap.size w w1) => h.below q)
  have HV := hid hv
  have HQ := hid hq
  have HWK := hid (show Ca.wfK pg from ⟨by omega, by omega⟩)
  have HNN := hid hN
  clear h hlv hm hl hN hpg hv hq
  go_enter Tryz.func125, Tryz.ntmps125
  go_wp2_with fail
  refine HL.out.mono ?_
  rintro e w1 ⟨rfl, hb1⟩
  have HB1 := hid hb1
  clear hb1 HL
  go_wp2_with fail
  refine (HA.out w1 HB1.out).mono ?_
  rintro e w2 ⟨rfl, hb2⟩
  have HB2 := hid (HB1.out.trans (hb2.mono HB1.out.size))
  clear hb2 HB1 w1 HA
  have c2 := (HH.out w2 HB2.out).c2
  have HG : Hid (Calls Tryz.prog 158 #[.pointer (some ⟨S.pc, 0, none⟩), .int .i64 pg] w2 fun x w' => x = .returned (.tuple #[.agg #[.int .i64 c.kd, .slice c.sp c.n c.c], .bool true]) ∧ Ca.Nx base S.FC S.pc S.N w2 (S.a.get pg) w') := hid (by
    have := Ca.Get_any w2 base S.FC S.pc S.N S.a (HH.out w2 HB2.out).ca pg HWK.out (by have := HNN.out; omega)
    rw [HV.out] at this
    exact this)
  go_wp2_with fail
  refine HG.out.mono ?_
  rintro e w3 ⟨rfl, F3, hC3, hF3, hG3⟩
  have HS3 := hid ((HH.out w2 HB2.out).cache hC3 hF3 hG3 (get_clean S.a pg) (get_held S.a pg))
  have HFF := hid ((Fr.of_below (F := S.FC) HB2.out).trans hF3 (Gr.refl _ _))
  have HGG : Hid (Gr w S.FC F3) := hid (fun k hk => (hG3 k hk).imp id (fun q => Nat.le_trans HB2.out.size q))
  have HQ3 : Hid (CtIs w3 base S.lb c (kd, zs)) := hid (HQ.out.to (fun k q => q) fun k q => HFF.out.block k (H0.out.in_lt (Or.inr (Or.inr (Or.inr (Or.inr (Or.inr q)))))).2 (fun z => H0.out.a3 k z q))
  clear hC3 hF3 hG3 HG c2 HH HV HNN HWK
  go_wp2_with fail
  have n0 : (w3.alloc (.cells #[.int .i64 c.kd, .slice c.sp c.n c.c] 166)).cell? ⟨w3.heap.size, 0, none⟩ = some (.int .i64 c.kd) := by rw [cell_of_row _ _ _ _ _ _ (hnew w3 _)]; rfl
  have n1 : (w3.alloc (.cells #[.int .i64 c.kd, .slice c.sp c.n c.c] 166)).cell? ⟨w3.heap.size, 1, none⟩ = some (.slice c.sp c.n c.c) := by rw [cell_of_row _ _ _ _ _ _ (hnew w3 _)]; rfl
  have hNl : w3.heap.size < (w3.alloc (.cells #[.int .i64 c.kd, .slice c.sp c.n c.c] 166)).heap.size := by simp
  have HS4 := hid (HS3.out.below (below_new w3 (.cells #[.int .i64 c.kd, .slice c.sp c.n c.c] 166)))
  have HQ4 : Hid (CtIs (w3.alloc (.cells #[.int .i64 c.kd, .slice c.sp c.n c.c] 166)) base S.lb c (kd, zs)) := hid (HQ3.out.to (fun k q => q) fun k q => (below_new w3 _).block k (HS3.out.in_lt (Or.inr (Or.inr (Or.inr (Or.inr (Or.inr q)))))).2)
  have HFF4 := hid (HFF.out.tail (F' := S.FC) (below_new w3 (.cells #[.int .i64 c.kd, .slice c.sp c.n c.c] 166)))
  have HKD := hid (show c.kd = kd from HQ.out.kd)
  clear HS3 HQ3 HFF HQ
  generalize w3.alloc (.cells #[.int .i64 c.kd, .slice c.sp c.n c.c] 166) = W at *
  have HWs : Hid (w.heap.size ≤ W.heap.size) := hid HFF4.out.size
  have HCP : Hid (∀ w', Below W.heap.size W w' → Calls Tryz.prog 160 #[.slice c.sp c.n c.c] w' fun e w5 => ∃ v, e = .returned v ∧ Own w5 w'.heap.size v zs ∧ Below w'.heap.size w' w5) := hid (fun w' q => by
    have hq := HQ4.out.to (w1 := w') (fun k q => q) fun k z => q.block k (HS4.out.in_lt (Or.inr (Or.inr (Or.inr (Or.inr (Or.inr z)))))).2
    obtain ⟨sp, cap, e, hS, hn⟩ := hq.ow.form
    have hle := hq.le
    obtain ⟨e1, e2, e3⟩ := Value.slice.inj e
    subst e1
    subst e3
    rw [e2]
    exact copied_any w' zs c.sp c.c hS hn (by show zs.length ≤ 1000; have : zs.length ≤ 246 := hle; omega))
  refine wp_region_noPanic ?_
  refine wp_region_held_drew (S := fun w' => Below W.heap.size W w') (by kernel_rfl) (Below.refl _ _).drew (fun hHeld => ?_)
  refine wpAnyH_take (i := 0) (oi := { dst := some 56, op := Op.fieldAddr 166 (Operand.tmp 8) 0, type := 0, pos := "store.go:86", after := #[], guard := none }) (v := .pointer (some ⟨w3.heap.size, 0, none⟩)) rfl (by kernel_rfl) (by kernel_rfl) (by kernel_rfl) (fun _ _ _ h => h) (Or.inl ⟨by rfl, by intro w hS; go_simp⟩) hHeld ?_
  try simp only [Act.put, List.setIfInBounds_toArray, List.set_cons_zero, List.set_cons_succ]
  refine wpAnyH_take (i := 2) (oi := { dst := some 58, op := Op.fieldAddr 166 (Operand.tmp 8) 1, type := 0, pos := "store.go:86", after := #[], guard := none }) (v := .pointer (some ⟨w3.heap.size, 1, none⟩)) rfl (by kernel_rfl) (by kernel_rfl) (by kernel_rfl) (fun _ _ _ h => h) (Or.inl ⟨by rfl, by intro w hS; go_simp⟩) hHeld ?_
  try simp only [Act.put, List.setIfInBounds_toArray, List.set_cons_zero, List.set_cons_succ]
  refine wpAnyH_take (i := 1) (oi := { dst := some 57, op := Op.load 3 (Operand.tmp 56), type := 3, pos := "store.go:86", after := #[{ on := 0, ground := Ground.data }], guard := none }) (v := .int .i64 c.kd) rfl (by kernel_rfl) (by kernel_rfl) (by kernel_rfl) (fun _ _ _ h => h) (Or.inl ⟨by rfl, by intro w hS; have hc := (hS.cell (p := ⟨w3.heap.size, 0, none⟩) hNl).trans n0; go_simp⟩) hHeld ?_
  try simp only [Act.put, List.setIfInBounds_toArray, List.set_cons_zero, List.set_cons_succ]
  refine wpAnyH_take (i := 3) (oi := { dst := some 59, op := Op.load 45 (Operand.tmp 58), type := 45, pos := "store.go:86", after := #[{ on := 2, ground := Ground.data }], guard := none }) (v := .slice c.sp c.n c.c) rfl (by kernel_rfl) (by kernel_rfl) (by kernel_rfl) (fun _ _ _ h => h) (Or.inl ⟨by rfl, by intro w hS; have hc := (hS.cell (p := ⟨w3.heap.size, 1, none⟩) hNl).trans n1; go_simp⟩) hHeld ?_
  try simp only [Act.put, List.setIfInBounds_toArray, List.set_cons_zero, List.set_cons_succ]
  refine wpAnyH_ready (rs := [4]) (by kernel_rfl) (by simp) ?_
  refine (AllReadyH.cons (o := { dst := some 60, op := Op.call { callee := Callee.value (Operand.func 160), args := #[Operand.tmp 59], argTypes := #[45] }, type := 45, pos := "store.go:86", after := #[{ on := 3, ground := Ground.data }], guard := none }) rfl (fun K hK => ?_) AllReadyH.nil)
  go_simp
  go_at_call 160
  refine (HCP.out _ hHeld).mono ?_
  rintro e w5 ⟨v5, rfl, hO5, hb5⟩
  obtain ⟨s5, c5, hv5, _, _⟩ := hO5.form
  subst hv5
  have HO5 := hid hO5
  have HB5 := hid hb5
  have HBw := hid hHeld
  clear hO5
  go_wp2_with fail
  refine hK.out _ _ (hHeld.trans (hb5.mono hHeld.size)) (fun hHeld2 => ?_)
  clear hK K hHeld
  have hHeld := hHeld2
  clear hHeld2
  clear hb5
  try simp only [Act.put, List.setIfInBounds_toArray, List.set_cons_zero, List.set_cons_succ]
  refine wpAnyH_take (i := 5) (oi := { dst := some 4, op := Op.assign (Operand.tmp 57), type := 3, pos := "store.go:86", after := #[{ on := 1, ground := Ground.data }, { on := 4, ground := Ground.chain }, { on := 0, ground := Ground.phase }, { on := 1, ground := Ground.phase }, { on := 2, ground := Ground.textOnly Departure.lateStores }, { on := 3, ground := Ground.textOnly Departure.lateStores }, { on := 4, ground := Ground.textOnly Departure.lateStoresUnsure }], guard := none }) (v := .int .i64 c.kd) rfl (by kernel_rfl) (by kernel_rfl) (by kernel_rfl) (fun _ _ _ h => h) (Or.inl ⟨by rfl, by intro w hS; go_simp⟩) hHeld ?_
  try simp only [Act.put, List.setIfInBounds_toArray, List.set_cons_zero, List.set_cons_succ]
  refine wpAnyH_take (i := 6) (oi := { dst := some 5, op := Op.assign (Operand.tmp 60), type := 45, pos := "store.go:86", after := #[{ on := 4, ground := Ground.data }, { on := 5, ground := Ground.chain }, { on := 0, ground := Ground.phase }, { on := 1, ground := Ground.phase }, { on := 2, ground := Ground.phase }, { on := 3, ground := Ground.phase }, { on := 4, ground := Ground.phase }, { on := 5, ground := Ground.phase }], guard := none }) (v := .slice s5 zs.length c5) rfl (by kernel_rfl) (by kernel_rfl) (by kernel_rfl) (fun _ _ _ h => h) (Or.inl ⟨by rfl, by intro w hS; go_simp⟩) hHeld ?_
  try simp only [Act.put, List.setIfInBounds_toArray, List.set_cons_zero, List.set_cons_succ]
  refine wpAnyH_take (i := 7) (oi := { dst := some 6, op := Op.assign (Operand.const (Value.int IntKind.i64 0)), type := 30, pos := "store.go:86", after := #[{ on := 6, ground := Ground.chain }, { on := 0, ground := Ground.phase }, { on := 1, ground := Ground.phase }, { on := 2, ground := Ground.phase }, { on := 3, ground := Ground.phase }, { on := 4, ground := Ground.phase }, { on := 5, ground := Ground.phase }, { on := 6, ground := Ground.phase }], guard := none }) (v := .int IntKind.i64 0) rfl (by kernel_rfl) (by kernel_rfl) (by kernel_rfl) (fun _ _ _ h => h) (Or.inl ⟨by rfl, by intro w hS; go_simp⟩) hHeld ?_
  try simp only [Act.put, List.setIfInBounds_toArray, List.set_cons_zero, List.set_cons_succ]
  refine wpAnyH_done (by kernel_rfl) ?_ _
  refine NoPanic.normal ?_
  have HB6 := hid hHeld
  clear hHeld
  go_wp2
  go_ret3
  exact ⟨F3, .slice s5 zs.length c5, by rw [HKD.out]; rfl, HO5.out.base (Nat.le_trans HWs.out HBw.out.size), HS4.out.below HB6.out, HFF4.out.tail (F' := S.FC) HB6.out, HGG.out⟩
end Go.Proofs.YtjpcegjgandnjaaGreatDoor
namespace Go.Proofs.YtjpcegjgandnjaaGreatDoor
set_option linter.unusedVariables false
set_option linter.unusedSimpArgs false
open Go.RowKit
attribute [local go_sem ↓] Go.wp_at_zero Go.wp_at_succ

def zD : List Int := padz [] 32
def four (x : Int) : List Int := [x % 256, x / 256 % 256, x / 65536 % 256, x / 16777216 % 256]
def numP (t : List Int) (i : Nat) : Int := t.getD i 0 + 256 * t.getD (i + 1) 0 + 65536 * t.getD (i + 2) 0 + 16777216 * t.getD (i + 3) 0
theorem or_nat (A x k : Nat) (hk : k ≤ 24) (hA : A < 2 ^ k) (hx : x < 256) : bits .or .i64 (A : Int) ((x * 2 ^ k : Nat) : Int) = ((A + x * 2 ^ k : Nat) : Int) := by
  have h24 : (2 : Nat) ^ k ≤ 2 ^ 24 := Nat.pow_le_pow_right (by decide) hk
  have hxp : x * 2 ^ k ≤ 255 * 2 ^ 24 := Nat.mul_le_mul (by omega) h24
  show IntKind.i64.wrap ((BitVec.ofInt 64 (A : Int) ||| BitVec.ofInt 64 ((x * 2 ^ k : Nat) : Int)).toNat : Int) = _
  have e1 : (BitVec.ofInt 64 (A : Int)).toNat = A := by rw [BitVec.toNat_ofInt]; omega
  have e2 : (BitVec.ofInt 64 ((x * 2 ^ k : Nat) : Int)).toNat = x * 2 ^ k := by rw [BitVec.toNat_ofInt]; omega
  rw [BitVec.toNat_or, e1, e2, Nat.or_comm, Nat.mul_comm x, ← Nat.two_pow_add_eq_or_of_lt hA, Nat.add_comm, IntKind.wrap_i64]
  rw [Nat.mul_comm] at hxp
  omega
theorem or4 (a b c d : Int) (ha : 0 ≤ a ∧ a < 256) (hb : 0 ≤ b ∧ b < 256) (hc : 0 ≤ c ∧ c < 256) (hd : 0 ≤ d ∧ d < 256) :
    bits .or .i64 (bits .or .i64 (bits .or .i64 a (b * 256)) (c * 65536)) (d * 16777216) = a + 256 * b + 65536 * c + 16777216 * d := by
  obtain ⟨a, rfl⟩ := Int.eq_ofNat_of_zero_le ha.1
  obtain ⟨b, rfl⟩ := Int.eq_ofNat_of_zero_le hb.1
  obtain ⟨c, rfl⟩ := Int.eq_ofNat_of_zero_le hc.1
  obtain ⟨d, rfl⟩ := Int.eq_ofNat_of_zero_le hd.1
  have h1 := or_nat a b 8 (by decide) (by omega) (by omega)
  have h2 := or_nat (a + b * 2 ^ 8) c 16 (by decide) (by omega) (by omega)
  have h3 := or_nat (a + b * 2 ^ 8 + c * 2 ^ 16) d 24 (by decide) (by omega) (by omega)
  rw [show ((b : Int) * 256) = ((b * 2 ^ 8 : Nat) : Int) by omega, h1, show ((c : Int) * 65536) = ((c * 2 ^ 16 : Nat) : Int) by omega, h2, show ((d : Int) * 16777216) = ((d * 2 ^ 24 : Nat) : Int) by omega, h3]
  omega
def Bys (zs : List Int) : Prop := ∀ x ∈ zs, 0 ≤ x ∧ x < 256
theorem Bys.at {zs : List Int} (h : Bys zs) (j : Nat) (hj : j < zs.length) : 0 ≤ zs.getD j 0 ∧ zs.getD j 0 < 256 := h _ (by rw [List.getD_eq_getElem?_getD, List.getElem?_eq_getElem hj]; exact List.getElem_mem _)
/-- A value built, guarded or not. -/
theorem wpList_built {P : Program} {ops : Array Oper} {rest : List Oper} {o : Oper} {a : Act} {w : World} {Q : Exit → Act → World → Prop} (hw : Region.wanted o (yielded ops a.tmps) = true) (t : TypeId) (parts : Array (Nat × Operand)) (ho : o.op = .build t parts) (ps : List (Nat × Value)) (hp : (parts.toList.map fun (i, x) => (i, a.eval x)) = ps) (cs : Array Value) (hb : P.built t ps = some cs)
    (h : wpList P ops Q rest (a.put o.dst (.agg cs)) w) : wpList P ops Q (o :: rest) a w := by
  have e : P.built t (parts.map fun (i, x) => (i, a.eval x)).toList = some cs := by rw [Array.toList_map, hp]; exact hb
  exact BigFrame.wpList_want hw fun _ hK => wp_build t parts ho (by rw [e]; rfl) (by rw [e]; exact hK _ _ h)
/-- A row of bytes compared, at any depth. -/
theorem eqIn_ints {P : Program} {t e : TypeId} {kd : IntKind} {n : Nat} (ht : P.underlying t = some (.array n e)) (hu : P.underlying e = some (.int kd)) (hs : (P.info? e).map (·.size) = some 1) (k : IntKind) (d : Nat) (ax bs : List Int) (ha : ax.length = n) (hb : bs.length = n) (w : World) :
    (Op.equalIn (d + 1 + 1) t (.agg (ax.map (Value.int k)).toArray) (.agg (bs.map (Value.int k)).toArray)).run P w = .ok (decide (ax = bs)) w := by
  obtain ⟨i, hi⟩ := info_of_underlying hu
  have hc : P.cellsOf e = 1 := by simp [Program.cellsOf, hi] at hs ⊢; exact hs
  rw [run_equalIn_array w (d + 1) _ _ ht hi, hc, eqItems_ints hu d k ax bs w _ (fun j hj => by simp at hj; omega), all_range_eq ax bs n ha hb]
theorem part_row {P : Program} {e t : TypeId} {n : Nat} (hu : P.underlying t = some (.array n e)) {m : Nat} (hs : (P.info? t).map (·.size) = some m) (xs : Array Value) (o : Nat) (w : World) : (part t xs o).run P w = .ok (.agg (xs.extract o (o + m))) w := by
  have hagg : (isAgg t).run P w = .ok true w := by
    unfold isAgg
    rw [Sem.run_bind, run_underlying hu w]
    rfl
  obtain ⟨i, hi, rfl⟩ := Option.map_eq_some_iff.1 hs
  simp [part, Sem.run_bind, hagg, sizeOf, typeInfo, hi]
theorem eqFields_cons {P : Program} {d : Nat} {xs ys : Array Value} {f : Field} {fs : List Field} {w : World} {a b : Value} {r : Bool} (hn : f.name ≠ "_") (ha : (part f.type xs f.offset).run P w = .ok a w) (hb : (part f.type ys f.offset).run P w = .ok b w) (hr : (Op.equalIn d f.type a b).run P w = .ok r w) :
    (Op.eqFields d xs ys (f :: fs)).run P w = if r = true then (Op.eqFields d xs ys fs).run P w else .ok false w := by
  simp only [Op.eqFields, ne_eq, hn, not_false_eq_true, if_true, Sem.run_bind, ha, hb, hr, Result.andThen_ok]
  cases r <;> simp
theorem Tryz.sizeD : (Tryz.prog.info? 34).map (·.size) = some 32 := by kernel_rfl
theorem list32 {l : List Value} (h : l.length = 32) : ∃ x0 x1 x2 x3 x4 x5 x6 x7 x8 x9 x10 x11 x12 x13 x14 x15 x16 x17 x18 x19 x20 x21 x22 x23 x24 x25 x26 x27 x28 x29 x30 x31, l = [x0, x1, x2, x3, x4, x5, x6, x7, x8, x9, x10, x11, x12, x13, x14, x15, x16, x17, x18, x19, x20, x21, x22, x23, x24, x25, x26, x27, x28, x29, x30, x31] := by
  match l, h with
  | [x0, x1, x2, x3, x4, x5, x6, x7, x8, x9, x10, x11, x12, x13, x14, x15, x16, x17, x18, x19, x20, x21, x22, x23, x24, x25, x26, x27, x28, x29, x30, x31], _ => exact ⟨x0, x1, x2, x3, x4, x5, x6, x7, x8, x9, x10, x11, x12, x13, x14, x15, x16, x17, x18, x19, x20, x21, x22, x23, x24, x25, x26, x27, x28, x29, x30, x31, rfl⟩
def BK (w0 w : World) (L : List (Nat × List Value × Nat)) : Prop := Below w0.heap.size w0 w ∧ ∀ x, x ∈ L → w.heap[x.1]? = some (.cells x.2.1.toArray x.2.2 (0, 0))
theorem BK.nil (w : World) : BK w w [] := ⟨Below.refl _ _, fun x h => by cases h⟩
theorem BK.row {w0 w : World} {L : List (Nat × List Value × Nat)} (h : BK w0 w L) {b t : Nat} {zs : List Value} (hm : (b, zs, t) ∈ L) : w.heap[b]? = some (.cells zs.toArray t (0, 0)) := h.2 _ hm
theorem BK.lt {w0 w : World} {L : List (Nat × List Value × Nat)} (h : BK w0 w L) {b t : Nat} {zs : List Value} (hm : (b, zs, t) ∈ L) : b < w.heap.size := hlt (h.row hm)
theorem BK.call {w0 w w' : World} {L : List (Nat × List Value × Nat)} (h : BK w0 w L) (hb : Below w.heap.size w w') : BK w0 w' L :=
  ⟨h.1.trans (hb.mono h.1.size), fun x hx => hbel hb (h.2 x hx) (hlt (h.2 x hx))⟩
theorem BK.alloc {w0 w : World} {L : List (Nat × List Value × Nat)} (h : BK w0 w L) (zs : List Value) (t : Nat) : BK w0 (w.alloc (.cells zs.toArray t)) ((w.heap.size, zs, t) :: L) := by
  refine ⟨h.1.alloc h.1.size _, fun x hx => ?_⟩
  rcases List.mem_cons.1 hx with rfl | hx
  · exact hnew w _
  · exact hold (h.2 x hx)
theorem BK.other {w0 w : World} {L : List (Nat × List Value × Nat)} (h : BK w0 w L) (o : Obj) : BK w0 (w.alloc o) L := ⟨h.1.alloc h.1.size _, fun x hx => hold (h.2 x hx)⟩
theorem BK.drew {w0 w : World} {L : List (Nat × List Value × Nat)} (h : BK w0 w L) : BK w0 w.drew L := ⟨h.1.drew, h.2⟩
theorem BK.set {w0 w : World} {L : List (Nat × List Value × Nat)} {b t : Nat} {zs : List Value} (h : BK w0 w ((b, zs, t) :: L)) (hb : w0.heap.size ≤ b) (hL : ∀ x, x ∈ L → x.1 ≠ b) (ys : List Value) : BK w0 (w.setRow b ys.toArray) ((b, ys, t) :: L) := by
  refine ⟨below_setRow h.1 hb _, fun x hx => ?_⟩
  rcases List.mem_cons.1 hx with rfl | hx
  · exact setRow_heap _ _ _ _ _ _ (h.2 _ (.head _))
  · exact (setRow_other _ _ _ _ (hL x hx)).trans (h.2 x (.tail _ hx))
theorem BK.cell {w0 w : World} {L : List (Nat × List Value × Nat)} (h : BK w0 w L) {b t : Nat} {zs : List Value} (hm : (b, zs, t) ∈ L) {j : Nat} {v : Value} (hv : zs[j]? = some v) : w.cell? ⟨b, j, none⟩ = some v := by
  rw [cell_of_row _ _ _ _ _ _ (h.row hm)]; simpa using hv
theorem BK.rng {w0 w : World} {L : List (Nat × List Value × Nat)} (h : BK w0 w L) {b t o : Nat} {zs ps : List Value} (hm : (b, zs, t) ∈ L) (hp : ∀ j v, ps[j]? = some v → zs[o + j]? = some v) : w.rangeAt b o ps := fun j v hv => h.cell hm (hp j v hv)
theorem mid_at (A B C : List Value) (m j : Nat) (hm : A.length = m) (v : Value) (hv : B[j]? = some v) : (A ++ (B ++ C))[m + j]? = some v := by
  have hj := (List.getElem?_eq_some_iff.1 hv).1
  rw [List.getElem?_append_right (by omega), show m + j - A.length = j by omega, List.getElem?_append_left hj]; exact hv
/-- A block made and filled at once. -/
theorem wpList_new {P : Program} {t : TypeId} {Z : List Value} {m : Nat} (hz : ∀ (a : Act) (o : Oper) (w : World), o.op = .alloc t → (execOp a.eval o).run P w = .ok (.value (.pointer (some ⟨w.heap.size, 0, none⟩))) (w.alloc (.cells Z.toArray t))) (hZ : Z.length = m) (hi : (P.info? t).map (·.size) = some m)
    {ops : Array Oper} {rest : List Oper} {o1 o2 : Oper} {a : Act} {w : World} {Q : Exit → Act → World → Prop} (hg1 : o1.guard = none) (ho1 : o1.op = .alloc t) (hg2 : o2.guard = none) (x y : Operand) (ho2 : o2.op = .store t x y) (hd : o2.dst = none)
    (C : List Value) (hx : (a.put o1.dst (.pointer (some ⟨w.heap.size, 0, none⟩))).eval x = .pointer (some ⟨w.heap.size, 0, none⟩)) (hy : (a.put o1.dst (.pointer (some ⟨w.heap.size, 0, none⟩))).eval y = .agg C.toArray) (hC : C.length = m) (h1 : ∀ v ∈ C, v.oneCell' = true)
    (h : wpList P ops Q rest (a.put o1.dst (.pointer (some ⟨w.heap.size, 0, none⟩))) (w.alloc (.cells C.toArray t))) : wpList P ops Q (o1 :: o2 :: rest) a w := by
  refine wpList_plain hg1 fun K hK => ?_
  unfold Oper.wp
  rw [hz a o1 w ho1]
  refine hK _ _ ?_
  refine wpList_store_row hg2 t x y ho2 w.heap.size C.toArray hx hy t Z.toArray (hnew w _) (by rw [hi, List.size_toArray, hC]) (by rw [List.size_toArray, List.size_toArray, hZ, hC]) (all_oneCell_toArray h1) ?_
  rw [hd, setRow_alloc]
  exact h
theorem results_c2i {P : Program} {fn : Func} {p q : Tmp} {ty : TypeId} (h : fn.results = #[.cell p ty, .tmp q]) (tmps : Array Value) (w : World) (g : Nat) (t : TypeId) (cs : Array Value) (fr : Nat × Nat) (d : TypeDesc)
    (hp : tmps.getD p undef = .pointer (some ⟨g, 0, none⟩)) (hg : w.heap[g]? = some (.cells cs t fr))
    (hu : P.underlying ty = some d) (hd : (match d with | .struct _ | .array _ _ => true | _ => false) = true) (hi : (P.info? ty).map (·.size) = some cs.size) :
    (results fn tmps).run P w = .ok (.tuple #[.agg cs, tmps.getD q undef]) w := by
  have hp' : tmps[p]?.getD undef = .pointer (some ⟨g, 0, none⟩) := by simpa using hp
  simp [results, h, hp', asAddr, run_loadVar_row w g t ty cs fr d hg hu hd hi]

/-! Records and their loads, without memory. -/
structure Rc where
  v : Int
  f : Int
  p : Int
  s : Int
  r : Int
  c : Int
  sm : List Int
structure RcOk (x : Rc) : Prop where
  sm : x.sm.length = 32
def rcC (x : Rc) : List Value := [.int .i64 x.v, .int .i64 x.f, .int .i64 x.p, .int .i64 x.s, .int .i64 x.r, .int .i64 x.c] ++ ints .u8 x.sm
theorem rcC_len {x : Rc} (h : RcOk x) : (rcC x).length = 38 := by simp [rcC, ints_len, h.sm]
theorem rcC_one (x : Rc) : ∀ y ∈ rcC x, y.oneCell' = true := fun y hy => by
  simp only [rcC, List.mem_append, List.mem_cons, List.not_mem_nil, or_false] at hy
  rcases hy with (rfl | rfl | rfl | rfl | rfl | rfl) | hy
  · rfl
  · rfl
  · rfl
  · rfl
  · rfl
  · rfl
  · exact ints_one _ _ y hy
def rc0 : Rc := ⟨0, 0, 0, 0, 0, 0, zD⟩
theorem rc0_ok : RcOk rc0 := ⟨rfl⟩
def far (i : Int) : Int := bits .and .i64 i (i - 1)
def numR (v f : Int) : Int := if f = 0 then v else v - f + 1
def VerR (x : Rc) : Prop := 0 ≤ x.f ∧ x.f ≤ x.v ∧ 1 ≤ x.v ∧ x.v ≤ 1073741824
def CntR (x : Rc) : Prop := (x.r = 0 ∧ x.c = 0) ∨ (x.r ≠ 0 ∧ 1 ≤ x.c ∧ x.c ≤ 4096)
def PgR (p : Int) : Prop := 2 ≤ p ∧ p < 4096
def LnkR (x : Rc) : Prop := (numR x.v x.f = 1 ∧ x.p = 0 ∧ x.s = 0) ∨ (numR x.v x.f ≠ 1 ∧ PgR x.p ∧ ((far (numR x.v x.f) = 0 ∧ x.s = 0) ∨ (far (numR x.v x.f) ≠ 0 ∧ ((far (numR x.v x.f) = numR x.v x.f - 1 ∧ x.s = x.p) ∨ (far (numR x.v x.f) ≠ numR x.v x.f - 1 ∧ 2 ≤ x.s ∧ x.s < x.p)))))
def RightR (x : Rc) : Prop := VerR x ∧ (x.r = 0 ∨ PgR x.r) ∧ CntR x ∧ LnkR x
instance (x : Rc) : Decidable (VerR x) := by unfold VerR; infer_instance
instance (x : Rc) : Decidable (CntR x) := by unfold CntR; infer_instance
instance (p : Int) : Decidable (PgR p) := by unfold PgR; infer_instance
instance (x : Rc) : Decidable (LnkR x) := by unfold LnkR; infer_instance
instance (x : Rc) : Decidable (RightR x) := by unfold RightR; infer_instance
def readR (t : List Int) : Rc := ⟨numP t 0, numP t 4, numP t 8, numP t 12, numP t 16, numP t 20, t.drop 24⟩
theorem readR_ok {t : List Int} (h : t.length = 56) : RcOk (readR t) := ⟨by simp [readR]; omega⟩
def decR (t : List Int) : Option Rc := if t.length = 56 ∧ RightR (readR t) then some (readR t) else none
def decRV (t : List Int) : Rc := (decR t).getD rc0
def decRE (t : List Int) : Int := if (decR t).isSome then 0 else 150
theorem decR_right {t : List Int} {x : Rc} (h : decR t = some x) : RightR x ∧ RcOk x ∧ t.length = 56 ∧ x = readR t := by
  unfold decR at h
  split at h
  · rename_i c; cases h; exact ⟨c.2, readR_ok c.1, c.1, rfl⟩
  · cases h
/-- What the lowest digit taken away leaves. -/
theorem far_bd (i : Int) (h0 : 1 ≤ i) (h1 : i ≤ 1073741825) : 0 ≤ far i ∧ far i ≤ i - 1 := by
  obtain ⟨n, rfl⟩ := Int.eq_ofNat_of_zero_le (show 0 ≤ i by omega)
  unfold far
  show 0 ≤ IntKind.i64.wrap ((BitVec.ofInt 64 (n : Int) &&& BitVec.ofInt 64 ((n : Int) - 1)).toNat : Int) ∧ IntKind.i64.wrap ((BitVec.ofInt 64 (n : Int) &&& BitVec.ofInt 64 ((n : Int) - 1)).toNat : Int) ≤ _
  have e2 : (BitVec.ofInt 64 ((n : Int) - 1)).toNat = n - 1 := by rw [BitVec.toNat_ofInt]; omega
  have hle : (BitVec.ofInt 64 (n : Int)).toNat &&& (n - 1) ≤ n - 1 := Nat.and_le_right
  rw [BitVec.toNat_and, e2, IntKind.wrap_i64]
  omega
theorem numR_bd {x : Rc} (h : VerR x) : 1 ≤ numR x.v x.f ∧ numR x.v x.f ≤ 1073741825 := by
  unfold VerR at h; unfold numR; split <;> omega
theorem Tryz.sizeRc : (Tryz.prog.info? 94).map (·.size) = some 38 := by kernel_rfl
theorem built_rc' (v f p s r c : Int) (l : List Value) (hl : l.length = 32) : Tryz.prog.built 94 [(0, .int .i64 v), (1, .int .i64 f), (2, .int .i64 p), (3, .int .i64 s), (4, .int .i64 r), (5, .int .i64 c), (6, .agg l.toArray)] = some ([Value.int .i64 v, .int .i64 f, .int .i64 p, .int .i64 s, .int .i64 r, .int .i64 c] ++ l).toArray := by
  obtain ⟨x0, x1, x2, x3, x4, x5, x6, x7, x8, x9, x10, x11, x12, x13, x14, x15, x16, x17, x18, x19, x20, x21, x22, x23, x24, x25, x26, x27, x28, x29, x30, x31, rfl⟩ := list32 hl
  kernel_rfl
theorem built_rc (x : Rc) (h : RcOk x) : Tryz.prog.built 94 [(0, .int .i64 x.v), (1, .int .i64 x.f), (2, .int .i64 x.p), (3, .int .i64 x.s), (4, .int .i64 x.r), (5, .int .i64 x.c), (6, .agg (ints .u8 x.sm).toArray)] = some (rcC x).toArray := built_rc' _ _ _ _ _ _ _ (by rw [ints_len, h.sm])
theorem built_rc0 : Tryz.prog.built 94 [] = some (rcC rc0).toArray := by kernel_rfl
theorem allocRc (a : Act) (o : Oper) (w : World) (ho : o.op = .alloc 94) : (execOp a.eval o).run Tryz.prog w = .ok (.value (.pointer (some ⟨w.heap.size, 0, none⟩))) (w.alloc (.cells (rcC rc0).toArray 94)) := by
  unfold execOp
  rw [ho]
  kernel_rfl
theorem rcC_sm (x : Rc) (j : Nat) (y : Value) (hy : (ints .u8 x.sm)[j]? = some y) : (rcC x)[6 + j]? = some y := by
  have := mid_at [.int .i64 x.v, .int .i64 x.f, .int .i64 x.p, .int .i64 x.s, .int .i64 x.r, .int .i64 x.c] (ints .u8 x.sm) [] 6 j rfl y hy
  rwa [List.append_nil] at this
end Go.Proofs.YtjpcegjgandnjaaGreatDoor
