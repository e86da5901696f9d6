import Derived.Test.YtcifbnldohmbnabWy
namespace Go.Proofs.Ytcifbnldohmbnab
set_option linter.unusedVariables false
set_option linter.unusedSimpArgs false
open Go.RowKit
attribute [local go_sem ↓] Go.wp_at_zero Go.wp_at_succ

theorem xor_bd (x : Int) (h0 : 0 ≤ x) (h1 : x < 256) (m : Nat) (hm : m < 256) : 0 ≤ bits .xor .u8 x (m : Int) ∧ bits .xor .u8 x (m : Int) < 256 := by
  obtain ⟨a, rfl⟩ := Int.eq_ofNat_of_zero_le h0
  rw [xor_u8 a m (by omega) (by omega)]
  have h2 : a ^^^ m < 2 ^ 8 := Nat.xor_lt_two_pow (by omega) (by omega)
  omega
theorem rm_setv (zs : List Int) (j : Nat) (x : Int) (hj : j < zs.length) : (rm zs).set j x = rm (zs.set j x) := by
  unfold rm; rw [List.set_append_left _ _ hj]
theorem Byts.setv {zs : List Int} (h : Byts zs) (j : Nat) (x : Int) (hx : 0 ≤ x ∧ x < 256) : Byts (zs.set j x) := fun y hy => by
  rcases List.mem_or_eq_of_mem_set hy with h1 | rfl
  · exact h y h1
  · exact hx
theorem flat_setj : ∀ (os : List MC) (h : Len34 os) (i j : Nat) (v : Value) (m : MC), i < os.length → j < 34 → encM m = (encM (os.getD i dM)).set j v → (os.flatMap encM).set (i * 34 + j) v = (os.set i m).flatMap encM
  | [], _, i, j, v, m, hi, _, _ => by simp at hi
  | a :: os, h, 0, j, v, m, hi, hj, e => by
    have ha : (encM a).length = 34 := h a (by simp)
    rw [List.flatMap_cons, Nat.zero_mul, Nat.zero_add, List.set_append_left _ _ (by omega), List.set_cons_zero, List.flatMap_cons, e]; rfl
  | a :: os, h, i + 1, j, v, m, hi, hj, e => by
    have ha : (encM a).length = 34 := h a (by simp)
    have ih := flat_setj os (fun m hm => h m (by simp [hm])) i j v m (by simpa using hi) hj (by simpa using e)
    rw [List.flatMap_cons, List.set_append_right _ _ (by omega), ha, show (i + 1) * 34 + j - 34 = i * 34 + j by omega, ih, List.set_cons_succ, List.flatMap_cons]
theorem set_same' {α : Type} (l : List α) (d : α) (i : Nat) (h : i < l.length) : l.set i (l.getD i d) = l := by
  rw [List.getD_eq_getElem?_getD, List.getElem?_eq_getElem h]; exact List.set_getElem_self h
theorem getD_set' {α : Type} (l : List α) (d x : α) (i j : Nat) (hi : i < l.length) : (l.set i x).getD j d = if j = i then x else l.getD j d := by
  by_cases h : j = i
  · subst h
    rw [if_pos rfl, List.getD_eq_getElem?_getD, List.getElem?_set_self hi]; rfl
  · rw [if_neg h, List.getD_eq_getElem?_getD, List.getElem?_set_ne (fun e => h e.symm), ← List.getD_eq_getElem?_getD]
theorem mem_set' {rs : List RC} {i : Nat} {x y : RC} (hi : i < rs.length) (h : y ∈ rs.set i x) : y = x ∨ ∃ j, j < rs.length ∧ j ≠ i ∧ y = rs.getD j dR := by
  obtain ⟨j, hj, rfl⟩ := List.mem_iff_getElem.1 h
  rw [List.length_set] at hj
  by_cases e : i = j
  · subst e; exact Or.inl (by simp)
  · refine Or.inr ⟨j, hj, fun h => e h.symm, ?_⟩
    rw [List.getElem_set_ne e, List.getD_eq_getElem?_getD, List.getElem?_eq_getElem hj]; rfl
theorem fst_apart {rs : List RC} (h : (rs.map Prod.fst).Nodup) {i j : Nat} (hi : i < rs.length) (hj : j < rs.length) (hne : i ≠ j) : (rs.getD i dR).1 ≠ (rs.getD j dR).1 := by
  have hp := List.pairwise_iff_getElem.1 h
  have e : ∀ k (hk : k < rs.length), (rs.getD k dR).1 = (rs.map Prod.fst)[k]'(by simpa using hk) := fun k hk => by
    rw [List.getD_eq_getElem?_getD, List.getElem?_eq_getElem hk]; simp
  rw [e i hi, e j hj]
  rcases Nat.lt_or_ge i j with h1 | h1
  · exact hp i j _ _ h1
  · exact fun q => hp j i _ _ (by omega) q.symm
theorem ints_getU (k : List Int) (j : Nat) (hj : j < k.length) : (ints .u8 k)[j]? = some (.int .u8 (k.getD j 0)) := by
  rw [ints, List.getElem?_map, List.getElem?_eq_getElem hj, List.getD_eq_getElem?_getD, List.getElem?_eq_getElem hj]; rfl
/-- The list with another change of the same place at i. -/
theorem Room.set {w w1 : World} {base hi g h : Nat} {rs : List RC} (r : Room w base hi g h rs) (i : Nat) (hl : i < rs.length) (c : Chg) (ok : OkC c)
    (row : RowM w1 g ((rs.set i ((rs.getD i dR).1, c)).map rmM ++ spM h)) (vi : w1.heap[(rs.getD i dR).1]? = some (.cells (ints .u8 (rm c.val)).toArray 5 (0, 0)))
    (vo : ∀ q, q ≠ g → q ≠ (rs.getD i dR).1 → w1.heap[q]? = w.heap[q]?) : Room w1 base hi g h (rs.set i ((rs.getD i dR).1, c)) := by
  have hmi := getD_mem' rs dR i hl
  have gne : ∀ x ∈ rs, x.1 ≠ g := fun x hx => ne_of_type (r.val x hx) r.row (by decide)
  refine ⟨row, fun y hy => ?_, ?_, fun y hy => ?_, ?_, fun y hy => ?_, ⟨r.bas.1, r.bas.2.1, fun y hy => ?_⟩, ⟨r.top.1, r.top.2.1, fun y hy => ?_⟩, by rw [List.length_set]; exact r.len⟩
  · rcases mem_set' hl hy with rfl | ⟨j, hj, hne, rfl⟩
    · exact vi
    · have hm := getD_mem' rs dR j hj
      rw [vo _ (gne _ hm) (fst_apart r.nod hj hl hne)]; exact r.val _ hm
  · rw [vo h (fun e => ne_of_type r.spr r.row (by decide) e) (fun e => r.hne _ hmi e.symm)]; exact r.spr
  · rcases mem_set' hl hy with rfl | ⟨j, hj, hne, rfl⟩
    · exact ok
    · exact r.ok _ (getD_mem' rs dR j hj)
  · rw [List.map_set]
    have : (rs.map Prod.fst).set i ((rs.getD i dR).1, c).1 = rs.map Prod.fst := by
      have := set_same' (rs.map Prod.fst) 0 i (by simpa using hl)
      rwa [getD_map' Prod.fst rs dR 0 i hl] at this
    rw [this]; exact r.nod
  · rcases mem_set' hl hy with rfl | ⟨j, hj, hne, rfl⟩
    · exact r.hne (rs.getD i dR) hmi
    · exact r.hne _ (getD_mem' rs dR j hj)
  · rcases mem_set' hl hy with rfl | ⟨j, hj, hne, rfl⟩
    · exact r.bas.2.2 (rs.getD i dR) hmi
    · exact r.bas.2.2 _ (getD_mem' rs dR j hj)
  · rcases mem_set' hl hy with rfl | ⟨j, hj, hne, rfl⟩
    · exact r.top.2.2 (rs.getD i dR) hmi
    · exact r.top.2.2 _ (getD_mem' rs dR j hj)
theorem Room.rowAt {w : World} {base hi g h : Nat} {rs : List RC} (r : Room w base hi g h rs) (i : Nat) (hl : i < rs.length) : i < (rs.map rmM ++ spM h).length ∧ (rs.map rmM ++ spM h).getD i dM = rmM (rs.getD i dR) := by
  refine ⟨by simp; omega, ?_⟩
  rw [List.getD_eq_getElem?_getD, List.getElem?_append_left (by simpa using hl), ← List.getD_eq_getElem?_getD, getD_map' rmM rs dR dM i hl]
theorem enc_setK (m : MC) (j : Nat) (x : Int) (hj : j < m.key.length) : encM ⟨m.key.set j x, m.del, m.sv⟩ = (encM m).set j (.int .u8 x) := by
  have := enc_setk m j x hj
  rw [List.setIfInBounds_toArray] at this
  exact (List.toArray_inj this).symm
theorem Room.setKey {w : World} {base hi g h : Nat} {rs : List RC} (r : Room w base hi g h rs) (i : Nat) (hl : i < rs.length) (j : Nat) (hj : j < 32) (y : Int) (hy : 0 ≤ y ∧ y < 256) :
    Room (w.setCell ⟨g, i * 34 + j, none⟩ (.int .u8 y)) base hi g h (rs.set i ((rs.getD i dR).1, ⟨(rs.getD i dR).2.key.set j y, (rs.getD i dR).2.del, (rs.getD i dR).2.val⟩)) := by
  have hmi := getD_mem' rs dR i hl
  have hok := r.ok _ hmi
  have gne : (rs.getD i dR).1 ≠ g := ne_of_type (r.val _ hmi) r.row (by decide)
  refine r.set i hl _ ⟨by rw [List.length_set]; exact hok.1, hok.2.1.setv j y hy, hok.2.2.1, hok.2.2.2⟩ ?_ ?_ fun q hq _ => heap_setCell_other _ _ _ _ hq
  · obtain ⟨h1, h2⟩ := r.rowAt i hl
    unfold RowM
    rw [heap_setCell_same _ _ _ _ _ _ r.row, List.setIfInBounds_toArray, flat_setj _ r.l34 i j _ (rmM ((rs.getD i dR).1, ⟨(rs.getD i dR).2.key.set j y, (rs.getD i dR).2.del, (rs.getD i dR).2.val⟩)) h1 (by omega) (by rw [h2]; exact enc_setK (rmM (rs.getD i dR)) j y (by show j < (rs.getD i dR).2.key.length; rw [hok.1]; exact hj)), List.set_append_left _ _ (by simpa using hl), List.map_set]
  · exact heap_set_far (r.val _ hmi) _ _ gne
theorem Room.setVal {w : World} {base hi g h : Nat} {rs : List RC} (r : Room w base hi g h rs) (i : Nat) (hl : i < rs.length) (k : Nat) (hk : k < (rs.getD i dR).2.val.length) (y : Int) (hy : 0 ≤ y ∧ y < 256) :
    Room (w.setCell ⟨(rs.getD i dR).1, k, none⟩ (.int .u8 y)) base hi g h (rs.set i ((rs.getD i dR).1, ⟨(rs.getD i dR).2.key, (rs.getD i dR).2.del, (rs.getD i dR).2.val.set k y⟩)) := by
  have hmi := getD_mem' rs dR i hl
  have hok := r.ok _ hmi
  have gne : (rs.getD i dR).1 ≠ g := ne_of_type (r.val _ hmi) r.row (by decide)
  refine r.set i hl _ ⟨hok.1, hok.2.1, hok.2.2.1.setv k y hy, by rw [List.length_set]; exact hok.2.2.2⟩ ?_ ?_ fun q _ hq => heap_setCell_other _ _ _ _ hq
  · have : (rs.set i ((rs.getD i dR).1, (⟨(rs.getD i dR).2.key, (rs.getD i dR).2.del, (rs.getD i dR).2.val.set k y⟩ : Chg))).map rmM = rs.map rmM := by
      rw [List.map_set]
      have e : rmM ((rs.getD i dR).1, (⟨(rs.getD i dR).2.key, (rs.getD i dR).2.del, (rs.getD i dR).2.val.set k y⟩ : Chg)) = rmM (rs.getD i dR) := by simp [rmM]
      rw [e]
      have := set_same' (rs.map rmM) dM i (by simpa using hl)
      rwa [getD_map' rmM rs dR dM i hl] at this
    rw [this]
    exact heap_set_far r.row _ _ (fun e => gne e.symm)
  · show (w.setCell ⟨(rs.getD i dR).1, k, none⟩ (.int .u8 y)).heap[_]? = _
    rw [heap_set_ints (r.val _ hmi) k y, rm_setv _ _ _ hk]
def fK (c : Chg) : Chg := ⟨c.key.set 31 (bits .xor .u8 (c.key.getD 31 0) 1), c.del, c.val⟩
def x90 (x : Int) : Int := bits .xor .u8 x 90
def fV (c : Chg) : Chg := ⟨c.key, c.del, c.val.map x90⟩
/-- Nothing else has turned. -/
structure Fr (w wr : World) (base g : Nat) (rs : List RC) : Prop where
  oth : ∀ q, q ≠ g → (∀ x ∈ rs, x.1 ≠ q) → wr.heap[q]? = w.heap[q]?
  bel : Below base w wr
  size : wr.heap.size = w.heap.size
theorem Fr.refl (w : World) (base g : Nat) (rs : List RC) : Fr w w base g rs := ⟨fun _ _ _ => rfl, Below.refl _ _, rfl⟩
theorem Fr.set {w wr : World} {base g : Nat} {rs : List RC} (f : Fr w wr base g rs) (a : Addr) (v : Value) (ha : a.block = g ∨ ∃ x ∈ rs, x.1 = a.block) (hb : base ≤ a.block) : Fr w (wr.setCell a v) base g rs := by
  refine ⟨fun q h1 h2 => ?_, f.bel.setCell hb v, ?_⟩
  · rw [heap_setCell_other _ _ _ _ (fun e => ?_)]
    · exact f.oth q h1 h2
    · rcases ha with h | ⟨x, hx, h⟩
      · exact h1 (by rw [← e] at h; exact h)
      · exact h2 x hx (by rw [h]; exact e.symm)
  · rw [← f.size]; simp [World.setCell]
theorem Fr.drew {w wr : World} {base g : Nat} {rs : List RC} (f : Fr w wr base g rs) : Fr w wr.drew base g rs := ⟨f.oth, f.bel.drew, f.size⟩
theorem Room.drew {w : World} {base hi g h : Nat} {rs : List RC} (r : Room w base hi g h rs) : Room w.drew base hi g h rs := r.keep fun _ _ _ _ => rfl
theorem list_ext_getD {α : Type} {l m : List α} (d : α) (hl : l.length = m.length) (h : ∀ j, j < m.length → l.getD j d = m.getD j d) : l = m := by
  apply List.ext_getElem hl
  intro j h1 h2
  have := h j h2
  rwa [List.getD_eq_getElem?_getD, List.getD_eq_getElem?_getD, List.getElem?_eq_getElem h1, List.getElem?_eq_getElem h2] at this
set_option maxRecDepth 100000 in
set_option maxHeartbeats 2000000 in
theorem turnedK_any (w : World) (base hi g h : Nat) (rs : List RC) (hr : Room w base hi g h rs) :
    Calls Try.prog 21 #[.slice (some ⟨g, 0, none⟩) rs.length (rs.length + 2), .bool false] w fun e w' => e = .returned (.tuple #[]) ∧ Room w' base hi g h (rs.map fun x => (x.1, fK x.2)) ∧ Fr w w' base g rs := by
  have i0 : (rs.length : Int) ≤ 2199023255488 := by have := hr.len; omega
  go_enter Try.func21, Try.ntmps21
  go_wp2
  go_loopw [4] (fun iv wr => ∃ (i : Nat) (rs' : List RC), i ≤ rs.length ∧ iv = .int .i64 i ∧ Room wr base hi g h rs' ∧ rs'.length = rs.length ∧ (∀ j, j < rs.length → rs'.getD j dR = if j < i then ((rs.getD j dR).1, fK (rs.getD j dR).2) else rs.getD j dR) ∧ Fr w wr base g rs) (fun iv _ => rs.length - (intOf iv).toNat)
  case atStart => exact ⟨0, rs, by omega, rfl, hr, rfl, fun j hj => by rw [if_neg (by omega)], Fr.refl _ _ _ _⟩
  case round =>
  clear hr
  obtain ⟨i, rs', hi', rfl, hr, hrl, hg, hf⟩ := hrel
  by_cases hlt : i < rs.length
  · have i1 : (i : Int) < (rs.length : Int) := by omega
    have hl2 : i < rs'.length := by omega
    have hgi := hg i hlt
    rw [if_neg (Nat.lt_irrefl i)] at hgi
    have hok := hr.ok _ (getD_mem' rs' dR i hl2)
    rw [hgi] at hok
    have hyk := hok.2.1.get 31
    have hxb := xor_bd _ hyk.1 hyk.2 1 (by decide)
    have hN := (hr.setKey i hl2 31 (by decide) _ hxb).drew
    rw [hgi] at hN
    have c31 : wr.drew.cell? ⟨g, i * 34 + 31, none⟩ = some (.int .u8 ((rs.getD i dR).2.key.getD 31 0)) := by
      obtain ⟨h1, h2⟩ := hr.drew.rowAt i hl2
      have hrg := hr.drew.row.rng hr.l34 i h1
      rw [h2, hgi] at hrg
      refine hrg 31 _ ?_
      have hl31 : 31 < (rs.getD i dR).2.key.length := by rw [hok.1]; decide
      rw [encM, List.getElem?_append_left (by simp [ints, rmM]; exact hl31)]
      exact ints_getU _ 31 hl31
    have fz : wr.drew.frozen? ⟨g, i * 34 + 31, none⟩ = false := frozen_of_row _ _ _ _ _ hr.drew.row
    have hmem : rs.getD i dR ∈ rs := getD_mem' rs dR i hlt
    have HFN := hid ((hf.set ⟨g, i * 34 + 31, none⟩ (.int .u8 (bits .xor .u8 ((rs.getD i dR).2.key.getD 31 0) 1)) (Or.inl rfl) hr.bas.1).drew)
    have HRN := hid hN
    have HLN := hid (show (rs'.set i ((rs.getD i dR).1, ⟨(rs.getD i dR).2.key.set 31 (bits .xor .u8 ((rs.getD i dR).2.key.getD 31 0) 1), (rs.getD i dR).2.del, (rs.getD i dR).2.val⟩)).length = rs.length by rw [List.length_set]; exact hrl)
    have HGN := hid (show ∀ j, j < rs.length → (rs'.set i ((rs.getD i dR).1, ⟨(rs.getD i dR).2.key.set 31 (bits .xor .u8 ((rs.getD i dR).2.key.getD 31 0) 1), (rs.getD i dR).2.del, (rs.getD i dR).2.val⟩)).getD j dR = if j < i + 1 then ((rs.getD j dR).1, fK (rs.getD j dR).2) else rs.getD j dR from fun j hj => by
      rw [getD_set' _ _ _ _ _ hl2]
      by_cases e : j = i
      · subst e; rw [if_pos rfl, if_pos (by omega)]; rfl
      · rw [if_neg e, hg j hj]
        by_cases h1 : j < i
        · rw [if_pos h1, if_pos (by omega)]
        · rw [if_neg h1, if_neg (by omega)])
    clear hN hg hgi hok hyk hxb hr hf hrl hmem
    generalize (rs.getD i dR).2.key.getD 31 0 = x31 at *
    go_wp2
    refine wp_region_noPanic ?_
    refine wp_region_held_drew (S := fun _ => True) (by kernel_rfl) trivial (fun hHeld => ?_)
    refine wpAnyH_take (i := 0) (oi := { dst := some 14, op := Op.move (Operand.tmp 0), type := 28, pos := "law.go:156", after := #[], guard := none }) (v := .slice (some ⟨g, 0, none⟩) rs.length (rs.length + 2)) rfl (by kernel_rfl) (by kernel_rfl) (by kernel_rfl) (fun _ _ _ h => h) (Or.inl ⟨by rfl, by intro w hS; go_simp⟩) hHeld ?_
    try simp only [Act.put, List.setIfInBounds_toArray, List.set_cons_zero, List.set_cons_succ]
    refine wpAnyH_take (i := 1) (oi := { dst := some 15, op := Op.move (Operand.tmp 4), type := 3, pos := "law.go:156", after := #[], guard := none }) (v := .int .i64 i) rfl (by kernel_rfl) (by kernel_rfl) (by kernel_rfl) (fun _ _ _ h => h) (Or.inl ⟨by rfl, by intro w hS; go_simp⟩) hHeld ?_
    try simp only [Act.put, List.setIfInBounds_toArray, List.set_cons_zero, List.set_cons_succ]
    refine wpAnyH_take (i := 2) (oi := { dst := some 16, op := Op.move (Operand.tmp 0), type := 28, pos := "law.go:156", after := #[], guard := none }) (v := .slice (some ⟨g, 0, none⟩) rs.length (rs.length + 2)) rfl (by kernel_rfl) (by kernel_rfl) (by kernel_rfl) (fun _ _ _ h => h) (Or.inl ⟨by rfl, by intro w hS; go_simp⟩) hHeld ?_
    try simp only [Act.put, List.setIfInBounds_toArray, List.set_cons_zero, List.set_cons_succ]
    refine wpAnyH_take (i := 3) (oi := { dst := some 17, op := Op.move (Operand.tmp 4), type := 3, pos := "law.go:156", after := #[], guard := none }) (v := .int .i64 i) rfl (by kernel_rfl) (by kernel_rfl) (by kernel_rfl) (fun _ _ _ h => h) (Or.inl ⟨by rfl, by intro w hS; go_simp⟩) hHeld ?_
    try simp only [Act.put, List.setIfInBounds_toArray, List.set_cons_zero, List.set_cons_succ]
    refine wpAnyH_take (i := 4) (oi := { dst := some 18, op := Op.indexAddr 28 (Operand.tmp 16) (Operand.tmp 17), type := 0, pos := "law.go:156", after := #[{ on := 2, ground := Ground.data }, { on := 3, ground := Ground.data }], guard := none }) (v := .pointer (some ⟨g, i * 34, none⟩)) rfl (by kernel_rfl) (by kernel_rfl) (by kernel_rfl) (fun _ _ _ h => h) (Or.inl ⟨by rfl, by intro w hS; go_simp⟩) hHeld ?_
    try simp only [Act.put, List.setIfInBounds_toArray, List.set_cons_zero, List.set_cons_succ]
    refine wpAnyH_take (i := 9) (oi := { dst := some 23, op := Op.indexAddr 28 (Operand.tmp 14) (Operand.tmp 15), type := 0, pos := "law.go:156", after := #[{ on := 0, ground := Ground.data }, { on := 1, ground := Ground.data }], guard := none }) (v := .pointer (some ⟨g, i * 34, none⟩)) rfl (by kernel_rfl) (by kernel_rfl) (by kernel_rfl) (fun _ _ _ h => h) (Or.inl ⟨by rfl, by intro w hS; go_simp⟩) hHeld ?_
    try simp only [Act.put, List.setIfInBounds_toArray, List.set_cons_zero, List.set_cons_succ]
    refine wpAnyH_take (i := 5) (oi := { dst := some 19, op := Op.fieldAddr 52 (Operand.tmp 18) 0, type := 0, pos := "law.go:156", after := #[{ on := 4, ground := Ground.data }], guard := none }) (v := .pointer (some ⟨g, i * 34, none⟩)) rfl (by kernel_rfl) (by kernel_rfl) (by kernel_rfl) (fun _ _ _ h => h) (Or.inl ⟨by rfl, by intro w hS; go_simp⟩) hHeld ?_
    try simp only [Act.put, List.setIfInBounds_toArray, List.set_cons_zero, List.set_cons_succ]
    refine wpAnyH_take (i := 10) (oi := { dst := some 24, op := Op.fieldAddr 52 (Operand.tmp 23) 0, type := 0, pos := "law.go:156", after := #[{ on := 9, ground := Ground.data }], guard := none }) (v := .pointer (some ⟨g, i * 34, none⟩)) rfl (by kernel_rfl) (by kernel_rfl) (by kernel_rfl) (fun _ _ _ h => h) (Or.inl ⟨by rfl, by intro w hS; go_simp⟩) hHeld ?_
    try simp only [Act.put, List.setIfInBounds_toArray, List.set_cons_zero, List.set_cons_succ]
    refine wpAnyH_take (i := 6) (oi := { dst := some 20, op := Op.indexAddr 26 (Operand.tmp 19) (Operand.const (Value.int IntKind.i64 31)), type := 0, pos := "law.go:156", after := #[{ on := 5, ground := Ground.data }], guard := none }) (v := .pointer (some ⟨g, i * 34 + 31, none⟩)) rfl (by kernel_rfl) (by kernel_rfl) (by kernel_rfl) (fun _ _ _ h => h) (Or.inl ⟨by rfl, by intro w hS; go_simp⟩) hHeld ?_
    try simp only [Act.put, List.setIfInBounds_toArray, List.set_cons_zero, List.set_cons_succ]
    refine wpAnyH_ready (rs := [7]) (by kernel_rfl) (by simp) ?_
    refine (AllReadyH.cons (o := { dst := some 21, op := Op.load 5 (Operand.tmp 20), type := 5, pos := "law.go:156", after := #[{ on := 6, ground := Ground.data }], guard := none }) rfl (fun K hK => ?_) AllReadyH.nil)
    go_simp
    refine hK.out _ _ (trivial) (fun hHeld2 => ?_)
    clear hK K hHeld
    have hHeld := hHeld2
    clear hHeld2
    try simp only [Act.put, List.setIfInBounds_toArray, List.set_cons_zero, List.set_cons_succ]
    refine wpAnyH_take (i := 8) (oi := { dst := some 22, op := Op.binOp BinOp.xor 5 (Operand.tmp 21) (Operand.const (Value.int IntKind.u8 1)) 5, type := 5, pos := "law.go:156", after := #[{ on := 7, ground := Ground.data }], guard := none }) (v := .int .u8 (bits .xor .u8 x31 1)) rfl (by kernel_rfl) (by kernel_rfl) (by kernel_rfl) (fun _ _ _ h => h) (Or.inl ⟨by rfl, by intro w hS; go_simp⟩) hHeld ?_
    try simp only [Act.put, List.setIfInBounds_toArray, List.set_cons_zero, List.set_cons_succ]
    refine wpAnyH_take (i := 11) (oi := { dst := some 25, op := Op.indexAddr 26 (Operand.tmp 24) (Operand.const (Value.int IntKind.i64 31)), type := 0, pos := "law.go:156", after := #[{ on := 10, ground := Ground.data }, { on := 0, ground := Ground.phase }, { on := 1, ground := Ground.phase }, { on := 2, ground := Ground.phase }, { on := 3, ground := Ground.phase }, { on := 4, ground := Ground.phase }, { on := 5, ground := Ground.phase }, { on := 6, ground := Ground.phase }, { on := 7, ground := Ground.phase }, { on := 8, ground := Ground.phase }], guard := none }) (v := .pointer (some ⟨g, i * 34 + 31, none⟩)) rfl (by kernel_rfl) (by kernel_rfl) (by kernel_rfl) (fun _ _ _ h => h) (Or.inl ⟨by rfl, by intro w hS; go_simp⟩) hHeld ?_
    try simp only [Act.put, List.setIfInBounds_toArray, List.set_cons_zero, List.set_cons_succ]
    refine wpAnyH_ready (rs := [12]) (by kernel_rfl) (by simp) ?_
    refine (AllReadyH.cons (o := { dst := none, op := Op.store 5 (Operand.tmp 25) (Operand.tmp 22), type := 0, pos := "law.go:156", after := #[{ on := 11, ground := Ground.data }, { on := 8, ground := Ground.data }, { on := 0, ground := Ground.phase }, { on := 1, ground := Ground.phase }, { on := 2, ground := Ground.phase }, { on := 3, ground := Ground.phase }, { on := 4, ground := Ground.phase }, { on := 5, ground := Ground.phase }, { on := 6, ground := Ground.phase }, { on := 7, ground := Ground.phase }, { on := 8, ground := Ground.phase }], guard := none }) rfl (fun K hK => ?_) AllReadyH.nil)
    go_simp
    refine hK.out _ _ (trivial) (fun hHeld2 => ?_)
    clear hK K hHeld
    have hHeld := hHeld2
    clear hHeld2
    try simp only [Act.put, List.setIfInBounds_toArray, List.set_cons_zero, List.set_cons_succ]
    refine wpAnyH_done (by kernel_rfl) ?_ _
    refine NoPanic.normal ?_
    clear hHeld
    generalize (wr.setCell ⟨g, i * 34 + 31, none⟩ (.int .u8 (bits .xor .u8 x31 1))).drew = W at *
    clear c31 fz
    go_wp2
    go_loopw [5] (fun kv wr => kv = .int .i64 0 ∧ wr = W) (fun _ _ => 0)
    case atStart => exact ⟨rfl, rfl⟩
    case round =>
      obtain ⟨rfl, rfl⟩ := hrel
      go_wp2
      go_roundw
      case rel => exact ⟨i + 1, _, by omega, by go_num, HRN.out, HLN.out, HGN.out, HFN.out⟩
      case measure => simp [intOf]; omega
  · obtain rfl : i = rs.length := by omega
    have i1 : ¬ (rs.length : Int) < (rs.length : Int) := by omega
    have he : rs' = rs.map fun x => (x.1, fK x.2) := list_ext_getD dR (by rw [List.length_map]; exact hrl) fun j hj => by
      rw [List.length_map] at hj
      rw [hg j hj, if_pos hj, getD_map' _ rs dR dR j hj]
    subst he
    clear hlt hg
    go_wp2
    go_end0
    exact ⟨rfl, hr, hf⟩
theorem Room.cellv {w : World} {base hi g h : Nat} {rs : List RC} (r : Room w base hi g h rs) (i : Nat) (hl : i < rs.length) : w.cell? ⟨g, i * 34 + 33, none⟩ = some (.slice (some ⟨(rs.getD i dR).1, 0, none⟩) (rs.getD i dR).2.val.length ((rs.getD i dR).2.val.length + 100)) := by
  obtain ⟨h1, h2⟩ := r.rowAt i hl
  have := r.row.cellv r.l34 i h1 (by rw [h2]; exact (r.ok _ (getD_mem' rs dR i hl)).1)
  rw [h2] at this
  exact this
theorem Room.byte {w : World} {base hi g h : Nat} {rs : List RC} (r : Room w base hi g h rs) (i : Nat) (hl : i < rs.length) (k : Nat) (hk : k < (rs.getD i dR).2.val.length) : w.cell? ⟨(rs.getD i dR).1, k, none⟩ = some (.int .u8 ((rs.getD i dR).2.val.getD k 0)) := by
  have := cell_ints (r.val _ (getD_mem' rs dR i hl)) k (by rw [rm_len]; omega)
  rwa [rm_lo hk] at this
def part (f : Int → Int) (val : List Int) (k : Nat) : List Int := (val.take k).map f ++ val.drop k
theorem part_len (f : Int → Int) (val : List Int) (k : Nat) (hk : k ≤ val.length) : (part f val k).length = val.length := by simp [part]; omega
theorem part_get (f : Int → Int) (val : List Int) (k : Nat) (hk : k < val.length) : (part f val k).getD k 0 = val.getD k 0 := by
  unfold part
  rw [List.getD_eq_getElem?_getD, List.getElem?_append_right (by simp; omega), List.length_map, List.length_take, Nat.min_eq_left (by omega), Nat.sub_self, List.getElem?_drop, Nat.add_zero, ← List.getD_eq_getElem?_getD]
theorem part_set (f : Int → Int) (val : List Int) (k : Nat) (hk : k < val.length) : (part f val k).set k (f (val.getD k 0)) = part f val (k + 1) := by
  unfold part
  have hl : ((val.take k).map f).length = k := by rw [List.length_map, List.length_take]; omega
  rw [List.set_append_right _ _ (by omega), hl, Nat.sub_self, List.drop_eq_getElem_cons hk, List.set_cons_zero, List.take_succ_eq_append_getElem hk, List.map_append, List.append_assoc, List.getD_eq_getElem?_getD, List.getElem?_eq_getElem hk]; rfl
set_option maxRecDepth 100000 in
set_option maxHeartbeats 2000000 in
theorem turnedV_any (w : World) (base hi g h : Nat) (rs : List RC) (hr : Room w base hi g h rs) :
    Calls Try.prog 21 #[.slice (some ⟨g, 0, none⟩) rs.length (rs.length + 2), .bool true] w fun e w' => e = .returned (.tuple #[]) ∧ Room w' base hi g h (rs.map fun x => (x.1, fV x.2)) ∧ Fr w w' base g rs := by
  have i0 : (rs.length : Int) ≤ 2199023255488 := by have := hr.len; omega
  go_enter Try.func21, Try.ntmps21
  go_wp2
  go_loopw [4] (fun iv wr => ∃ (i : Nat) (rs' : List RC), i ≤ rs.length ∧ iv = .int .i64 i ∧ Room wr base hi g h rs' ∧ rs'.length = rs.length ∧ (∀ j, j < rs.length → rs'.getD j dR = if j < i then ((rs.getD j dR).1, fV (rs.getD j dR).2) else rs.getD j dR) ∧ Fr w wr base g rs) (fun iv _ => rs.length - (intOf iv).toNat)
  case atStart => exact ⟨0, rs, by omega, rfl, hr, rfl, fun j hj => by rw [if_neg (by omega)], Fr.refl _ _ _ _⟩
  case round =>
  clear hr
  obtain ⟨i, rs', hi', rfl, hr, hrl, hg, hf⟩ := hrel
  by_cases hlt : i < rs.length
  · have i1 : (i : Int) < (rs.length : Int) := by omega
    have hgi := hg i hlt
    rw [if_neg (Nat.lt_irrefl i)] at hgi
    have hgp : rs.getD i dR ∈ rs := getD_mem' rs dR i hlt
    have hvl := (hr.ok _ (getD_mem' rs' dR i (by omega))).2.2.2
    rw [hgi] at hvl
    obtain ⟨G, hG⟩ : ∃ G, G = (rs.getD i dR).1 := ⟨_, rfl⟩
    obtain ⟨c, hc⟩ : ∃ c, c = (rs.getD i dR).2 := ⟨_, rfl⟩
    have HG := hid hG
    have HC := hid hc
    have HGP := hid hgp
    have HGI := hid hgi
    have HRL := hid hrl
    have HGG := hid hg
    rw [← hc] at hvl
    have i2 : (c.val.length : Int) ≤ 140737488351232 := by omega
    clear hG hc hgp hgi hrl hg
    go_wp2
    go_loopw [5] (fun kv wr => ∃ (k : Nat) (rs2 : List RC), k ≤ c.val.length ∧ kv = .int .i64 k ∧ Room wr base hi g h rs2 ∧ rs2.length = rs.length ∧ (∀ j, j < rs.length → rs2.getD j dR = if j = i then (G, ⟨c.key, c.del, part x90 c.val k⟩) else rs'.getD j dR) ∧ Fr w wr base g rs) (fun kv _ => c.val.length - (intOf kv).toNat)
    case atStart =>
      refine ⟨0, rs', by omega, rfl, hr, HRL.out, fun j hj => ?_, hf⟩
      by_cases e : j = i
      · subst e; rw [if_pos rfl, HGI.out, HG.out, HC.out]; simp [part]
      · rw [if_neg e]
    case round =>
    clear hr hf
    obtain ⟨k, rs2, hk, rfl, hr, hrl, hg, hf⟩ := hrel
    have hl2 : i < rs2.length := by omega
    have hgi := hg i hlt
    rw [if_pos rfl] at hgi
    have hpl := part_len x90 c.val k hk
    have cv := hr.cellv i hl2
    rw [hgi] at cv
    simp only [hpl] at cv
    by_cases hlk : k < c.val.length
    · have k1 : (k : Int) < (c.val.length : Int) := by omega
      have hkp : k < (rs2.getD i dR).2.val.length := by rw [hgi]; show k < (part x90 c.val k).length; omega
      have ck := hr.byte i hl2 k hkp
      rw [hgi] at ck
      simp only [part_get x90 c.val k hlk] at ck
      have hyk : 0 ≤ c.val.getD k 0 ∧ c.val.getD k 0 < 256 := by
        have := (hr.ok _ (getD_mem' rs2 dR i hl2)).2.2.1.get k
        rw [hgi] at this
        simpa only [part_get x90 c.val k hlk] using this
      have hxb := xor_bd _ hyk.1 hyk.2 90 (by decide)
      have hN := (hr.setVal i hl2 k hkp _ hxb).drew
      have cvN := hN.cellv i (by rw [List.length_set]; exact hl2)
      rw [getD_set' _ _ _ _ _ hl2, if_pos rfl] at cvN
      rw [hgi] at hN cvN
      simp only [List.length_set, hpl] at cvN
      have hps := part_set x90 c.val k hlk
      have hps2 : (part x90 c.val k).set k (bits .xor .u8 (c.val.getD k 0) ((90 : Nat) : Int)) = part x90 c.val (k + 1) := hps
      simp only [hps2] at hN
      have fz : wr.drew.frozen? ⟨G, k, none⟩ = false := by
        have := frozen_of_row _ _ k _ _ (hr.val _ (getD_mem' rs2 dR i hl2))
        rw [hgi] at this
        exact this
      have ck' : wr.drew.cell? ⟨G, k, none⟩ = some (.int .u8 (c.val.getD k 0)) := ck
      have HFN := hid ((hf.set ⟨G, k, none⟩ (.int .u8 (bits .xor .u8 (c.val.getD k 0) 90)) (Or.inr ⟨_, HGP.out, HG.out.symm⟩) (by have := hr.bas.2.2 _ (getD_mem' rs2 dR i hl2); rw [hgi] at this; exact this)).drew)
      have HRN := hid hN
      have HCN := hid cvN
      have HLN := hid (show (rs2.set i (G, (⟨c.key, c.del, part x90 c.val (k + 1)⟩ : Chg))).length = rs.length by rw [List.length_set]; exact hrl)
      have HGN := hid (show ∀ j, j < rs.length → (rs2.set i (G, (⟨c.key, c.del, part x90 c.val (k + 1)⟩ : Chg))).getD j dR = if j = i then (G, ⟨c.key, c.del, part x90 c.val (k + 1)⟩) else rs'.getD j dR from fun j hj => by
        rw [getD_set' _ _ _ _ _ hl2]
        by_cases e : j = i
        · rw [if_pos e, if_pos e]
        · rw [if_neg e, if_neg e, hg j hj, if_neg e])
      clear hN cvN hps hps2 hxb hyk ck hkp hgi hg hr hf hrl hpl
      have ck := ck'
      clear ck'
      generalize c.val.getD k 0 = xk at *
      generalize hvv : c.val.length = vl at *
      clear hvv
      go_wp2
      refine wp_region_noPanic ?_
      refine wp_region_held_drew (S := fun w' => w'.cell? ⟨g, i * 34 + 33, none⟩ = some (.slice (some ⟨G, 0, none⟩) vl (vl + 100))) (by kernel_rfl) cv (fun hHeld => ?_)
      refine wpAnyH_take (i := 0) (oi := { dst := some 39, op := Op.move (Operand.tmp 0), type := 28, pos := "law.go:159", after := #[], guard := none }) (v := .slice (some ⟨g, 0, none⟩) rs.length (rs.length + 2)) rfl (by kernel_rfl) (by kernel_rfl) (by kernel_rfl) (fun _ _ _ h => h) (Or.inl ⟨by rfl, by intro w hS; go_simp⟩) hHeld ?_
      try simp only [Act.put, List.setIfInBounds_toArray, List.set_cons_zero, List.set_cons_succ]
      refine wpAnyH_take (i := 1) (oi := { dst := some 40, op := Op.move (Operand.tmp 4), type := 3, pos := "law.go:159", after := #[], guard := none }) (v := .int .i64 i) rfl (by kernel_rfl) (by kernel_rfl) (by kernel_rfl) (fun _ _ _ h => h) (Or.inl ⟨by rfl, by intro w hS; go_simp⟩) hHeld ?_
      try simp only [Act.put, List.setIfInBounds_toArray, List.set_cons_zero, List.set_cons_succ]
      refine wpAnyH_take (i := 5) (oi := { dst := some 44, op := Op.move (Operand.tmp 5), type := 3, pos := "law.go:159", after := #[], guard := none }) (v := .int .i64 k) rfl (by kernel_rfl) (by kernel_rfl) (by kernel_rfl) (fun _ _ _ h => h) (Or.inl ⟨by rfl, by intro w hS; go_simp⟩) hHeld ?_
      try simp only [Act.put, List.setIfInBounds_toArray, List.set_cons_zero, List.set_cons_succ]
      refine wpAnyH_take (i := 6) (oi := { dst := some 45, op := Op.move (Operand.tmp 0), type := 28, pos := "law.go:159", after := #[], guard := none }) (v := .slice (some ⟨g, 0, none⟩) rs.length (rs.length + 2)) rfl (by kernel_rfl) (by kernel_rfl) (by kernel_rfl) (fun _ _ _ h => h) (Or.inl ⟨by rfl, by intro w hS; go_simp⟩) hHeld ?_
      try simp only [Act.put, List.setIfInBounds_toArray, List.set_cons_zero, List.set_cons_succ]
      refine wpAnyH_take (i := 7) (oi := { dst := some 46, op := Op.move (Operand.tmp 4), type := 3, pos := "law.go:159", after := #[], guard := none }) (v := .int .i64 i) rfl (by kernel_rfl) (by kernel_rfl) (by kernel_rfl) (fun _ _ _ h => h) (Or.inl ⟨by rfl, by intro w hS; go_simp⟩) hHeld ?_
      try simp only [Act.put, List.setIfInBounds_toArray, List.set_cons_zero, List.set_cons_succ]
      refine wpAnyH_take (i := 11) (oi := { dst := some 50, op := Op.move (Operand.tmp 5), type := 3, pos := "law.go:159", after := #[], guard := none }) (v := .int .i64 k) rfl (by kernel_rfl) (by kernel_rfl) (by kernel_rfl) (fun _ _ _ h => h) (Or.inl ⟨by rfl, by intro w hS; go_simp⟩) hHeld ?_
      try simp only [Act.put, List.setIfInBounds_toArray, List.set_cons_zero, List.set_cons_succ]
      refine wpAnyH_take (i := 2) (oi := { dst := some 41, op := Op.indexAddr 28 (Operand.tmp 39) (Operand.tmp 40), type := 0, pos := "law.go:159", after := #[{ on := 0, ground := Ground.data }, { on := 1, ground := Ground.data }], guard := none }) (v := .pointer (some ⟨g, i * 34, none⟩)) rfl (by kernel_rfl) (by kernel_rfl) (by kernel_rfl) (fun _ _ _ h => h) (Or.inl ⟨by rfl, by intro w hS; go_simp⟩) hHeld ?_
      try simp only [Act.put, List.setIfInBounds_toArray, List.set_cons_zero, List.set_cons_succ]
      refine wpAnyH_take (i := 8) (oi := { dst := some 47, op := Op.indexAddr 28 (Operand.tmp 45) (Operand.tmp 46), type := 0, pos := "law.go:159", after := #[{ on := 6, ground := Ground.data }, { on := 7, ground := Ground.data }], guard := none }) (v := .pointer (some ⟨g, i * 34, none⟩)) rfl (by kernel_rfl) (by kernel_rfl) (by kernel_rfl) (fun _ _ _ h => h) (Or.inl ⟨by rfl, by intro w hS; go_simp⟩) hHeld ?_
      try simp only [Act.put, List.setIfInBounds_toArray, List.set_cons_zero, List.set_cons_succ]
      refine wpAnyH_take (i := 3) (oi := { dst := some 42, op := Op.fieldAddr 52 (Operand.tmp 41) 2, type := 0, pos := "law.go:159", after := #[{ on := 2, ground := Ground.data }], guard := none }) (v := .pointer (some ⟨g, i * 34 + 33, none⟩)) rfl (by kernel_rfl) (by kernel_rfl) (by kernel_rfl) (fun _ _ _ h => h) (Or.inl ⟨by rfl, by intro w hS; go_simp⟩) hHeld ?_
      try simp only [Act.put, List.setIfInBounds_toArray, List.set_cons_zero, List.set_cons_succ]
      refine wpAnyH_take (i := 9) (oi := { dst := some 48, op := Op.fieldAddr 52 (Operand.tmp 47) 2, type := 0, pos := "law.go:159", after := #[{ on := 8, ground := Ground.data }], guard := none }) (v := .pointer (some ⟨g, i * 34 + 33, none⟩)) rfl (by kernel_rfl) (by kernel_rfl) (by kernel_rfl) (fun _ _ _ h => h) (Or.inl ⟨by rfl, by intro w hS; go_simp⟩) hHeld ?_
      try simp only [Act.put, List.setIfInBounds_toArray, List.set_cons_zero, List.set_cons_succ]
      refine wpAnyH_take (i := 4) (oi := { dst := some 43, op := Op.load 27 (Operand.tmp 42), type := 27, pos := "law.go:159", after := #[{ on := 3, ground := Ground.data }], guard := none }) (v := .slice (some ⟨G, 0, none⟩) vl (vl + 100)) rfl (by kernel_rfl) (by kernel_rfl) (by kernel_rfl) (fun _ _ _ h => h) (Or.inl ⟨by rfl, by intro w hS; have hc := hS; go_simp⟩) hHeld ?_
      try simp only [Act.put, List.setIfInBounds_toArray, List.set_cons_zero, List.set_cons_succ]
      refine wpAnyH_take (i := 10) (oi := { dst := some 49, op := Op.load 27 (Operand.tmp 48), type := 27, pos := "law.go:159", after := #[{ on := 9, ground := Ground.data }], guard := none }) (v := .slice (some ⟨G, 0, none⟩) vl (vl + 100)) rfl (by kernel_rfl) (by kernel_rfl) (by kernel_rfl) (fun _ _ _ h => h) (Or.inl ⟨by rfl, by intro w hS; have hc := hS; go_simp⟩) hHeld ?_
      try simp only [Act.put, List.setIfInBounds_toArray, List.set_cons_zero, List.set_cons_succ]
      refine wpAnyH_take (i := 12) (oi := { dst := some 51, op := Op.indexAddr 27 (Operand.tmp 49) (Operand.tmp 50), type := 0, pos := "law.go:159", after := #[{ on := 10, ground := Ground.data }, { on := 11, ground := Ground.data }], guard := none }) (v := .pointer (some ⟨G, k, none⟩)) rfl (by kernel_rfl) (by kernel_rfl) (by kernel_rfl) (fun _ _ _ h => h) (Or.inl ⟨by rfl, by intro w hS; go_simp⟩) hHeld ?_
      try simp only [Act.put, List.setIfInBounds_toArray, List.set_cons_zero, List.set_cons_succ]
      refine wpAnyH_ready (rs := [13]) (by kernel_rfl) (by simp) ?_
      refine (AllReadyH.cons (o := { dst := some 52, op := Op.load 5 (Operand.tmp 51), type := 5, pos := "law.go:159", after := #[{ on := 12, ground := Ground.data }], guard := none }) rfl (fun K hK => ?_) AllReadyH.nil)
      go_simp
      refine hK.out _ _ (hHeld) (fun hHeld2 => ?_)
      clear hK K hHeld
      have hHeld := hHeld2
      clear hHeld2
      try simp only [Act.put, List.setIfInBounds_toArray, List.set_cons_zero, List.set_cons_succ]
      refine wpAnyH_take (i := 14) (oi := { dst := some 53, op := Op.binOp BinOp.xor 5 (Operand.tmp 52) (Operand.const (Value.int IntKind.u8 90)) 5, type := 5, pos := "law.go:159", after := #[{ on := 13, ground := Ground.data }], guard := none }) (v := .int .u8 (bits .xor .u8 xk 90)) rfl (by kernel_rfl) (by kernel_rfl) (by kernel_rfl) (fun _ _ _ h => h) (Or.inl ⟨by rfl, by intro w hS; go_simp⟩) hHeld ?_
      try simp only [Act.put, List.setIfInBounds_toArray, List.set_cons_zero, List.set_cons_succ]
      refine wpAnyH_take (i := 15) (oi := { dst := some 54, op := Op.indexAddr 27 (Operand.tmp 43) (Operand.tmp 44), type := 0, pos := "law.go:159", after := #[{ on := 4, ground := Ground.data }, { on := 5, ground := Ground.data }, { on := 0, ground := Ground.phase }, { on := 1, ground := Ground.phase }, { on := 2, ground := Ground.phase }, { on := 3, ground := Ground.phase }, { on := 4, ground := Ground.phase }, { on := 5, ground := Ground.phase }, { on := 6, ground := Ground.phase }, { on := 7, ground := Ground.phase }, { on := 8, ground := Ground.phase }, { on := 9, ground := Ground.phase }, { on := 10, ground := Ground.phase }, { on := 11, ground := Ground.phase }, { on := 12, ground := Ground.phase }, { on := 13, ground := Ground.phase }, { on := 14, ground := Ground.phase }], guard := none }) (v := .pointer (some ⟨G, k, none⟩)) rfl (by kernel_rfl) (by kernel_rfl) (by kernel_rfl) (fun _ _ _ h => h) (Or.inl ⟨by rfl, by intro w hS; go_simp⟩) hHeld ?_
      try simp only [Act.put, List.setIfInBounds_toArray, List.set_cons_zero, List.set_cons_succ]
      refine wpAnyH_ready (rs := [16]) (by kernel_rfl) (by simp) ?_
      refine (AllReadyH.cons (o := { dst := none, op := Op.store 5 (Operand.tmp 54) (Operand.tmp 53), type := 0, pos := "law.go:159", after := #[{ on := 15, ground := Ground.data }, { on := 14, ground := Ground.data }, { on := 0, ground := Ground.phase }, { on := 1, ground := Ground.phase }, { on := 2, ground := Ground.phase }, { on := 3, ground := Ground.phase }, { on := 4, ground := Ground.phase }, { on := 5, ground := Ground.phase }, { on := 6, ground := Ground.phase }, { on := 7, ground := Ground.phase }, { on := 8, ground := Ground.phase }, { on := 9, ground := Ground.phase }, { on := 10, ground := Ground.phase }, { on := 11, ground := Ground.phase }, { on := 12, ground := Ground.phase }, { on := 13, ground := Ground.phase }, { on := 14, ground := Ground.phase }], guard := none }) rfl (fun K hK => ?_) AllReadyH.nil)
      go_simp
      refine hK.out _ _ (HCN.out) (fun hHeld2 => ?_)
      clear hK K hHeld
      have hHeld := hHeld2
      clear hHeld2
      try simp only [Act.put, List.setIfInBounds_toArray, List.set_cons_zero, List.set_cons_succ]
      refine wpAnyH_done (by kernel_rfl) ?_ _
      refine NoPanic.normal ?_
      clear hHeld cv ck fz
      generalize (wr.setCell ⟨G, k, none⟩ (.int .u8 (bits .xor .u8 xk 90))).drew = W at *
      go_wp2
      go_roundw
      case rel => exact ⟨k + 1, _, by omega, by go_num, HRN.out, HLN.out, HGN.out, HFN.out⟩
      case measure => simp [intOf]; omega
    · obtain rfl : k = c.val.length := by omega
      have k1 : ¬ (c.val.length : Int) < (c.val.length : Int) := by omega
      have HE := hid (show ∀ j, j < rs.length → rs2.getD j dR = if j < i + 1 then ((rs.getD j dR).1, fV (rs.getD j dR).2) else rs.getD j dR from fun j hj => by
        rw [hg j hj]
        by_cases e : j = i
        · subst e
          rw [if_pos rfl, if_pos (by omega), ← HG.out, ← HC.out]
          simp [part, fV]
        · rw [if_neg e, HGG.out j hj]
          by_cases h1 : j < i
          · rw [if_pos h1, if_pos (by omega)]
          · rw [if_neg h1, if_neg (by omega)])
      have HRL2 := hid hrl
      clear hlk hg hgi hpl hrl
      go_wp2
      go_roundw
      case rel => exact ⟨i + 1, rs2, by omega, by go_num, hr, HRL2.out, HE.out, hf⟩
      case measure => simp [intOf]; omega
  · obtain rfl : i = rs.length := by omega
    have i1 : ¬ (rs.length : Int) < (rs.length : Int) := by omega
    have he : rs' = rs.map fun x => (x.1, fV x.2) := list_ext_getD dR (by rw [List.length_map]; exact hrl) fun j hj => by
      rw [List.length_map] at hj
      rw [hg j hj, if_pos hj, getD_map' _ rs dR dR j hj]
    subst he
    clear hlt hg
    go_wp2
    go_end0
    exact ⟨rfl, hr, hf⟩
end Go.Proofs.Ytcifbnldohmbnab
