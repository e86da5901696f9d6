import Derived.Test.YtblcpcfonnaiiaaDoorD1e
namespace Go.Proofs.YtblcpcfonnaiiaaDoor
set_option linter.unusedVariables false
set_option linter.unusedSimpArgs false
open Go.RowKit
attribute [local go_sem ↓] Go.wp_at_zero Go.wp_at_succ

theorem Keeps.glob {g : Nat} {a b : World} (h : Keeps g a b) (hG : Glob a) (hg : 4 ≤ g) : Glob b := hG.below (h.below_g hg hG.1) (Nat.le_refl _)

theorem Hs.below {w w1 : World} {B g : Nat} {st bk : List Int} {tk : Int} (h : Hs w g st bk tk) (hb : Below B w w1) (hg : g < B) : Hs w1 g st bk tk := ⟨hbel hb h.1 hg, h.2.1, h.2.2⟩
theorem Hs.there {w : World} {g : Nat} {st bk : List Int} {tk : Int} (h : Hs w g st bk tk) (o n : Nat) (hn : o + n ≤ 73) : w.there g o n := fun j hj => by
  have hl := hcells_len st bk tk h.2.1 h.2.2
  refine ⟨?_, frozen_of_row _ _ _ _ _ h.1⟩
  rw [cell_of_row _ _ _ _ _ _ h.1, List.getElem?_toArray, List.getElem?_eq_getElem (by omega)]; rfl
theorem hc_state (st st' bk : List Int) (tk : Int) (h1 : st.length = 8) (h2 : st'.length = 8) : (hcells st bk tk).take 0 ++ ints .u32 st' ++ (hcells st bk tk).drop (0 + (ints .u32 st').length) = hcells st' bk tk := by
  simp only [hcells, List.take_zero, List.nil_append, Nat.zero_add, ints_len, h2]
  rw [List.drop_left' (by rw [ints_len, h1])]
theorem hc_block (st bk bk' : List Int) (tk : Int) (h1 : st.length = 8) (h2 : bk.length = 64) (h3 : bk'.length = 64) : (hcells st bk tk).take 8 ++ ints .u8 bk' ++ (hcells st bk tk).drop (8 + (ints .u8 bk').length) = hcells st bk' tk := by
  simp only [hcells, ints_len, h3]
  rw [List.take_left' (by rw [ints_len, h1]), ← List.append_assoc (ints .u32 st), List.drop_left' (by simp [ints_len, h1, h2]), List.append_assoc]
theorem Hs.set_state {w : World} {g : Nat} {st bk : List Int} {tk : Int} (h : Hs w g st bk tk) (st' : List Int) (hl : st'.length = 8) : w.setCells g 0 (ints .u32 st') = w.setRow g (hcells st' bk tk).toArray ∧ Hs (w.setRow g (hcells st' bk tk).toArray) g st' bk tk := by
  have hz := hcells_len st bk tk h.2.1 h.2.2
  refine ⟨?_, setRow_heap _ _ _ _ _ _ h.1, hl, h.2.2⟩
  rw [setCells_row h.1 (by rw [ints_len]; omega) (ints_one _ _), hc_state st st' bk tk h.2.1 hl]
theorem Hs.set_block {w : World} {g : Nat} {st bk : List Int} {tk : Int} (h : Hs w g st bk tk) (bk' : List Int) (hl : bk'.length = 64) : w.setCells g 8 (ints .u8 bk') = w.setRow g (hcells st bk' tk).toArray ∧ Hs (w.setRow g (hcells st bk' tk).toArray) g st bk' tk := by
  have hz := hcells_len st bk tk h.2.1 h.2.2
  refine ⟨?_, setRow_heap _ _ _ _ _ _ h.1, h.2.1, hl⟩
  rw [setCells_row h.1 (by rw [ints_len]; omega) (ints_one _ _), hc_block st bk bk' tk h.2.1 h.2.2 hl]
theorem mixF_len (st bk : List Int) (h : st.length = 8) (hb : Bd8 st) : (mixF st bk).length = 8 := by
  simp [mixF, h, (roundsTo_ok st (sched bk) h hb 64).2]
theorem mixF_bd (st bk : List Int) : Bd8 (mixF st bk) := fun x hx => by
  unfold mixF at hx
  rw [← List.map_uncurry_zip_eq_zipWith] at hx
  obtain ⟨p, _, rfl⟩ := List.mem_map.1 hx
  exact wrap_bd _

theorem built_zero : Tryd.prog.built 74 [] = some (ints .u8 z64).toArray := by kernel_rfl

set_option maxRecDepth 100000 in
set_option maxHeartbeats 400000 in
theorem mixBlock_any (w : World) (g : Nat) (st bk : List Int) (tk : Int) (h : Hs w g st bk tk) (hbd : Bd8 st) (hG : Glob w) :
    Calls Tryd.prog 38 #[.pointer (some ⟨g, 0, none⟩)] w fun e w' => e = .returned (.tuple #[]) ∧ Hs w' g (mixF st bk) z64 tk ∧ Keeps g w w' := by
  have S1 : w.drew.rangeAt g 0 (ints .u32 st) := h.state
  have S2 : w.drew.rangeAt g 8 (ints .u8 bk) := h.block
  have hd : Hs w.drew g st bk tk := h
  have hGd : Glob w.drew := hG
  go_enter Tryd.func38, Tryd.ntmps38
  go_wp2
  refine wp_region_noPanic ?_
  refine wp_region_any (by kernel_rfl) ?_
  show wpAny _ _ _ _ _ _ _ w.drew
  refine wpAny_take (i := 0) (oi := { dst := some 2, op := Op.move (Operand.tmp 0), type := 58, pos := "digest.go:72", after := #[], guard := none }) (v := .pointer (some ⟨g, 0, none⟩)) rfl (by kernel_rfl) (by kernel_rfl) (by kernel_rfl) (fun _ _ _ h => h) (Or.inl ⟨by rfl, by intro w; go_simp⟩) ?_
  try simp only [Act.put, List.setIfInBounds_toArray, List.set_cons_zero, List.set_cons_succ]
  refine wpAny_take (i := 1) (oi := { dst := some 3, op := Op.move (Operand.tmp 0), type := 58, pos := "digest.go:72", after := #[], guard := none }) (v := .pointer (some ⟨g, 0, none⟩)) rfl (by kernel_rfl) (by kernel_rfl) (by kernel_rfl) (fun _ _ _ h => h) (Or.inl ⟨by rfl, by intro w; go_simp⟩) ?_
  try simp only [Act.put, List.setIfInBounds_toArray, List.set_cons_zero, List.set_cons_succ]
  refine wpAny_take (i := 2) (oi := { dst := some 4, op := Op.nilCheck (Operand.tmp 3), type := 0, pos := "digest.go:72", after := #[{ on := 1, ground := Ground.data }], guard := none }) (v := .pointer (some ⟨g, 0, none⟩)) rfl (by kernel_rfl) (by kernel_rfl) (by kernel_rfl) (fun _ _ _ h => h) (Or.inl ⟨by rfl, by intro w; go_simp⟩) ?_
  try simp only [Act.put, List.setIfInBounds_toArray, List.set_cons_zero, List.set_cons_succ]
  refine wpAny_take (i := 3) (oi := { dst := some 5, op := Op.fieldAddr 77 (Operand.tmp 4) 0, type := 0, pos := "digest.go:72", after := #[{ on := 2, ground := Ground.data }], guard := none }) (v := .pointer (some ⟨g, 0, none⟩)) rfl (by kernel_rfl) (by kernel_rfl) (by kernel_rfl) (fun _ _ _ h => h) (Or.inl ⟨by rfl, by intro w; go_simp⟩) ?_
  try simp only [Act.put, List.setIfInBounds_toArray, List.set_cons_zero, List.set_cons_succ]
  refine wpAny_take (i := 5) (oi := { dst := some 7, op := Op.move (Operand.tmp 0), type := 58, pos := "digest.go:72", after := #[], guard := none }) (v := .pointer (some ⟨g, 0, none⟩)) rfl (by kernel_rfl) (by kernel_rfl) (by kernel_rfl) (fun _ _ _ h => h) (Or.inl ⟨by rfl, by intro w; go_simp⟩) ?_
  try simp only [Act.put, List.setIfInBounds_toArray, List.set_cons_zero, List.set_cons_succ]
  refine wpAny_take (i := 6) (oi := { dst := some 8, op := Op.nilCheck (Operand.tmp 7), type := 0, pos := "digest.go:72", after := #[{ on := 5, ground := Ground.data }], guard := none }) (v := .pointer (some ⟨g, 0, none⟩)) rfl (by kernel_rfl) (by kernel_rfl) (by kernel_rfl) (fun _ _ _ h => h) (Or.inl ⟨by rfl, by intro w; go_simp⟩) ?_
  try simp only [Act.put, List.setIfInBounds_toArray, List.set_cons_zero, List.set_cons_succ]
  refine wpAny_take (i := 7) (oi := { dst := some 9, op := Op.fieldAddr 77 (Operand.tmp 8) 1, type := 0, pos := "digest.go:72", after := #[{ on := 6, ground := Ground.data }], guard := none }) (v := .pointer (some ⟨g, 8, none⟩)) rfl (by kernel_rfl) (by kernel_rfl) (by kernel_rfl) (fun _ _ _ h => h) (Or.inl ⟨by rfl, by intro w; go_simp⟩) ?_
  try simp only [Act.put, List.setIfInBounds_toArray, List.set_cons_zero, List.set_cons_succ]
  refine wpAny_ready (rs := [4, 8]) (by kernel_rfl) (by simp) ?_
  refine AllReady.cons (o := { dst := some 6, op := Op.load 73 (Operand.tmp 5), type := 73, pos := "digest.go:72", after := #[{ on := 3, ground := Ground.data }], guard := none }) rfl (fun K hK => ?_) (AllReady.cons (o := { dst := some 10, op := Op.load 74 (Operand.tmp 9), type := 74, pos := "digest.go:72", after := #[{ on := 7, ground := Ground.data }], guard := none }) rfl (fun K hK => ?_) AllReady.nil)
  · rw [if_pos (by rfl)]
    refine wp_load_mid 73 _ rfl g 0 rfl (ints .u32 st) _ S1 Tryd.underlying73 rfl (by rw [Tryd.size73, ints_len, h.2.1]) ?_
    refine hK _ _ ?_
    try simp only [Act.put, List.setIfInBounds_toArray, List.set_cons_zero, List.set_cons_succ]
    refine wpAny_ready (rs := [8]) (by kernel_rfl) (by simp) ?_
    refine AllReady.cons (o := { dst := some 10, op := Op.load 74 (Operand.tmp 9), type := 74, pos := "digest.go:72", after := #[{ on := 7, ground := Ground.data }], guard := none }) rfl (fun K hK => ?_) AllReady.nil
    rw [if_pos (by rfl)]
    refine wp_load_mid 74 _ rfl g 8 rfl (ints .u8 bk) _ S2 Tryd.underlying74 rfl (by rw [Tryd.size74, ints_len, h.2.2]) ?_
    refine hK _ _ ?_
    try simp only [Act.put, List.setIfInBounds_toArray, List.set_cons_zero, List.set_cons_succ]
    refine wpAny_ready (rs := [9]) (by kernel_rfl) (by simp) ?_
    refine AllReady.cons (o := { dst := some 11, op := Op.call { callee := Callee.value (Operand.func 54), args := #[Operand.tmp 6, Operand.tmp 10], argTypes := #[73, 74] }, type := 73, pos := "digest.go:72", after := #[{ on := 4, ground := Ground.data }, { on := 8, ground := Ground.data }], guard := none }) rfl (fun K hK => ?_) AllReady.nil
    go_simp
    go_at_call 54
    refine (mix_any st bk h.2.1 h.2.2 hbd _ hGd.1 hGd.k).mono ?_
    rintro e w1 ⟨rfl, hb1⟩
    go_wp2_with fail
    try simp only [Act.put, List.setIfInBounds_toArray, List.set_cons_zero, List.set_cons_succ]
    refine wpAny_take (i := 10) (oi := { dst := some 12, op := Op.nilCheck (Operand.tmp 2), type := 0, pos := "digest.go:72", after := #[{ on := 0, ground := Ground.data }, { on := 0, ground := Ground.phase }, { on := 1, ground := Ground.phase }, { on := 2, ground := Ground.phase }, { on := 3, ground := Ground.phase }, { on := 4, ground := Ground.phase }, { on := 5, ground := Ground.phase }, { on := 6, ground := Ground.phase }, { on := 7, ground := Ground.phase }, { on := 8, ground := Ground.phase }, { on := 9, ground := Ground.phase }], guard := none }) (v := .pointer (some ⟨g, 0, none⟩)) rfl (by kernel_rfl) (by kernel_rfl) (by kernel_rfl) (fun _ _ _ h => h) (Or.inl ⟨by rfl, by intro w; go_simp⟩) ?_
    try simp only [Act.put, List.setIfInBounds_toArray, List.set_cons_zero, List.set_cons_succ]
    refine wpAny_take (i := 11) (oi := { dst := some 13, op := Op.fieldAddr 77 (Operand.tmp 12) 0, type := 0, pos := "digest.go:72", after := #[{ on := 10, ground := Ground.data }, { on := 0, ground := Ground.phase }, { on := 1, ground := Ground.phase }, { on := 2, ground := Ground.phase }, { on := 3, ground := Ground.phase }, { on := 4, ground := Ground.phase }, { on := 5, ground := Ground.phase }, { on := 6, ground := Ground.phase }, { on := 7, ground := Ground.phase }, { on := 8, ground := Ground.phase }, { on := 9, ground := Ground.phase }], guard := none }) (v := .pointer (some ⟨g, 0, none⟩)) rfl (by kernel_rfl) (by kernel_rfl) (by kernel_rfl) (fun _ _ _ h => h) (Or.inl ⟨by rfl, by intro w; go_simp⟩) ?_
    try simp only [Act.put, List.setIfInBounds_toArray, List.set_cons_zero, List.set_cons_succ]
    have h1 : Hs w1 g st bk tk := hd.below hb1 (hlt hd.1)
    refine wpAny_ready (rs := [12]) (by kernel_rfl) (by simp) ?_
    refine AllReady.cons (o := { dst := none, op := Op.store 73 (Operand.tmp 13) (Operand.tmp 11), type := 0, pos := "digest.go:72", after := #[{ on := 11, ground := Ground.data }, { on := 9, ground := Ground.data }, { on := 9, ground := Ground.chain }, { on := 0, ground := Ground.phase }, { on := 1, ground := Ground.phase }, { on := 2, ground := Ground.phase }, { on := 3, ground := Ground.phase }, { on := 4, ground := Ground.phase }, { on := 5, ground := Ground.phase }, { on := 6, ground := Ground.phase }, { on := 7, ground := Ground.phase }, { on := 8, ground := Ground.phase }, { on := 9, ground := Ground.phase }], guard := none }) rfl (fun K hK => ?_) AllReady.nil
    rw [if_pos (by rfl)]
    refine wp_store_mid 73 _ _ rfl g 0 (ints .u32 (mixF st bk)).toArray rfl rfl (by rw [ints_size, mixF_len st bk h.2.1 hbd]; exact h1.there 0 8 (by omega)) (by rw [Tryd.size73, ints_size, mixF_len st bk h.2.1 hbd]) (all_oneCell_toArray (ints_one _ _)) ?_
    refine hK _ _ ?_
    clear hK K
    refine wpAny_done (by kernel_rfl) ?_ _
    refine NoPanic.normal ?_
    try simp only [Act.put, List.setIfInBounds_toArray, List.set_cons_zero, List.set_cons_succ, List.toList_toArray]
    obtain ⟨e2, h2⟩ := h1.set_state (mixF st bk) (mixF_len st bk h.2.1 hbd)
    have k2 : Keeps g w (w1.setRow g (hcells (mixF st bk) bk tk).toArray) := (⟨hb1.os, hb1.tape, hb1.output, hb1.size, fun k hk _ => hb1.block k hk⟩ : Keeps g w w1).setRow _
    rw [e2]
    generalize w1.setRow g (hcells (mixF st bk) bk tk).toArray = w2 at *
    have hz64 : z64.length = 64 := rfl
    obtain ⟨e3, h3⟩ := h2.set_block z64 hz64
    have k3 := k2.setRow (hcells (mixF st bk) z64 tk).toArray
    go_wp2_with (first | (refine wpList_build rfl 74 _ rfl (by simp only [List.map_toArray, List.map_nil]; rw [built_zero]; rfl) ?_; simp only [List.map_toArray, List.map_nil, built_zero, Option.getD_some]) | (refine wpList_store_mid rfl 74 _ _ rfl g 8 (ints .u8 z64).toArray rfl rfl (by rw [ints_size, hz64]; exact h2.there 8 64 (by omega)) (by rw [Tryd.size74, ints_size, hz64]) (all_oneCell_toArray (ints_one _ _)) ?_; rw [List.toList_toArray, e3]))
    go_end0
    exact ⟨rfl, h3, k3⟩
  · rw [if_pos (by rfl)]
    refine wp_load_mid 74 _ rfl g 8 rfl (ints .u8 bk) _ S2 Tryd.underlying74 rfl (by rw [Tryd.size74, ints_len, h.2.2]) ?_
    refine hK _ _ ?_
    try simp only [Act.put, List.setIfInBounds_toArray, List.set_cons_zero, List.set_cons_succ]
    refine wpAny_ready (rs := [4]) (by kernel_rfl) (by simp) ?_
    refine AllReady.cons (o := { dst := some 6, op := Op.load 73 (Operand.tmp 5), type := 73, pos := "digest.go:72", after := #[{ on := 3, ground := Ground.data }], guard := none }) rfl (fun K hK => ?_) AllReady.nil
    rw [if_pos (by rfl)]
    refine wp_load_mid 73 _ rfl g 0 rfl (ints .u32 st) _ S1 Tryd.underlying73 rfl (by rw [Tryd.size73, ints_len, h.2.1]) ?_
    refine hK _ _ ?_
    try simp only [Act.put, List.setIfInBounds_toArray, List.set_cons_zero, List.set_cons_succ]
    refine wpAny_ready (rs := [9]) (by kernel_rfl) (by simp) ?_
    refine AllReady.cons (o := { dst := some 11, op := Op.call { callee := Callee.value (Operand.func 54), args := #[Operand.tmp 6, Operand.tmp 10], argTypes := #[73, 74] }, type := 73, pos := "digest.go:72", after := #[{ on := 4, ground := Ground.data }, { on := 8, ground := Ground.data }], guard := none }) rfl (fun K hK => ?_) AllReady.nil
    go_simp
    go_at_call 54
    refine (mix_any st bk h.2.1 h.2.2 hbd _ hGd.1 hGd.k).mono ?_
    rintro e w1 ⟨rfl, hb1⟩
    go_wp2_with fail
    try simp only [Act.put, List.setIfInBounds_toArray, List.set_cons_zero, List.set_cons_succ]
    refine wpAny_take (i := 10) (oi := { dst := some 12, op := Op.nilCheck (Operand.tmp 2), type := 0, pos := "digest.go:72", after := #[{ on := 0, ground := Ground.data }, { on := 0, ground := Ground.phase }, { on := 1, ground := Ground.phase }, { on := 2, ground := Ground.phase }, { on := 3, ground := Ground.phase }, { on := 4, ground := Ground.phase }, { on := 5, ground := Ground.phase }, { on := 6, ground := Ground.phase }, { on := 7, ground := Ground.phase }, { on := 8, ground := Ground.phase }, { on := 9, ground := Ground.phase }], guard := none }) (v := .pointer (some ⟨g, 0, none⟩)) rfl (by kernel_rfl) (by kernel_rfl) (by kernel_rfl) (fun _ _ _ h => h) (Or.inl ⟨by rfl, by intro w; go_simp⟩) ?_
    try simp only [Act.put, List.setIfInBounds_toArray, List.set_cons_zero, List.set_cons_succ]
    refine wpAny_take (i := 11) (oi := { dst := some 13, op := Op.fieldAddr 77 (Operand.tmp 12) 0, type := 0, pos := "digest.go:72", after := #[{ on := 10, ground := Ground.data }, { on := 0, ground := Ground.phase }, { on := 1, ground := Ground.phase }, { on := 2, ground := Ground.phase }, { on := 3, ground := Ground.phase }, { on := 4, ground := Ground.phase }, { on := 5, ground := Ground.phase }, { on := 6, ground := Ground.phase }, { on := 7, ground := Ground.phase }, { on := 8, ground := Ground.phase }, { on := 9, ground := Ground.phase }], guard := none }) (v := .pointer (some ⟨g, 0, none⟩)) rfl (by kernel_rfl) (by kernel_rfl) (by kernel_rfl) (fun _ _ _ h => h) (Or.inl ⟨by rfl, by intro w; go_simp⟩) ?_
    try simp only [Act.put, List.setIfInBounds_toArray, List.set_cons_zero, List.set_cons_succ]
    have h1 : Hs w1 g st bk tk := hd.below hb1 (hlt hd.1)
    refine wpAny_ready (rs := [12]) (by kernel_rfl) (by simp) ?_
    refine AllReady.cons (o := { dst := none, op := Op.store 73 (Operand.tmp 13) (Operand.tmp 11), type := 0, pos := "digest.go:72", after := #[{ on := 11, ground := Ground.data }, { on := 9, ground := Ground.data }, { on := 9, ground := Ground.chain }, { on := 0, ground := Ground.phase }, { on := 1, ground := Ground.phase }, { on := 2, ground := Ground.phase }, { on := 3, ground := Ground.phase }, { on := 4, ground := Ground.phase }, { on := 5, ground := Ground.phase }, { on := 6, ground := Ground.phase }, { on := 7, ground := Ground.phase }, { on := 8, ground := Ground.phase }, { on := 9, ground := Ground.phase }], guard := none }) rfl (fun K hK => ?_) AllReady.nil
    rw [if_pos (by rfl)]
    refine wp_store_mid 73 _ _ rfl g 0 (ints .u32 (mixF st bk)).toArray rfl rfl (by rw [ints_size, mixF_len st bk h.2.1 hbd]; exact h1.there 0 8 (by omega)) (by rw [Tryd.size73, ints_size, mixF_len st bk h.2.1 hbd]) (all_oneCell_toArray (ints_one _ _)) ?_
    refine hK _ _ ?_
    clear hK K
    refine wpAny_done (by kernel_rfl) ?_ _
    refine NoPanic.normal ?_
    try simp only [Act.put, List.setIfInBounds_toArray, List.set_cons_zero, List.set_cons_succ, List.toList_toArray]
    obtain ⟨e2, h2⟩ := h1.set_state (mixF st bk) (mixF_len st bk h.2.1 hbd)
    have k2 : Keeps g w (w1.setRow g (hcells (mixF st bk) bk tk).toArray) := (⟨hb1.os, hb1.tape, hb1.output, hb1.size, fun k hk _ => hb1.block k hk⟩ : Keeps g w w1).setRow _
    rw [e2]
    generalize w1.setRow g (hcells (mixF st bk) bk tk).toArray = w2 at *
    have hz64 : z64.length = 64 := rfl
    obtain ⟨e3, h3⟩ := h2.set_block z64 hz64
    have k3 := k2.setRow (hcells (mixF st bk) z64 tk).toArray
    go_wp2_with (first | (refine wpList_build rfl 74 _ rfl (by simp only [List.map_toArray, List.map_nil]; rw [built_zero]; rfl) ?_; simp only [List.map_toArray, List.map_nil, built_zero, Option.getD_some]) | (refine wpList_store_mid rfl 74 _ _ rfl g 8 (ints .u8 z64).toArray rfl rfl (by rw [ints_size, hz64]; exact h2.there 8 64 (by omega)) (by rw [Tryd.size74, ints_size, hz64]) (all_oneCell_toArray (ints_one _ _)) ?_; rw [List.toList_toArray, e3]))
    go_end0
    exact ⟨rfl, h3, k3⟩
end Go.Proofs.YtblcpcfonnaiiaaDoor
