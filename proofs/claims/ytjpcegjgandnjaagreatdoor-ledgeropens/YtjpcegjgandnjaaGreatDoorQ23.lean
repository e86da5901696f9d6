import Derived.Test.YtjpcegjgandnjaaGreatDoorQ22
namespace Go.Proofs.YtjpcegjgandnjaaGreatDoor
set_option linter.unusedVariables false
set_option linter.unusedSimpArgs false
open Go.RowKit
attribute [local go_sem ↓] Go.wp_at_zero Go.wp_at_succ

theorem Keeps.glob {g : Nat} {a b : World} (h : Keeps g a b) (hG : Glob a) (hg : 22 ≤ g) : Glob b := hG.below (h.below_g hg hG.1) (Nat.le_refl _)

theorem Hsh.below {w w1 : World} {B g : Nat} {st bk : List Int} {tk : Int} (h : Hsh w g st bk tk) (hb : Below B w w1) (hg : g < B) : Hsh w1 g st bk tk := ⟨hbel hb h.1 hg, h.2.1, h.2.2⟩
theorem Hsh.there {w : World} {g : Nat} {st bk : List Int} {tk : Int} (h : Hsh w g st bk tk) (o n : Nat) (hn : o + n ≤ 73) : w.there g o n := fun j hj => by
  have hl := hcells_len st bk tk h.2.1 h.2.2
  refine ⟨?_, frozen_of_row _ _ _ _ _ h.1⟩
  rw [cell_of_row _ _ _ _ _ _ h.1, List.getElem?_toArray, List.getElem?_eq_getElem (by omega)]; rfl
theorem hc_state (st st' bk : List Int) (tk : Int) (h1 : st.length = 8) (h2 : st'.length = 8) : (hcells st bk tk).take 0 ++ ints .u32 st' ++ (hcells st bk tk).drop (0 + (ints .u32 st').length) = hcells st' bk tk := by
  simp only [hcells, List.take_zero, List.nil_append, Nat.zero_add, ints_len, h2]
  rw [List.drop_left' (by rw [ints_len, h1])]
theorem hc_block (st bk bk' : List Int) (tk : Int) (h1 : st.length = 8) (h2 : bk.length = 64) (h3 : bk'.length = 64) : (hcells st bk tk).take 8 ++ ints .u8 bk' ++ (hcells st bk tk).drop (8 + (ints .u8 bk').length) = hcells st bk' tk := by
  simp only [hcells, ints_len, h3]
  rw [List.take_left' (by rw [ints_len, h1]), ← List.append_assoc (ints .u32 st), List.drop_left' (by simp [ints_len, h1, h2]), List.append_assoc]
theorem Hsh.set_state {w : World} {g : Nat} {st bk : List Int} {tk : Int} (h : Hsh w g st bk tk) (st' : List Int) (hl : st'.length = 8) : w.setCells g 0 (ints .u32 st') = w.setRow g (hcells st' bk tk).toArray ∧ Hsh (w.setRow g (hcells st' bk tk).toArray) g st' bk tk := by
  have hz := hcells_len st bk tk h.2.1 h.2.2
  refine ⟨?_, setRow_heap _ _ _ _ _ _ h.1, hl, h.2.2⟩
  rw [setCells_row h.1 (by rw [ints_len]; omega) (ints_one _ _), hc_state st st' bk tk h.2.1 hl]
theorem Hsh.set_block {w : World} {g : Nat} {st bk : List Int} {tk : Int} (h : Hsh w g st bk tk) (bk' : List Int) (hl : bk'.length = 64) : w.setCells g 8 (ints .u8 bk') = w.setRow g (hcells st bk' tk).toArray ∧ Hsh (w.setRow g (hcells st bk' tk).toArray) g st bk' tk := by
  have hz := hcells_len st bk tk h.2.1 h.2.2
  refine ⟨?_, setRow_heap _ _ _ _ _ _ h.1, h.2.1, hl⟩
  rw [setCells_row h.1 (by rw [ints_len]; omega) (ints_one _ _), hc_block st bk bk' tk h.2.1 h.2.2 hl]
theorem mixF_len (st bk : List Int) (h : st.length = 8) (hb : Bd8 st) : (mixF st bk).length = 8 := by
  simp [mixF, h, (roundsTo_ok st (sched bk) h hb 64).2]
theorem mixF_bd (st bk : List Int) : Bd8 (mixF st bk) := fun x hx => by
  unfold mixF at hx
  rw [← List.map_uncurry_zip_eq_zipWith] at hx
  obtain ⟨p, _, rfl⟩ := List.mem_map.1 hx
  exact wrap_bd _

theorem built_zero : Tryz.prog.built 177 [] = some (ints .u8 z64).toArray := by kernel_rfl

set_option maxRecDepth 100000 in
set_option maxHeartbeats 400000 in
theorem mixBlock_any (w : World) (g : Nat) (st bk : List Int) (tk : Int) (h : Hsh w g st bk tk) (hbd : Bd8 st) (hG : Glob w) :
    Calls Tryz.prog 86 #[.pointer (some ⟨g, 0, none⟩)] w fun e w' => e = .returned (.tuple #[]) ∧ Hsh w' g (mixF st bk) z64 tk ∧ Keeps g w w' := by
  have S1 : w.drew.rangeAt g 0 (ints .u32 st) := h.state
  have S2 : w.drew.rangeAt g 8 (ints .u8 bk) := h.block
  have hd : Hsh w.drew g st bk tk := h
  have hGd : Glob w.drew := hG
  go_enter Tryz.func86, Tryz.ntmps86
  go_wp2
  refine wp_region_noPanic ?_
  refine wp_region_any (by kernel_rfl) ?_
  show wpAny _ _ _ _ _ _ _ w.drew
  refine wpAny_take (i := 0) (oi := { dst := some 2, op := Op.move (Operand.tmp 0), type := 134, pos := "digest.go:72", after := #[], guard := none }) (v := .pointer (some ⟨g, 0, none⟩)) rfl (by kernel_rfl) (by kernel_rfl) (by kernel_rfl) (fun _ _ _ h => h) (Or.inl ⟨by rfl, by intro w; go_simp⟩) ?_
  try simp only [Act.put, List.setIfInBounds_toArray, List.set_cons_zero, List.set_cons_succ]
  refine wpAny_take (i := 1) (oi := { dst := some 3, op := Op.move (Operand.tmp 0), type := 134, pos := "digest.go:72", after := #[], guard := none }) (v := .pointer (some ⟨g, 0, none⟩)) rfl (by kernel_rfl) (by kernel_rfl) (by kernel_rfl) (fun _ _ _ h => h) (Or.inl ⟨by rfl, by intro w; go_simp⟩) ?_
  try simp only [Act.put, List.setIfInBounds_toArray, List.set_cons_zero, List.set_cons_succ]
  refine wpAny_take (i := 2) (oi := { dst := some 4, op := Op.nilCheck (Operand.tmp 3), type := 0, pos := "digest.go:72", after := #[{ on := 1, ground := Ground.data }], guard := none }) (v := .pointer (some ⟨g, 0, none⟩)) rfl (by kernel_rfl) (by kernel_rfl) (by kernel_rfl) (fun _ _ _ h => h) (Or.inl ⟨by rfl, by intro w; go_simp⟩) ?_
  try simp only [Act.put, List.setIfInBounds_toArray, List.set_cons_zero, List.set_cons_succ]
  refine wpAny_take (i := 3) (oi := { dst := some 5, op := Op.fieldAddr 180 (Operand.tmp 4) 0, type := 0, pos := "digest.go:72", after := #[{ on := 2, ground := Ground.data }], guard := none }) (v := .pointer (some ⟨g, 0, none⟩)) rfl (by kernel_rfl) (by kernel_rfl) (by kernel_rfl) (fun _ _ _ h => h) (Or.inl ⟨by rfl, by intro w; go_simp⟩) ?_
  try simp only [Act.put, List.setIfInBounds_toArray, List.set_cons_zero, List.set_cons_succ]
  refine wpAny_take (i := 5) (oi := { dst := some 7, op := Op.move (Operand.tmp 0), type := 134, pos := "digest.go:72", after := #[], guard := none }) (v := .pointer (some ⟨g, 0, none⟩)) rfl (by kernel_rfl) (by kernel_rfl) (by kernel_rfl) (fun _ _ _ h => h) (Or.inl ⟨by rfl, by intro w; go_simp⟩) ?_
  try simp only [Act.put, List.setIfInBounds_toArray, List.set_cons_zero, List.set_cons_succ]
  refine wpAny_take (i := 6) (oi := { dst := some 8, op := Op.nilCheck (Operand.tmp 7), type := 0, pos := "digest.go:72", after := #[{ on := 5, ground := Ground.data }], guard := none }) (v := .pointer (some ⟨g, 0, none⟩)) rfl (by kernel_rfl) (by kernel_rfl) (by kernel_rfl) (fun _ _ _ h => h) (Or.inl ⟨by rfl, by intro w; go_simp⟩) ?_
  try simp only [Act.put, List.setIfInBounds_toArray, List.set_cons_zero, List.set_cons_succ]
  refine wpAny_take (i := 7) (oi := { dst := some 9, op := Op.fieldAddr 180 (Operand.tmp 8) 1, type := 0, pos := "digest.go:72", after := #[{ on := 6, ground := Ground.data }], guard := none }) (v := .pointer (some ⟨g, 8, none⟩)) rfl (by kernel_rfl) (by kernel_rfl) (by kernel_rfl) (fun _ _ _ h => h) (Or.inl ⟨by rfl, by intro w; go_simp⟩) ?_
  try simp only [Act.put, List.setIfInBounds_toArray, List.set_cons_zero, List.set_cons_succ]
  refine wpAny_ready (rs := [4, 8]) (by kernel_rfl) (by simp) ?_
  refine AllReady.cons (o := { dst := some 6, op := Op.load 176 (Operand.tmp 5), type := 176, pos := "digest.go:72", after := #[{ on := 3, ground := Ground.data }], guard := none }) rfl (fun K hK => ?_) (AllReady.cons (o := { dst := some 10, op := Op.load 177 (Operand.tmp 9), type := 177, pos := "digest.go:72", after := #[{ on := 7, ground := Ground.data }], guard := none }) rfl (fun K hK => ?_) AllReady.nil)
  · rw [if_pos (by rfl)]
    refine wp_load_mid 176 _ rfl g 0 rfl (ints .u32 st) _ S1 Tryz.underlying176 rfl (by rw [Tryz.size176, ints_len, h.2.1]) ?_
    refine hK _ _ ?_
    try simp only [Act.put, List.setIfInBounds_toArray, List.set_cons_zero, List.set_cons_succ]
    refine wpAny_ready (rs := [8]) (by kernel_rfl) (by simp) ?_
    refine AllReady.cons (o := { dst := some 10, op := Op.load 177 (Operand.tmp 9), type := 177, pos := "digest.go:72", after := #[{ on := 7, ground := Ground.data }], guard := none }) rfl (fun K hK => ?_) AllReady.nil
    rw [if_pos (by rfl)]
    refine wp_load_mid 177 _ rfl g 8 rfl (ints .u8 bk) _ S2 Tryz.underlying177 rfl (by rw [Tryz.size177, ints_len, h.2.2]) ?_
    refine hK _ _ ?_
    try simp only [Act.put, List.setIfInBounds_toArray, List.set_cons_zero, List.set_cons_succ]
    refine wpAny_ready (rs := [9]) (by kernel_rfl) (by simp) ?_
    refine AllReady.cons (o := { dst := some 11, op := Op.call { callee := Callee.value (Operand.func 122), args := #[Operand.tmp 6, Operand.tmp 10], argTypes := #[176, 177] }, type := 176, pos := "digest.go:72", after := #[{ on := 4, ground := Ground.data }, { on := 8, ground := Ground.data }], guard := none }) rfl (fun K hK => ?_) AllReady.nil
    go_simp
    go_at_call 122
    refine (mix_any st bk h.2.1 h.2.2 hbd _ hGd.1 hGd.k).mono ?_
    rintro e w1 ⟨rfl, hb1⟩
    go_wp2_with fail
    try simp only [Act.put, List.setIfInBounds_toArray, List.set_cons_zero, List.set_cons_succ]
    refine wpAny_take (i := 10) (oi := { dst := some 12, op := Op.nilCheck (Operand.tmp 2), type := 0, pos := "digest.go:72", after := #[{ on := 0, ground := Ground.data }, { on := 0, ground := Ground.phase }, { on := 1, ground := Ground.phase }, { on := 2, ground := Ground.phase }, { on := 3, ground := Ground.phase }, { on := 4, ground := Ground.phase }, { on := 5, ground := Ground.phase }, { on := 6, ground := Ground.phase }, { on := 7, ground := Ground.phase }, { on := 8, ground := Ground.phase }, { on := 9, ground := Ground.phase }], guard := none }) (v := .pointer (some ⟨g, 0, none⟩)) rfl (by kernel_rfl) (by kernel_rfl) (by kernel_rfl) (fun _ _ _ h => h) (Or.inl ⟨by rfl, by intro w; go_simp⟩) ?_
    try simp only [Act.put, List.setIfInBounds_toArray, List.set_cons_zero, List.set_cons_succ]
    refine wpAny_take (i := 11) (oi := { dst := some 13, op := Op.fieldAddr 180 (Operand.tmp 12) 0, type := 0, pos := "digest.go:72", after := #[{ on := 10, ground := Ground.data }, { on := 0, ground := Ground.phase }, { on := 1, ground := Ground.phase }, { on := 2, ground := Ground.phase }, { on := 3, ground := Ground.phase }, { on := 4, ground := Ground.phase }, { on := 5, ground := Ground.phase }, { on := 6, ground := Ground.phase }, { on := 7, ground := Ground.phase }, { on := 8, ground := Ground.phase }, { on := 9, ground := Ground.phase }], guard := none }) (v := .pointer (some ⟨g, 0, none⟩)) rfl (by kernel_rfl) (by kernel_rfl) (by kernel_rfl) (fun _ _ _ h => h) (Or.inl ⟨by rfl, by intro w; go_simp⟩) ?_
    try simp only [Act.put, List.setIfInBounds_toArray, List.set_cons_zero, List.set_cons_succ]
    have h1 : Hsh w1 g st bk tk := hd.below hb1 (hlt hd.1)
    refine wpAny_ready (rs := [12]) (by kernel_rfl) (by simp) ?_
    refine AllReady.cons (o := { dst := none, op := Op.store 176 (Operand.tmp 13) (Operand.tmp 11), type := 0, pos := "digest.go:72", after := #[{ on := 11, ground := Ground.data }, { on := 9, ground := Ground.data }, { on := 9, ground := Ground.chain }, { on := 0, ground := Ground.phase }, { on := 1, ground := Ground.phase }, { on := 2, ground := Ground.phase }, { on := 3, ground := Ground.phase }, { on := 4, ground := Ground.phase }, { on := 5, ground := Ground.phase }, { on := 6, ground := Ground.phase }, { on := 7, ground := Ground.phase }, { on := 8, ground := Ground.phase }, { on := 9, ground := Ground.phase }], guard := none }) rfl (fun K hK => ?_) AllReady.nil
    rw [if_pos (by rfl)]
    refine wp_store_mid 176 _ _ rfl g 0 (ints .u32 (mixF st bk)).toArray rfl rfl (by rw [ints_size, mixF_len st bk h.2.1 hbd]; exact h1.there 0 8 (by omega)) (by rw [Tryz.size176, ints_size, mixF_len st bk h.2.1 hbd]) (all_oneCell_toArray (ints_one _ _)) ?_
    refine hK _ _ ?_
    clear hK K
    refine wpAny_done (by kernel_rfl) ?_ _
    refine NoPanic.normal ?_
    try simp only [Act.put, List.setIfInBounds_toArray, List.set_cons_zero, List.set_cons_succ, List.toList_toArray]
    obtain ⟨e2, h2⟩ := h1.set_state (mixF st bk) (mixF_len st bk h.2.1 hbd)
    have k2 : Keeps g w (w1.setRow g (hcells (mixF st bk) bk tk).toArray) := (⟨hb1.os, hb1.tape, hb1.output, hb1.size, fun k hk _ => hb1.block k hk⟩ : Keeps g w w1).setRow _
    rw [e2]
    generalize w1.setRow g (hcells (mixF st bk) bk tk).toArray = w2 at *
    have hz64 : z64.length = 64 := rfl
    obtain ⟨e3, h3⟩ := h2.set_block z64 hz64
    have k3 := k2.setRow (hcells (mixF st bk) z64 tk).toArray
    go_wp2_with (first | (refine wpList_build rfl 177 _ rfl (by simp only [List.map_toArray, List.map_nil]; rw [built_zero]; rfl) ?_; simp only [List.map_toArray, List.map_nil, built_zero, Option.getD_some]) | (refine wpList_store_mid rfl 177 _ _ rfl g 8 (ints .u8 z64).toArray rfl rfl (by rw [ints_size, hz64]; exact h2.there 8 64 (by omega)) (by rw [Tryz.size177, ints_size, hz64]) (all_oneCell_toArray (ints_one _ _)) ?_; rw [List.toList_toArray, e3]))
    go_end0
    exact ⟨rfl, h3, k3⟩
  · rw [if_pos (by rfl)]
    refine wp_load_mid 177 _ rfl g 8 rfl (ints .u8 bk) _ S2 Tryz.underlying177 rfl (by rw [Tryz.size177, ints_len, h.2.2]) ?_
    refine hK _ _ ?_
    try simp only [Act.put, List.setIfInBounds_toArray, List.set_cons_zero, List.set_cons_succ]
    refine wpAny_ready (rs := [4]) (by kernel_rfl) (by simp) ?_
    refine AllReady.cons (o := { dst := some 6, op := Op.load 176 (Operand.tmp 5), type := 176, pos := "digest.go:72", after := #[{ on := 3, ground := Ground.data }], guard := none }) rfl (fun K hK => ?_) AllReady.nil
    rw [if_pos (by rfl)]
    refine wp_load_mid 176 _ rfl g 0 rfl (ints .u32 st) _ S1 Tryz.underlying176 rfl (by rw [Tryz.size176, ints_len, h.2.1]) ?_
    refine hK _ _ ?_
    try simp only [Act.put, List.setIfInBounds_toArray, List.set_cons_zero, List.set_cons_succ]
    refine wpAny_ready (rs := [9]) (by kernel_rfl) (by simp) ?_
    refine AllReady.cons (o := { dst := some 11, op := Op.call { callee := Callee.value (Operand.func 122), args := #[Operand.tmp 6, Operand.tmp 10], argTypes := #[176, 177] }, type := 176, pos := "digest.go:72", after := #[{ on := 4, ground := Ground.data }, { on := 8, ground := Ground.data }], guard := none }) rfl (fun K hK => ?_) AllReady.nil
    go_simp
    go_at_call 122
    refine (mix_any st bk h.2.1 h.2.2 hbd _ hGd.1 hGd.k).mono ?_
    rintro e w1 ⟨rfl, hb1⟩
    go_wp2_with fail
    try simp only [Act.put, List.setIfInBounds_toArray, List.set_cons_zero, List.set_cons_succ]
    refine wpAny_take (i := 10) (oi := { dst := some 12, op := Op.nilCheck (Operand.tmp 2), type := 0, pos := "digest.go:72", after := #[{ on := 0, ground := Ground.data }, { on := 0, ground := Ground.phase }, { on := 1, ground := Ground.phase }, { on := 2, ground := Ground.phase }, { on := 3, ground := Ground.phase }, { on := 4, ground := Ground.phase }, { on := 5, ground := Ground.phase }, { on := 6, ground := Ground.phase }, { on := 7, ground := Ground.phase }, { on := 8, ground := Ground.phase }, { on := 9, ground := Ground.phase }], guard := none }) (v := .pointer (some ⟨g, 0, none⟩)) rfl (by kernel_rfl) (by kernel_rfl) (by kernel_rfl) (fun _ _ _ h => h) (Or.inl ⟨by rfl, by intro w; go_simp⟩) ?_
    try simp only [Act.put, List.setIfInBounds_toArray, List.set_cons_zero, List.set_cons_succ]
    refine wpAny_take (i := 11) (oi := { dst := some 13, op := Op.fieldAddr 180 (Operand.tmp 12) 0, type := 0, pos := "digest.go:72", after := #[{ on := 10, ground := Ground.data }, { on := 0, ground := Ground.phase }, { on := 1, ground := Ground.phase }, { on := 2, ground := Ground.phase }, { on := 3, ground := Ground.phase }, { on := 4, ground := Ground.phase }, { on := 5, ground := Ground.phase }, { on := 6, ground := Ground.phase }, { on := 7, ground := Ground.phase }, { on := 8, ground := Ground.phase }, { on := 9, ground := Ground.phase }], guard := none }) (v := .pointer (some ⟨g, 0, none⟩)) rfl (by kernel_rfl) (by kernel_rfl) (by kernel_rfl) (fun _ _ _ h => h) (Or.inl ⟨by rfl, by intro w; go_simp⟩) ?_
    try simp only [Act.put, List.setIfInBounds_toArray, List.set_cons_zero, List.set_cons_succ]
    have h1 : Hsh w1 g st bk tk := hd.below hb1 (hlt hd.1)
    refine wpAny_ready (rs := [12]) (by kernel_rfl) (by simp) ?_
    refine AllReady.cons (o := { dst := none, op := Op.store 176 (Operand.tmp 13) (Operand.tmp 11), type := 0, pos := "digest.go:72", after := #[{ on := 11, ground := Ground.data }, { on := 9, ground := Ground.data }, { on := 9, ground := Ground.chain }, { on := 0, ground := Ground.phase }, { on := 1, ground := Ground.phase }, { on := 2, ground := Ground.phase }, { on := 3, ground := Ground.phase }, { on := 4, ground := Ground.phase }, { on := 5, ground := Ground.phase }, { on := 6, ground := Ground.phase }, { on := 7, ground := Ground.phase }, { on := 8, ground := Ground.phase }, { on := 9, ground := Ground.phase }], guard := none }) rfl (fun K hK => ?_) AllReady.nil
    rw [if_pos (by rfl)]
    refine wp_store_mid 176 _ _ rfl g 0 (ints .u32 (mixF st bk)).toArray rfl rfl (by rw [ints_size, mixF_len st bk h.2.1 hbd]; exact h1.there 0 8 (by omega)) (by rw [Tryz.size176, ints_size, mixF_len st bk h.2.1 hbd]) (all_oneCell_toArray (ints_one _ _)) ?_
    refine hK _ _ ?_
    clear hK K
    refine wpAny_done (by kernel_rfl) ?_ _
    refine NoPanic.normal ?_
    try simp only [Act.put, List.setIfInBounds_toArray, List.set_cons_zero, List.set_cons_succ, List.toList_toArray]
    obtain ⟨e2, h2⟩ := h1.set_state (mixF st bk) (mixF_len st bk h.2.1 hbd)
    have k2 : Keeps g w (w1.setRow g (hcells (mixF st bk) bk tk).toArray) := (⟨hb1.os, hb1.tape, hb1.output, hb1.size, fun k hk _ => hb1.block k hk⟩ : Keeps g w w1).setRow _
    rw [e2]
    generalize w1.setRow g (hcells (mixF st bk) bk tk).toArray = w2 at *
    have hz64 : z64.length = 64 := rfl
    obtain ⟨e3, h3⟩ := h2.set_block z64 hz64
    have k3 := k2.setRow (hcells (mixF st bk) z64 tk).toArray
    go_wp2_with (first | (refine wpList_build rfl 177 _ rfl (by simp only [List.map_toArray, List.map_nil]; rw [built_zero]; rfl) ?_; simp only [List.map_toArray, List.map_nil, built_zero, Option.getD_some]) | (refine wpList_store_mid rfl 177 _ _ rfl g 8 (ints .u8 z64).toArray rfl rfl (by rw [ints_size, hz64]; exact h2.there 8 64 (by omega)) (by rw [Tryz.size177, ints_size, hz64]) (all_oneCell_toArray (ints_one _ _)) ?_; rw [List.toList_toArray, e3]))
    go_end0
    exact ⟨rfl, h3, k3⟩
end Go.Proofs.YtjpcegjgandnjaaGreatDoor
namespace Go.Proofs.YtjpcegjgandnjaaGreatDoor
set_option linter.unusedVariables false
set_option linter.unusedSimpArgs false
open Go.RowKit
attribute [local go_sem ↓] Go.wp_at_zero Go.wp_at_succ

theorem hc_set_block (st bk : List Int) (tk : Int) (j : Nat) (x : Int) (h1 : st.length = 8) (h2 : bk.length = 64) (hj : j < 64) : (hcells st bk tk).set (8 + j) (.int .u8 x) = hcells st (bk.set j x) tk := by
  have e1 : (ints .u32 st).length = 8 := by rw [ints_len, h1]
  have e2 : (ints .u8 bk).length = 64 := by rw [ints_len, h2]
  unfold hcells
  rw [List.set_append_right _ _ (by omega), e1, show 8 + j - 8 = j by omega, List.set_append_left _ _ (by omega)]
  simp [ints, List.map_set]
theorem hc_set_taken (st bk : List Int) (tk tk' : Int) (h1 : st.length = 8) (h2 : bk.length = 64) : (hcells st bk tk).set 72 (.int .u64 tk') = hcells st bk tk' := by
  have e1 : (ints .u32 st).length = 8 := by rw [ints_len, h1]
  have e2 : (ints .u8 bk).length = 64 := by rw [ints_len, h2]
  unfold hcells
  rw [List.set_append_right _ _ (by omega), e1, List.set_append_right _ _ (by omega), e2]
  rfl
theorem Hsh.setB {w : World} {g : Nat} {st bk : List Int} {tk : Int} (h : Hsh w g st bk tk) (j : Nat) (x : Int) (hj : j < 64) : w.setCell ⟨g, 8 + j, none⟩ (.int .u8 x) = w.setRow g (hcells st (bk.set j x) tk).toArray ∧ Hsh (w.setRow g (hcells st (bk.set j x) tk).toArray) g st (bk.set j x) tk := by
  refine ⟨?_, setRow_heap _ _ _ _ _ _ h.1, h.2.1, by simp [h.2.2]⟩
  rw [setCell_eq_setRow w g _ _ _ _ _ h.1, ← hc_set_block st bk tk j x h.2.1 h.2.2 hj]; simp
theorem Hsh.setT {w : World} {g : Nat} {st bk : List Int} {tk : Int} (h : Hsh w g st bk tk) (tk' : Int) : w.setCell ⟨g, 72, none⟩ (.int .u64 tk') = w.setRow g (hcells st bk tk').toArray ∧ Hsh (w.setRow g (hcells st bk tk').toArray) g st bk tk' := by
  refine ⟨?_, setRow_heap _ _ _ _ _ _ h.1, h.2.1, h.2.2⟩
  rw [setCell_eq_setRow w g _ _ _ _ _ h.1, ← hc_set_taken st bk tk tk' h.2.1 h.2.2]; simp
theorem Hsh.cellB {w : World} {g : Nat} {st bk : List Int} {tk : Int} (h : Hsh w g st bk tk) (j : Nat) (hj : j < 64) : w.cell? ⟨g, 8 + j, none⟩ = some (.int .u8 (bk.getD j 0)) := h.block j _ (ints_get .u8 bk j (by rw [h.2.2]; exact hj))
theorem Hsh.fz {w : World} {g : Nat} {st bk : List Int} {tk : Int} (h : Hsh w g st bk tk) (j : Nat) : w.frozen? ⟨g, j, none⟩ = false := frozen_of_row _ _ _ _ _ h.1

/-- The i-th byte of the length, from below. -/
def lb (L : Int) (i : Nat) : Int := IntKind.u8.wrap (L / 2 ^ (8 * (i : Int)).toNat)
def lenTo (bk : List Int) (L : Int) : Nat → List Int
  | 0 => bk
  | n + 1 => (lenTo bk L n).set (63 - n) (lb L n)
def lenBits (tk : Int) : Int := IntKind.u64.wrap (tk * 8)
theorem lenBits_bd (tk : Int) : 0 ≤ lenBits tk ∧ lenBits tk ≤ 18446744073709551615 := bounds_u64 (wf_wrap .u64 _)

set_option maxRecDepth 100000 in
set_option maxHeartbeats 1000000 in
theorem pad_lo (w : World) (g : Nat) (st bk : List Int) (tk : Int) (h : Hsh w g st bk tk) (hbd : Bd8 st) (hG : Glob w) (hg : 22 ≤ g) (h0 : 0 ≤ tk) (h1 : tk ≤ 18446744073709551615)
    (a : Nat) (HA : Hid (tk % 64 = a)) (ha : (a : Int) < 56) (L : Int) (HL : Hid (IntKind.u64.wrap (tk * 8) = L)) (hL0 : 0 ≤ L) (hL1 : L ≤ 18446744073709551615) (bk1 : List Int) (HB : Hid (bk.set a 128 = bk1)) :
    Calls Tryz.prog 87 #[.pointer (some ⟨g, 0, none⟩)] w fun e w' => e = .returned (.tuple #[]) ∧ Hsh w' g (mixF st (lenTo bk1 L 8)) z64 tk ∧ Keeps g w w' := by
  have KF := hid (filled_any w g st bk tk h h0 h1)
  rw [HA.out] at KF
  have a1 : (a : Int) < 64 := by omega
  have a2 : a < 64 := by omega
  have cB := h.cellB a a2
  have fB := h.fz (8 + a)
  obtain ⟨e1, hs1⟩ := h.setB a 128 a2
  rw [HB.out] at e1 hs1
  have cT : (w.setCell ⟨g, 8 + a, none⟩ (.int .u8 128)).cell? ⟨g, 72, none⟩ = some (.int .u64 tk) := by rw [e1]; exact hs1.taken
  have E1 := hid e1
  clear e1
  have ha' : ((56 : Int) ≤ (a : Int)) = False := by simp; omega
  go_enter Tryz.func87, Tryz.ntmps87
  go_wp2_with fail
  refine KF.out.mono ?_
  rintro e w' ⟨rfl, rfl⟩
  go_wp2
  rw [E1.out, HL.out]
  have k1 : Keeps g w' (w'.setRow g (hcells st bk1 tk).toArray) := (Keeps.refl g w').setRow _
  generalize w'.setRow g (hcells st bk1 tk).toArray = w1 at *
  clear h cB fB cT E1 KF HA HL HB ha'
  go_loopw [4, 21] (fun _ i wr => ∃ n : Nat, n ≤ 8 ∧ i = .int .i64 n ∧ Hsh wr g st (lenTo bk1 L n) tk ∧ Keeps g w' wr) (fun _ i _ => 8 - (intOf i).toNat)
  case atStart => exact ⟨0, by omega, rfl, hs1, k1⟩
  case round =>
    clear hs1 k1
    obtain ⟨n, hn, rfl, hs, hk⟩ := hrel
    by_cases hlt : n < 8
    · have i1 : (n : Int) < 8 := by omega
      have i2 : (n : Int) ≤ 63 := by omega
      have i3 : 63 - (n : Int) < 64 := by omega
      have r1 : IntKind.i64.wrap (63 - (n : Int)) = 63 - (n : Int) := wrap_i64_id _ (by omega) (by omega)
      have r2 : IntKind.i64.wrap (8 * (n : Int)) = 8 * (n : Int) := wrap_i64_id _ (by omega) (by omega)
      have cB := hs.cellB (63 - n) (by omega)
      have fB := hs.fz (8 + (63 - n))
      go_wp2
      go_region_held3 (fun w' => True) (trivial) (fail)
      obtain ⟨e2, h2⟩ := hs.setB (63 - n) (lb L n) (by omega)
      have k2 : Keeps g w' (wr.setRow g (hcells st ((lenTo bk1 L n).set (63 - n) (lb L n)) tk).toArray) := hk.setRow _
      rw [show IntKind.u8.wrap (L / 2 ^ (8 * (n : Int)).toNat) = lb L n from rfl, e2]
      rw [show (lenTo bk1 L n).set (63 - n) (lb L n) = lenTo bk1 L (n + 1) from rfl] at h2 k2 ⊢
      generalize wr.setRow g (hcells st (lenTo bk1 L (n + 1)) tk).toArray = w2 at *
      clear e2
      go_wp2
      go_roundw
      case rel => exact ⟨n + 1, by omega, by go_num, h2, k2.drew⟩
      case measure => simp [intOf]; omega
    · obtain rfl : n = 8 := by omega
      go_wp2_with fail
      refine (mixBlock_any wr g st (lenTo bk1 L 8) tk hs hbd (hk.glob hG hg)).mono ?_
      rintro e w3 ⟨rfl, h3, k3⟩
      go_wp2
      go_end0
      exact ⟨rfl, h3, hk.trans k3⟩

set_option maxRecDepth 100000 in
set_option maxHeartbeats 1000000 in
theorem pad_hi (w : World) (g : Nat) (st bk : List Int) (tk : Int) (h : Hsh w g st bk tk) (hbd : Bd8 st) (hG : Glob w) (hg : 22 ≤ g) (h0 : 0 ≤ tk) (h1 : tk ≤ 18446744073709551615)
    (a : Nat) (HA : Hid (tk % 64 = a)) (ha : (56 : Int) ≤ (a : Int)) (a1 : (a : Int) < 64) (L : Int) (HL : Hid (IntKind.u64.wrap (tk * 8) = L)) (hL0 : 0 ≤ L) (hL1 : L ≤ 18446744073709551615) (bk1 : List Int) (HB : Hid (bk.set a 128 = bk1)) :
    Calls Tryz.prog 87 #[.pointer (some ⟨g, 0, none⟩)] w fun e w' => e = .returned (.tuple #[]) ∧ Hsh w' g (mixF (mixF st bk1) (lenTo z64 L 8)) z64 tk ∧ Keeps g w w' := by
  have KF := hid (filled_any w g st bk tk h h0 h1)
  rw [HA.out] at KF
  have a2 : a < 64 := by omega
  have cB := h.cellB a a2
  have fB := h.fz (8 + a)
  obtain ⟨e1, hs1⟩ := h.setB a 128 a2
  rw [HB.out] at e1 hs1
  have cT : (w.setCell ⟨g, 8 + a, none⟩ (.int .u8 128)).cell? ⟨g, 72, none⟩ = some (.int .u64 tk) := by rw [e1]; exact hs1.taken
  have E1 := hid e1
  clear e1
  go_enter Tryz.func87, Tryz.ntmps87
  go_wp2_with fail
  refine KF.out.mono ?_
  rintro e w' ⟨rfl, rfl⟩
  go_wp2_with fail
  rw [E1.out]
  have k0 : Keeps g w' (w'.setRow g (hcells st bk1 tk).toArray) := (Keeps.refl g w').setRow _
  generalize w'.setRow g (hcells st bk1 tk).toArray = w0 at *
  refine (mixBlock_any w0 g st bk1 tk hs1 hbd (k0.glob hG hg)).mono ?_
  rintro e w1 ⟨rfl, hs2, k2⟩
  have k1 := k0.trans k2
  have hbd2 := mixF_bd st bk1
  have cT2 := hs2.taken
  clear cT hs1 k0 k2
  have hs1 := hs2
  clear hs2
  go_wp2
  rw [HL.out]
  clear h cB fB cT2 E1 KF HA HL
  go_loopw [4, 21] (fun _ i wr => ∃ n : Nat, n ≤ 8 ∧ i = .int .i64 n ∧ Hsh wr g (mixF st bk1) (lenTo z64 L n) tk ∧ Keeps g w' wr) (fun _ i _ => 8 - (intOf i).toNat)
  case atStart => exact ⟨0, by omega, rfl, hs1, k1⟩
  case round =>
    clear hs1 k1
    obtain ⟨n, hn, rfl, hs, hk⟩ := hrel
    by_cases hlt : n < 8
    · have i1 : (n : Int) < 8 := by omega
      have i2 : (n : Int) ≤ 63 := by omega
      have i3 : 63 - (n : Int) < 64 := by omega
      have r1 : IntKind.i64.wrap (63 - (n : Int)) = 63 - (n : Int) := wrap_i64_id _ (by omega) (by omega)
      have r2 : IntKind.i64.wrap (8 * (n : Int)) = 8 * (n : Int) := wrap_i64_id _ (by omega) (by omega)
      have cB := hs.cellB (63 - n) (by omega)
      have fB := hs.fz (8 + (63 - n))
      go_wp2
      go_region_held3 (fun w' => True) (trivial) (fail)
      obtain ⟨e2, h2⟩ := hs.setB (63 - n) (lb L n) (by omega)
      have k2 : Keeps g w' (wr.setRow g (hcells (mixF st bk1) ((lenTo z64 L n).set (63 - n) (lb L n)) tk).toArray) := hk.setRow _
      rw [show IntKind.u8.wrap (L / 2 ^ (8 * (n : Int)).toNat) = lb L n from rfl, e2]
      rw [show (lenTo z64 L n).set (63 - n) (lb L n) = lenTo z64 L (n + 1) from rfl] at h2 k2 ⊢
      generalize wr.setRow g (hcells (mixF st bk1) (lenTo z64 L (n + 1)) tk).toArray = w2 at *
      clear e2
      go_wp2
      go_roundw
      case rel => exact ⟨n + 1, by omega, by go_num, h2, k2.drew⟩
      case measure => simp [intOf]; omega
    · obtain rfl : n = 8 := by omega
      go_wp2_with fail
      refine (mixBlock_any wr g (mixF st bk1) (lenTo z64 L 8) tk hs hbd2 (hk.glob hG hg)).mono ?_
      rintro e w3 ⟨rfl, h3, k3⟩
      go_wp2
      go_end0
      exact ⟨rfl, h3, hk.trans k3⟩

end Go.Proofs.YtjpcegjgandnjaaGreatDoor
namespace Go.Proofs.YtjpcegjgandnjaaGreatDoor
set_option linter.unusedVariables false
set_option linter.unusedSimpArgs false
open Go.RowKit
attribute [local go_sem ↓] Go.wp_at_zero Go.wp_at_succ

/-- The state behind the padding. -/
def padS (st bk : List Int) (tk : Int) : List Int :=
  if tk % 64 < 56 then mixF st (lenTo (bk.set (tk % 64).toNat 128) (lenBits tk) 8) else mixF (mixF st (bk.set (tk % 64).toNat 128)) (lenTo z64 (lenBits tk) 8)
theorem padS_bd (st bk : List Int) (tk : Int) : Bd8 (padS st bk tk) := by unfold padS; split <;> exact mixF_bd _ _
theorem padS_len (st bk : List Int) (tk : Int) (h : st.length = 8) (hb : Bd8 st) : (padS st bk tk).length = 8 := by
  unfold padS; split
  · exact mixF_len _ _ h hb
  · exact mixF_len _ _ (mixF_len _ _ h hb) (mixF_bd _ _)
theorem pad_any (w : World) (g : Nat) (st bk : List Int) (tk : Int) (h : Hsh w g st bk tk) (hbd : Bd8 st) (hG : Glob w) (hg : 22 ≤ g) (h0 : 0 ≤ tk) (h1 : tk ≤ 18446744073709551615) :
    Calls Tryz.prog 87 #[.pointer (some ⟨g, 0, none⟩)] w fun e w' => e = .returned (.tuple #[]) ∧ Hsh w' g (padS st bk tk) z64 tk ∧ Keeps g w w' := by
  have hL := lenBits_bd tk
  obtain ⟨a, ha⟩ := Int.eq_ofNat_of_zero_le (show 0 ≤ tk % 64 by omega)
  have ea : (tk % 64).toNat = a := by omega
  unfold padS
  rw [ea]
  by_cases c : tk % 64 < 56
  · rw [if_pos c]
    exact pad_lo w g st bk tk h hbd hG hg h0 h1 a (hid ha) (by omega) (lenBits tk) (hid rfl) hL.1 hL.2 _ (hid rfl)
  · rw [if_neg c]
    exact pad_hi w g st bk tk h hbd hG hg h0 h1 a (hid ha) (by omega) (by omega) (lenBits tk) (hid rfl) hL.1 hL.2 _ (hid rfl)

theorem setRow_alloc2 (w : World) (A : Obj) (cs ds : Array Value) (t : TypeId) (fr : Nat × Nat) : ((w.alloc A).alloc (.cells cs t fr)).setRow (w.heap.size + 1) ds = (w.alloc A).alloc (.cells ds t fr) := by
  have := setRow_alloc (w.alloc A) cs ds t fr
  simpa using this
def z32 : List Int := padz [] 32
set_option maxRecDepth 100000 in
set_option maxHeartbeats 400000 in
theorem hsum_any (w : World) (g : Nat) (st bk : List Int) (tk : Int) (h : Hsh w g st bk tk) (hbd : Bd8 st) (hG : Glob w) (h0 : 0 ≤ tk) (h1 : tk ≤ 18446744073709551615) :
    Calls Tryz.prog 56 #[.pointer (some ⟨g, 0, none⟩)] w fun e w' => e = .returned (.agg (ints .u8 (stBytes (padS st bk tk))).toArray) ∧ Below w.heap.size w w' := by
  have hl := hcells_len st bk tk h.2.1 h.2.2
  have ho := all_oneCell_toArray (hcells_one st bk tk)
  have hgl := hlt h.1
  have hz := zero55
  have hzl := zh_len
  have hw0 := hG.1
  have hg1 := hold (o := Obj.cells (ints .u8 z32).toArray 34) h.1
  go_enter Tryz.func56, Tryz.ntmps56
  go_wp2_with (first | refine wpList_load_row rfl 180 _ rfl _ rfl 180 _ _ _ (by exact hg1) Tryz.underlying180 rfl (by rw [Tryz.size180]; simp [hl]) ?_ | (refine wpList_store_row rfl 180 _ _ rfl (w.heap.size + 1) _ rfl rfl 180 _ (by exact heap_alloc2_new w _ _) (by rw [Tryz.size180]; simp [hl]) (by simp [hl, hzl]) ho ?_))
  rw [setRow_alloc2]
  show Calls Tryz.prog 87 _ ((w.alloc (Obj.cells (ints .u8 z32).toArray 34)).alloc (Obj.cells (hcells st bk tk).toArray 180)) _
  have d1 : Hsh ((w.alloc (Obj.cells (ints .u8 z32).toArray 34)).alloc (Obj.cells (hcells st bk tk).toArray 180)) (w.heap.size + 1) st bk tk := ⟨heap_alloc2_new w _ _, h.2.1, h.2.2⟩
  have d0 : ((w.alloc (Obj.cells (ints .u8 z32).toArray 34)).alloc (Obj.cells (hcells st bk tk).toArray 180)).heap[w.heap.size]? = some (Obj.cells (ints .u8 z32).toArray 34) := heap_alloc2_old w _ _
  have hB : Below w.heap.size w ((w.alloc (Obj.cells (ints .u8 z32).toArray 34)).alloc (Obj.cells (hcells st bk tk).toArray 180)) := ((Below.refl _ _).alloc (Nat.le_refl _) _).alloc (by simp) _
  have hG1 := hG.below hB hw0
  clear ho hz hg1
  generalize (w.alloc (Obj.cells (ints .u8 z32).toArray 34)).alloc (Obj.cells (hcells st bk tk).toArray 180) = w1 at *
  refine (pad_any w1 (w.heap.size + 1) st bk tk d1 hbd hG1 (by omega) h0 h1).mono ?_
  rintro e w2 ⟨rfl, d2, k2⟩
  have f0 := k2.heap d0 (by omega)
  have hB2 : Below w.heap.size w w2 := hB.trans (k2.below_g (by omega) hB.size)
  have hpl := padS_len st bk tk h.2.1 hbd
  have hpb := padS_bd st bk tk
  clear d0 d1 k2 hB hG1
  have S1 := d2.state
  go_wp2_with (first | refine wpList_load_mid rfl 176 _ rfl (w.heap.size + 1) 0 rfl (ints .u32 (padS st bk tk)) _ S1 Tryz.underlying176 rfl (by rw [Tryz.size176, ints_len, hpl]) ?_)
  refine (stateBytes_any (padS st bk tk) hpl hpb w2).mono ?_
  rintro e w3 ⟨rfl, hb3⟩
  have f3 := hbel hb3 f0 (hlt f0)
  have hB3 : Below w.heap.size w w3 := hB2.trans (hb3.mono hB2.size)
  have hsl : (stBytes (padS st bk tk)).length = 32 := by rw [stBytes_len, hpl]
  have ho := all_oneCell_toArray (ints_one .u8 (stBytes (padS st bk tk)))
  have hz32 : z32.length = 32 := rfl
  go_wp2_with (first | refine wpList_store_row rfl 34 _ _ rfl _ _ rfl rfl 34 _ f3 (by rw [Tryz.size34, ints_size, hsl]) (by rw [ints_size, ints_size, hsl, hz32]) ho ?_)
  exact bodyPost_ret (v := .agg (ints .u8 (stBytes (padS st bk tk))).toArray) (results_cell_row Tryz.results56 _ _ w.heap.size 34 _ _ _ rfl (setRow_heap _ _ _ _ _ _ f3) Tryz.underlying34 rfl (by rw [Tryz.size34, ints_size, hsl])) rfl ⟨rfl, below_setRow hB3 (Nat.le_refl _) _⟩

end Go.Proofs.YtjpcegjgandnjaaGreatDoor
namespace Go.Proofs.YtjpcegjgandnjaaGreatDoor
set_option linter.unusedVariables false
set_option linter.unusedSimpArgs false
open Go.RowKit

/-! The text that a hasher has taken. -/
/-- The state behind the first n blocks of a text. -/
def stN (m : List Int) : Nat → List Int
  | 0 => fTab
  | n + 1 => mixF (stN m n) ((m.drop (64 * n)).take 64)
def stOf (m : List Int) : List Int := stN m (m.length / 64)
def restOf (m : List Int) : List Int := m.drop (64 * (m.length / 64))
theorem fTab_bd : Bd8 fTab := by intro x hx; revert x hx; decide
theorem stN_ok (m : List Int) : ∀ n, (stN m n).length = 8 ∧ Bd8 (stN m n)
  | 0 => ⟨rfl, fTab_bd⟩
  | n + 1 => ⟨mixF_len _ _ (stN_ok m n).1 (stN_ok m n).2, mixF_bd _ _⟩
theorem stOf_len (m : List Int) : (stOf m).length = 8 := (stN_ok m _).1
theorem stOf_bd (m : List Int) : Bd8 (stOf m) := (stN_ok m _).2
theorem restOf_len (m : List Int) : (restOf m).length = m.length % 64 := by simp [restOf]; omega
theorem stN_append (m y : List Int) : ∀ n, 64 * n ≤ m.length → stN (m ++ y) n = stN m n
  | 0, _ => rfl
  | n + 1, h => by
    rw [stN, stN, stN_append m y n (by omega), List.drop_append_of_le_length (by omega), List.take_append_of_le_length (by simp; omega)]
/-- A piece that doesn't fill the block. -/
theorem text_part (m y : List Int) (h : (restOf m).length + y.length < 64) : stOf (m ++ y) = stOf m ∧ restOf (m ++ y) = restOf m ++ y := by
  rw [restOf_len] at h
  have e : (m ++ y).length / 64 = m.length / 64 := by simp; omega
  constructor
  · rw [stOf, e, stN_append m y _ (by omega)]; rfl
  · rw [restOf, e, List.drop_append_of_le_length (by omega)]; rfl
/-- A piece that fills it. -/
theorem text_full (m y : List Int) (h : (restOf m).length + y.length = 64) : stOf (m ++ y) = mixF (stOf m) (restOf m ++ y) ∧ restOf (m ++ y) = [] := by
  have h' := h
  rw [restOf_len] at h
  have e : (m ++ y).length / 64 = m.length / 64 + 1 := by simp; omega
  constructor
  · rw [stOf, e, stN, stN_append m y _ (by omega), List.drop_append_of_le_length (by omega)]
    show mixF (stOf m) ((restOf m ++ y).take 64) = _
    rw [List.take_of_length_le (by simp; omega)]
  · rw [restOf, e]; exact List.drop_eq_nil_of_le (by simp; omega)
/-- At block g lies a hasher that has taken the text m. -/
def HsT (w : World) (g : Nat) (m : List Int) : Prop := Hsh w g (stOf m) (padz (restOf m) 64) m.length
theorem HsT.below {w w1 : World} {B g : Nat} {m : List Int} (h : HsT w g m) (hb : Below B w w1) (hg : g < B) : HsT w1 g m := Hsh.below h hb hg
theorem HsT.nil {w : World} {g : Nat} (h : w.heap[g]? = some (.cells (hcells fTab z64 0).toArray 180 (0, 0))) : HsT w g [] := ⟨h, rfl, rfl⟩
/-- The published function. -/
def sha (m : List Int) : List Int := stBytes (padS (stOf m) (padz (restOf m) 64) m.length)
theorem sha_len (m : List Int) : (sha m).length = 32 := by rw [sha, stBytes_len, padS_len _ _ _ (stOf_len m) (stOf_bd m)]
theorem hsumT_any (w : World) (g : Nat) (m : List Int) (h : HsT w g m) (hG : Glob w) (hm : m.length ≤ 4611686018427387904) :
    Calls Tryz.prog 56 #[.pointer (some ⟨g, 0, none⟩)] w fun e w' => e = .returned (.agg (ints .u8 (sha m)).toArray) ∧ Below w.heap.size w w' :=
  hsum_any w g _ _ _ h (stOf_bd m) hG (by omega) (by omega)

/-- The bytes that a copy lays into a hasher's block. -/
theorem hc_splice (st r y : List Int) (tk : Int) (h1 : st.length = 8) (h2 : r.length + y.length ≤ 64) : (hcells st (padz r 64) tk).take (8 + r.length) ++ ints .u8 y ++ (hcells st (padz r 64) tk).drop (8 + r.length + (ints .u8 y).length) = hcells st (padz (r ++ y) 64) tk := by
  have e1 : (ints .u32 st).length = 8 := by rw [ints_len, h1]
  have e2 : (ints .u8 r).length = r.length := ints_len _ _
  have e3 : (ints .u8 y).length = y.length := ints_len _ _
  have ep : ints .u8 (padz r 64) = ints .u8 r ++ List.replicate (64 - r.length) (.int .u8 0) := by simp [ints, padz]
  have ep2 : ints .u8 (padz (r ++ y) 64) = ints .u8 r ++ (ints .u8 y ++ List.replicate (64 - (r.length + y.length)) (.int .u8 0)) := by simp [ints, padz]
  unfold hcells
  rw [ep, ep2, e3]
  have hsplit : List.replicate (64 - r.length) (Value.int .u8 0) = List.replicate y.length (.int .u8 0) ++ List.replicate (64 - (r.length + y.length)) (.int .u8 0) := by
    rw [List.replicate_append_replicate]; congr 1; omega
  rw [hsplit]
  have t1 : (ints .u32 st ++ (ints .u8 r ++ (List.replicate y.length (Value.int .u8 0) ++ List.replicate (64 - (r.length + y.length)) (.int .u8 0)) ++ [Value.int .u64 tk])) = (ints .u32 st ++ ints .u8 r) ++ (List.replicate y.length (Value.int .u8 0) ++ (List.replicate (64 - (r.length + y.length)) (.int .u8 0) ++ [Value.int .u64 tk])) := by simp only [List.append_assoc]
  rw [t1, List.take_left' (by simp [e1, e2]), ← List.append_assoc (ints .u32 st ++ ints .u8 r) (List.replicate y.length _), List.drop_left' (by simp [e1, e2]; omega)]
  simp
end Go.Proofs.YtjpcegjgandnjaaGreatDoor
