import Derived.Test.YtenfklcgkfaajaaDk65
import Derived.Test.YtenfklcgkfaajaaDk35
import Derived.Test.YtenfklcgkfaajaaDk24
namespace Go.Proofs.Ytenfklcgkfaajaa
set_option linter.unusedVariables false
set_option linter.unusedSimpArgs false
open Go.RowKit
attribute [local go_sem ↓] Go.wp_at_zero Go.wp_at_succ

theorem rpC_set4 (r : Rp) (vv rv lv cv v : Value) : (rpC r vv rv lv cv).set 4 v = rpC r v rv lv cv := rfl
theorem rpC_tail {r : Rp} (h : RpL r) (vv rv lv cv v : Value) (j : Nat) (hj : j < 3) : (rpC r vv rv lv cv).set (37 + j) v = [.int .i64 r.err, .int .i64 r.ver, .bool r.found, .bool r.more, vv] ++ (ints .u8 r.sum ++ (([rv, lv, cv].set j v) ++ inC r.info)) := by
  unfold rpC
  rw [List.set_append_right _ _ (by simp; omega), List.set_append_right _ _ (by rw [ints_len, h.sum]; simp; omega), List.set_append_left _ _ (by rw [ints_len, h.sum]; simp; omega)]
  have e : 37 + j - [Value.int .i64 r.err, .int .i64 r.ver, .bool r.found, .bool r.more, vv].length - (ints .u8 r.sum).length = j := by rw [ints_len, h.sum]; simp; omega
  rw [e]
theorem rpC_set37 {r : Rp} (h : RpL r) (vv rv lv cv v : Value) : (rpC r vv rv lv cv).set 37 v = rpC r vv v lv cv := rpC_tail h vv rv lv cv v 0 (by omega)
theorem rpC_set38 {r : Rp} (h : RpL r) (vv rv lv cv v : Value) : (rpC r vv rv lv cv).set 38 v = rpC r vv rv v cv := rpC_tail h vv rv lv cv v 1 (by omega)
theorem rpC_set39 {r : Rp} (h : RpL r) (vv rv lv cv v : Value) : (rpC r vv rv lv cv).set 39 v = rpC r vv rv lv v := rpC_tail h vv rv lv cv v 2 (by omega)
/-- ownReply midway: the reply that came in, boxed; the answer's place; the reply that is made. -/
structure OY (w wc : World) (cx : List Value) (r : Rp) (vv rv lv cv : Value) : Prop where
  rx : wc.heap[w.heap.size]? = some (.cells cx.toArray 32 (0, 0))
  ra : wc.heap[w.heap.size + 1]? = some (.cells (rpC rp0 (.slice none 0 0) (.slice none 0 0) (.slice none 0 0) (.slice none 0 0)).toArray 32 (0, 0))
  ro : wc.heap[w.heap.size + 1 + 1]? = some (.cells (rpC r vv rv lv cv).toArray 32 (0, 0))
  bel : Below w.heap.size w wc
  sz : w.heap.size + 3 ≤ wc.heap.size
theorem OY.call {w wc w1 : World} {cx : List Value} {r : Rp} {vv rv lv cv : Value} (h : OY w wc cx r vv rv lv cv) (hb : Below (w.heap.size + 3) wc w1) : OY w w1 cx r vv rv lv cv :=
  ⟨hbel hb h.rx (by omega), hbel hb h.ra (by omega), hbel hb h.ro (by omega), h.bel.trans (hb.mono (by omega)), Nat.le_trans h.sz hb.size⟩
theorem OY.put {w wc w1 : World} {cx : List Value} {r : Rp} {vv rv lv cv vv' rv' lv' cv' : Value} (h : OY w wc cx r vv rv lv cv) (row : w1.heap[w.heap.size + 1 + 1]? = some (.cells (rpC r vv' rv' lv' cv').toArray 32 (0, 0))) (k : Keeps (w.heap.size + 1 + 1) wc w1) : OY w w1 cx r vv' rv' lv' cv' :=
  ⟨k.heap h.rx (by omega), k.heap h.ra (by omega), row, h.bel.trans (k.below_g (by omega) h.bel.size), Nat.le_trans h.sz k.size⟩
theorem OY.drew {w wc : World} {cx : List Value} {r : Rp} {vv rv lv cv : Value} (h : OY w wc cx r vv rv lv cv) : OY w wc.drew cx r vv rv lv cv := ⟨h.rx, h.ra, h.ro, h.bel.drew, h.sz⟩
/-- The two roomy copies beside the lists. -/
structure VR (wc : World) (base kv vc : Nat) (zv : List Int) (kr rc : Nat) (zr : List Int) : Prop where
  a : Rmy wc kv vc zv
  b : Rmy wc kr rc zr
  ka : base ≤ kv
  kb : base ≤ kr
theorem Rmy.keeps' {w w1 : World} {g k cap : Nat} {zs : List Int} (h : Rmy w k cap zs) (hk : Keeps g w w1) (hne : k ≠ g) : Rmy w1 k cap zs := h.blk (hk.block k h.2.1 hne) hk.size
theorem VR.below {w w1 : World} {base kv vc kr rc : Nat} {zv zr : List Int} (h : VR w base kv vc zv kr rc zr) (hb : Below w.heap.size w w1) : VR w1 base kv vc zv kr rc zr := ⟨h.a.below hb (Nat.le_refl _), h.b.below hb (Nat.le_refl _), h.ka, h.kb⟩
theorem VR.other {d : Bool} {w w1 : World} {base kv vc kr rc : Nat} {zv zr : List Int} {v2 : Value} {ms2 : List ME} (h : VR w base kv vc zv kr rc zr) (ho : OwnL d w base v2 ms2) (hg : w.grownBy w1 v2.ownBlock) : VR w1 base kv vc zv kr rc zr := ⟨h.a.other ho hg, h.b.other ho hg, h.ka, h.kb⟩
theorem VR.keeps {w w1 : World} {base g kv vc kr rc : Nat} {zv zr : List Int} (h : VR w base kv vc zv kr rc zr) (hk : Keeps g w w1) (hg : g < base) : VR w1 base kv vc zv kr rc zr := ⟨h.a.keeps' hk (by have := h.ka; omega), h.b.keeps' hk (by have := h.kb; omega), h.ka, h.kb⟩
theorem ElR.drew {c : Bool} {w : World} {base : Nat} {v : Value} {ms : List ME} {xs : List Cg} (h : ElR c w base v ms xs) : ElR c w.drew base v ms xs := h.of_heap (Nat.le_refl _) fun _ _ _ _ _ _ => rfl
theorem VR.drew {w : World} {base kv vc kr rc : Nat} {zv zr : List Int} (h : VR w base kv vc zv kr rc zr) : VR w.drew base kv vc zv kr rc zr := ⟨h.a.blk rfl (Nat.le_refl _), h.b.blk rfl (Nat.le_refl _), h.ka, h.kb⟩
/-- What ownReply makes: each value a roomy copy. -/
structure OwR (w : World) (r : Rp) (kv vc kr rc : Nat) (ls cs : Option Addr) (lc cc : Nat) : Prop where
  l : RpL r
  a : Rmy w kv vc r.val
  b : Rmy w kr rc r.raw
  sl : ElS false w ls lc r.list
  sc : ElS true w cs cc r.chs
theorem OwR.inn {w : World} {r : Rp} {kv vc kr rc : Nat} {ls cs : Option Addr} {lc cc : Nat} (h : OwR w r kv vc kr rc ls cs lc cc) : RpI w r (some ⟨kv, 0, none⟩) (some ⟨kr, 0, none⟩) ls cs vc rc lc cc := ⟨h.l, h.a.src, h.b.src, (fun e => by cases e), (fun e => by cases e), h.sl.inn, h.sc.inn⟩
theorem OwR.below {w w1 : World} {r : Rp} {kv vc kr rc : Nat} {ls cs : Option Addr} {lc cc : Nat} (h : OwR w r kv vc kr rc ls cs lc cc) (hb : Below w.heap.size w w1) : OwR w1 r kv vc kr rc ls cs lc cc := ⟨h.l, h.a.below hb (Nat.le_refl _), h.b.below hb (Nat.le_refl _), h.sl.below hb, h.sc.below hb⟩
/-- What came in is not too long to be copied. -/
structure RpM (r : Rp) : Prop where
  val : r.val.length ≤ 140737488351232
  raw : r.raw.length ≤ 140737488351232
  ln : r.list.length * 56 ≤ 140737488351232
  cn : r.chs.length * 64 ≤ 140737488351232
  list : ∀ k, k < r.list.length → (r.list.getD k dX).val.length ≤ 140737488351232
  chs : ∀ k, k < r.chs.length → (r.chs.getD k dX).val.length ≤ 140737488351232
set_option maxRecDepth 100000 in
set_option maxHeartbeats 8000000 in
theorem ownReply_any (w : World) (r : Rp) (hM : RpM r) (vs rs ls cs : Option Addr) (vc rc lc cc : Nat) (hI : RpI w r vs rs ls cs vc rc lc cc) :
    Calls Try.prog 21 #[.agg (rpV r vs rs ls cs vc rc lc cc).toArray] w fun e w' => ∃ kv kvc kr krc ls' cs' lc' cc', e = .returned (.agg (rpV r (some ⟨kv, 0, none⟩) (some ⟨kr, 0, none⟩) ls' cs' kvc krc lc' cc').toArray) ∧ OwR w' r kv kvc kr krc ls' cs' lc' cc' ∧ Below w.heap.size w w' := by
  have HIL := hid hI.l
  have SR := hid (show (Try.prog.info? 32).map (·.size) = some (rpV r vs rs ls cs vc rc lc cc).toArray.size from (repSizes hI.l).1)
  have SL := hid (show (Try.prog.info? 32).map (·.size) = some (rpV r vs rs ls cs vc rc lc cc).length from (repSizes hI.l).2.1)
  have SE := hid (show (rpC rp0 (.slice none 0 0) (.slice none 0 0) (.slice none 0 0) (.slice none 0 0)).length = (rpV r vs rs ls cs vc rc lc cc).length from (repSizes hI.l).2.2)
  have C1 := hid (show ∀ v ∈ rpV r vs rs ls cs vc rc lc cc, v.oneCell' = true from rpC_one rfl rfl rfl rfl)
  have z1 : (w.alloc (.cells (rpV r vs rs ls cs vc rc lc cc).toArray 32)).heap.size = w.heap.size + 1 := by simp
  have z2 : ((w.alloc (.cells (rpV r vs rs ls cs vc rc lc cc).toArray 32)).alloc (.cells (rpC rp0 (.slice none 0 0) (.slice none 0 0) (.slice none 0 0) (.slice none 0 0)).toArray 32)).heap.size = w.heap.size + 1 + 1 := by simp
  have r2 := hid (hold (o := .cells (rpC rp0 (.slice none 0 0) (.slice none 0 0) (.slice none 0 0) (.slice none 0 0)).toArray 32) (hnew w (.cells (rpV r vs rs ls cs vc rc lc cc).toArray 32)))
  have r3 := hnew (w.alloc (.cells (rpV r vs rs ls cs vc rc lc cc).toArray 32)) (.cells (rpC rp0 (.slice none 0 0) (.slice none 0 0) (.slice none 0 0) (.slice none 0 0)).toArray 32)
  have r4 := hnew ((w.alloc (.cells (rpV r vs rs ls cs vc rc lc cc).toArray 32)).alloc (.cells (rpC rp0 (.slice none 0 0) (.slice none 0 0) (.slice none 0 0) (.slice none 0 0)).toArray 32)) (.cells (rpC rp0 (.slice none 0 0) (.slice none 0 0) (.slice none 0 0) (.slice none 0 0)).toArray 32)
  rw [z1] at r3
  rw [z2] at r4
  have R4 := hid r4
  have R3 := hid r3
  clear r3 r4
  obtain ⟨_, _, _, b, o, hbo, hel⟩ := hI.sl
  obtain ⟨_, _, _, b2, o2, hbo2, hel2⟩ := hI.sc
  have hlm := hI.sl.mx
  have hll := hI.sl.le
  have hcm := hI.sc.mx
  have hcl := hI.sc.le
  unfold maxLen at hlm hcm
  have i8 : (r.list.length : Int) ≤ 9223372036854775807 := by omega
  have i9 : (r.chs.length : Int) ≤ 9223372036854775807 := by omega
  clear hlm hll hcm hcl
  go_enter Try.func21, Try.ntmps21
  go_wp2_with (first | (refine wpList_allocV allocRep rfl rfl ?_; refine Hid.out ?_))
  refine hid ?_
  go_wp2_with (first | (refine wpList_load_row rfl 32 _ rfl w.heap.size rfl 32 _ (0, 0) _ r2.out Try.underlying32 rfl SR.out ?_) | (refine wpList_allocV allocRep rfl rfl ?_; refine Hid.out ?_))
  refine hid ?_
  refine wpList_storeRowW rfl 32 _ _ rfl (w.heap.size + 1 + 1) (rpV r vs rs ls cs vc rc lc cc) rfl rfl 32 _ R4.out SL.out SE.out C1.out ?_
  intro w4 hr4 hk4
  have D4 : OY w w4 (rpV r vs rs ls cs vc rc lc cc) r (.slice vs r.val.length vc) (.slice rs r.raw.length rc) (.slice ls r.list.length lc) (.slice cs r.chs.length cc) := by
    have hb : Below w.heap.size w (((w.alloc (.cells (rpV r vs rs ls cs vc rc lc cc).toArray 32)).alloc (.cells (rpC rp0 (.slice none 0 0) (.slice none 0 0) (.slice none 0 0) (.slice none 0 0)).toArray 32)).alloc (.cells (rpC rp0 (.slice none 0 0) (.slice none 0 0) (.slice none 0 0) (.slice none 0 0)).toArray 32)) := (((Below.refl _ _).alloc (Nat.le_refl _) _).alloc (by simp) _).alloc (by simp; omega) _
    exact ⟨hk4.heap (hold r2.out) (by omega), hk4.heap (hold R3.out) (by omega), hr4, hb.trans (hk4.below_g (by omega) (by simp; omega)), by have := hk4.size; simp at this; omega⟩
  clear hr4 hk4 R4 R3 r2 z1 z2
  have x4 := (RC.of D4.rx HIL.out).c4
  have KR := hid (roomy_any w4 r.val vs vc (hI.sv.below D4.bel (Nat.le_refl _)) hI.nv hM.val)
  go_wp2_with fail
  refine KR.out.mono ?_
  clear KR
  rintro e w5 ⟨k5, c5, rfl, hk5, R5, hb5⟩
  have D5 := D4.call (hb5.mono D4.sz)
  have n5 : w.heap.size + 3 ≤ k5 := Nat.le_trans D4.sz hk5
  have Y5 := hid D5.ro
  have LN := hid (fun (a b c d : Value) => (rpC_len (vv := a) (rv := b) (lv := c) (cv := d) HIL.out))
  clear x4
  go_wp2_with (first | (refine wpList_storeW rfl 22 _ _ rfl (w.heap.size + 1 + 1) 4 _ rfl rfl _ 32 Y5.out (by rw [LN.out]; omega) Try.sizeBy rfl rfl ?_; intro w6 hr6 hk6; refine Hid.out ?_))
  refine hid ?_
  rw [rpC_set4] at hr6
  have D6 := D5.put hr6 hk6
  have R6 := R5.keeps' hk6 (by omega)
  clear D4 D5 Y5 R5 hb5 hr6 hk6 hk5
  have x37 := (RC.of D6.rx HIL.out).c37
  have KR := hid (roomy_any w6 r.raw rs rc (hI.sr.below D6.bel (Nat.le_refl _)) hI.nr hM.raw)
  go_wp2_with fail
  refine KR.out.mono ?_
  clear KR
  rintro e w7 ⟨k7, c7, rfl, hk7, R7, hb7⟩
  have D7 := D6.call (hb7.mono D6.sz)
  have n7 : w.heap.size + 3 ≤ k7 := Nat.le_trans D6.sz hk7
  have Y7 := hid D7.ro
  have R7a := R6.below hb7 (Nat.le_refl _)
  clear x37
  go_wp2_with (first | (refine wpList_storeW rfl 22 _ _ rfl (w.heap.size + 1 + 1) 37 _ rfl rfl _ 32 Y7.out (by rw [LN.out]; omega) Try.sizeBy rfl rfl ?_; intro w8 hr8 hk8; refine Hid.out ?_))
  refine hid ?_
  rw [rpC_set37 HIL.out] at hr8
  have D8 := D7.put hr8 hk8
  have V8 : VR w8 (w.heap.size + 3) k5 c5 r.val k7 c7 r.raw := ⟨R7a.keeps' hk8 (by omega), R7.keeps' hk8 (by omega), n5, n7⟩
  clear D6 D7 Y7 R7 R7a R6 hb7 hr8 hk8 hk7
  have Y8 := hid D8.ro
  go_wp2_with (first | (refine wpList_storeW rfl 27 _ _ rfl (w.heap.size + 1 + 1) 38 (.slice none 0 0) rfl rfl _ 32 Y8.out (by rw [LN.out]; omega) Try.sizeEs rfl rfl ?_; intro w9 hr9 hk9; refine Hid.out ?_))
  refine hid ?_
  rw [rpC_set38 HIL.out] at hr9
  have D9 := D8.put hr9 hk9
  have V9 := V8.keeps hk9 (by omega)
  clear D8 Y8 V8 hr9 hk9
  have Y9 := hid D9.ro
  go_wp2_with (first | (refine wpList_storeW rfl 28 _ _ rfl (w.heap.size + 1 + 1) 39 (.slice none 0 0) rfl rfl _ 32 Y9.out (by rw [LN.out]; omega) Try.sizeCs rfl rfl ?_; intro wa hra hka; refine Hid.out ?_))
  refine hid ?_
  rw [rpC_set39 HIL.out] at hra
  have Da := D9.put hra hka
  have Va := V9.keeps hka (by omega)
  clear D9 Y9 V9 hra hka
  go_wp2
  go_loopw [4] (fun i wr => ∃ (k : Nat) (lv : Value) (ms : List ME), k ≤ r.list.length ∧ i = .int .i64 k ∧ OY w wr (rpV r vs rs ls cs vc rc lc cc) r (.slice (some ⟨k5, 0, none⟩) r.val.length c5) (.slice (some ⟨k7, 0, none⟩) r.raw.length c7) lv (.slice none 0 0) ∧ ElR false wr (w.heap.size + 3) lv ms (r.list.take k) ∧ VR wr (w.heap.size + 3) k5 c5 r.val k7 c7 r.raw) (fun i _ => r.list.length - (intOf i).toNat)
  case atStart => exact ⟨0, _, [], Nat.zero_le _, rfl, Da, by rw [List.take_zero]; exact ElR.nil _ _ _, Va⟩
  case round =>
    clear Da Va
    obtain ⟨k, lv, ms, hk, rfl, D, E, VV⟩ := hrel
    by_cases hlt' : k < r.list.length
    · skip
      have i1 : (k : Int) < (r.list.length : Int) := by omega
      obtain ⟨hls, hbl⟩ := hbo (by omega)
      subst hls
      obtain ⟨s, p, rg, kl, Sv, nv⟩ := hel k hlt'
      change w.rangeAt b (o + k * 33) _ at rg
      have HT := hid (take_snocC r.list k hlt')
      have HVL := hid (hM.list k hlt')
      have HLEN := hid (show (ms.length + 1) * (if false then 64 else 56) ≤ 140737488355328 by
        have h1 := E.len
        rw [List.length_take] at h1
        have h2 := hM.ln
        simp only [Bool.false_eq_true, if_false]
        omega)
      have HD0 := hid D.drew
      have HE0 := hid E.drew
      have HV0 := hid VV.drew
      have RG := hid rg
      have HG := hid hbl
      have HK := hid kl
      obtain ⟨lsp, ln, lcap, hlv⟩ : ∃ sp n c, lv = Value.slice sp n c := by obtain ⟨sp, cap, e, _⟩ := E.src; exact ⟨sp, _, cap, e⟩
      subst hlv
      generalize hxe : r.list.getD k dX = x at *
      replace hxe := hid hxe
      have SK := hid (show (Try.prog.info? 50).map (·.size) = some (ints .u8 x.key).length by rw [ints_len, HK.out]; exact Try.sizeKey)
      have cx := (RC.of D.rx HIL.out).c38
      clear rg hbl kl D E VV
      go_wp2
      refine wp_region_noPanic ?_
      refine wp_region_held_drew (S := (fun w' => w'.heap[w.heap.size]? = some (.cells (rpV r vs rs (some ⟨b, o, none⟩) cs vc rc lc cc).toArray 32 (0, 0)) ∧ Below w.heap.size w w')) (by kernel_rfl) ⟨HD0.out.rx, HD0.out.bel⟩ (fun hHeld => ?_)
      refine wpAnyH_take (i := 0) (oi := { dst := some 24, op := Op.fieldAddr 32 (Operand.tmp 3) 7, type := 0, pos := "law.go:81", after := #[], guard := none }) (v := .pointer (some ⟨(w.heap.size + 1 + 1), 38, none⟩)) rfl (by kernel_rfl) (by kernel_rfl) (by kernel_rfl) (fun _ _ _ h => h) (Or.inl ⟨by rfl, by intro w hS; go_simp⟩) hHeld ?_
      try simp only [Act.put, List.setIfInBounds_toArray, List.set_cons_zero, List.set_cons_succ]
      refine wpAnyH_take (i := 2) (oi := { dst := some 26, op := Op.fieldAddr 32 (Operand.tmp 1) 7, type := 0, pos := "law.go:81", after := #[], guard := none }) (v := .pointer (some ⟨w.heap.size, 38, none⟩)) rfl (by kernel_rfl) (by kernel_rfl) (by kernel_rfl) (fun _ _ _ h => h) (Or.inl ⟨by rfl, by intro w hS; go_simp⟩) hHeld ?_
      try simp only [Act.put, List.setIfInBounds_toArray, List.set_cons_zero, List.set_cons_succ]
      refine wpAnyH_take (i := 4) (oi := { dst := some 28, op := Op.move (Operand.tmp 4), type := 3, pos := "law.go:81", after := #[], guard := none }) (v := .int .i64 k) rfl (by kernel_rfl) (by kernel_rfl) (by kernel_rfl) (fun _ _ _ h => h) (Or.inl ⟨by rfl, by intro w hS; go_simp⟩) hHeld ?_
      try simp only [Act.put, List.setIfInBounds_toArray, List.set_cons_zero, List.set_cons_succ]
      refine wpAnyH_take (i := 8) (oi := { dst := some 32, op := Op.fieldAddr 32 (Operand.tmp 1) 7, type := 0, pos := "law.go:81", after := #[], guard := none }) (v := .pointer (some ⟨w.heap.size, 38, none⟩)) rfl (by kernel_rfl) (by kernel_rfl) (by kernel_rfl) (fun _ _ _ h => h) (Or.inl ⟨by rfl, by intro w hS; go_simp⟩) hHeld ?_
      try simp only [Act.put, List.setIfInBounds_toArray, List.set_cons_zero, List.set_cons_succ]
      refine wpAnyH_take (i := 10) (oi := { dst := some 34, op := Op.move (Operand.tmp 4), type := 3, pos := "law.go:81", after := #[], guard := none }) (v := .int .i64 k) rfl (by kernel_rfl) (by kernel_rfl) (by kernel_rfl) (fun _ _ _ h => h) (Or.inl ⟨by rfl, by intro w hS; go_simp⟩) hHeld ?_
      try simp only [Act.put, List.setIfInBounds_toArray, List.set_cons_zero, List.set_cons_succ]
      refine wpAnyH_take (i := 3) (oi := { dst := some 27, op := Op.load 27 (Operand.tmp 26), type := 27, pos := "law.go:81", after := #[{ on := 2, ground := Ground.data }], guard := none }) (v := .slice (some ⟨b, o, none⟩) r.list.length lc) rfl (by kernel_rfl) (by kernel_rfl) (by kernel_rfl) (fun _ _ _ h => h) (Or.inl ⟨by rfl, by intro w hS; have hc := (RC.of hS.1 HIL.out).c38; go_simp⟩) hHeld ?_
      try simp only [Act.put, List.setIfInBounds_toArray, List.set_cons_zero, List.set_cons_succ]
      refine wpAnyH_take (i := 9) (oi := { dst := some 33, op := Op.load 27 (Operand.tmp 32), type := 27, pos := "law.go:81", after := #[{ on := 8, ground := Ground.data }], guard := none }) (v := .slice (some ⟨b, o, none⟩) r.list.length lc) rfl (by kernel_rfl) (by kernel_rfl) (by kernel_rfl) (fun _ _ _ h => h) (Or.inl ⟨by rfl, by intro w hS; have hc := (RC.of hS.1 HIL.out).c38; go_simp⟩) hHeld ?_
      try simp only [Act.put, List.setIfInBounds_toArray, List.set_cons_zero, List.set_cons_succ]
      refine wpAnyH_take (i := 5) (oi := { dst := some 29, op := Op.indexAddr 27 (Operand.tmp 27) (Operand.tmp 28), type := 0, pos := "law.go:81", after := #[{ on := 3, ground := Ground.data }, { on := 4, ground := Ground.data }], guard := none }) (v := .pointer (some ⟨b, o + k * 33, none⟩)) rfl (by kernel_rfl) (by kernel_rfl) (by kernel_rfl) (fun _ _ _ h => h) (Or.inl ⟨by rfl, by intro w hS; go_simp⟩) hHeld ?_
      try simp only [Act.put, List.setIfInBounds_toArray, List.set_cons_zero, List.set_cons_succ]
      refine wpAnyH_take (i := 11) (oi := { dst := some 35, op := Op.indexAddr 27 (Operand.tmp 33) (Operand.tmp 34), type := 0, pos := "law.go:81", after := #[{ on := 9, ground := Ground.data }, { on := 10, ground := Ground.data }], guard := none }) (v := .pointer (some ⟨b, o + k * 33, none⟩)) rfl (by kernel_rfl) (by kernel_rfl) (by kernel_rfl) (fun _ _ _ h => h) (Or.inl ⟨by rfl, by intro w hS; go_simp⟩) hHeld ?_
      try simp only [Act.put, List.setIfInBounds_toArray, List.set_cons_zero, List.set_cons_succ]
      refine wpAnyH_take (i := 6) (oi := { dst := some 30, op := Op.fieldAddr 52 (Operand.tmp 29) 0, type := 0, pos := "law.go:81", after := #[{ on := 5, ground := Ground.data }], guard := none }) (v := .pointer (some ⟨b, o + k * 33, none⟩)) rfl (by kernel_rfl) (by kernel_rfl) (by kernel_rfl) (fun _ _ _ h => h) (Or.inl ⟨by rfl, by intro w hS; go_simp⟩) hHeld ?_
      try simp only [Act.put, List.setIfInBounds_toArray, List.set_cons_zero, List.set_cons_succ]
      refine wpAnyH_take (i := 12) (oi := { dst := some 36, op := Op.fieldAddr 52 (Operand.tmp 35) 1, type := 0, pos := "law.go:81", after := #[{ on := 11, ground := Ground.data }], guard := none }) (v := .pointer (some ⟨b, o + k * 33 + 32, none⟩)) rfl (by kernel_rfl) (by kernel_rfl) (by kernel_rfl) (fun _ _ _ h => h) (Or.inl ⟨by rfl, by intro w hS; go_simp⟩) hHeld ?_
      try simp only [Act.put, List.setIfInBounds_toArray, List.set_cons_zero, List.set_cons_succ]
      refine wpAnyH_take (i := 7) (oi := { dst := some 31, op := Op.load 50 (Operand.tmp 30), type := 50, pos := "law.go:81", after := #[{ on := 6, ground := Ground.data }], guard := none }) (v := .agg (ints .u8 x.key).toArray) rfl (by kernel_rfl) (by kernel_rfl) (by kernel_rfl) (fun _ _ _ h => h) (yieldsIf_load_mid (by rfl) 50 _ rfl b (o + k * 33) rfl (ints .u8 x.key) _ (fun w hS => (el_false (rng_below RG.out hS.2 HG.out) HK.out).1) Try.underlying50 rfl SK.out) hHeld ?_
      try simp only [Act.put, List.setIfInBounds_toArray, List.set_cons_zero, List.set_cons_succ]
      refine wpAnyH_take (i := 13) (oi := { dst := some 37, op := Op.load 22 (Operand.tmp 36), type := 22, pos := "law.go:81", after := #[{ on := 12, ground := Ground.data }], guard := none }) (v := .slice s x.val.length p) rfl (by kernel_rfl) (by kernel_rfl) (by kernel_rfl) (fun _ _ _ h => h) (Or.inl ⟨by rfl, by intro w hS; have hc := (el_false (rng_below RG.out hS.2 HG.out) HK.out).2; go_simp⟩) hHeld ?_
      try simp only [Act.put, List.setIfInBounds_toArray, List.set_cons_zero, List.set_cons_succ]
      refine wpAnyH_ready (rs := [1, 14]) (by kernel_rfl) (by simp) ?_
      refine (AllReadyH.cons (o := { dst := some 25, op := Op.load 27 (Operand.tmp 24), type := 27, pos := "law.go:81", after := #[{ on := 0, ground := Ground.data }], guard := none }) rfl (fun K hK => ?_) (AllReadyH.cons (o := { dst := some 38, op := Op.call { callee := Callee.value (Operand.func 6), args := #[Operand.tmp 37], argTypes := #[22] }, type := 22, pos := "law.go:81", after := #[{ on := 13, ground := Ground.data }], guard := none }) rfl (fun K hK => ?_) AllReadyH.nil))
      · skip
        have hc : wr.drew.cell? ⟨w.heap.size + 1 + 1, 38, none⟩ = some (.slice lsp ln lcap) := (RC.of HD0.out.ro HIL.out).c38
        go_simp
        clear hc
        refine hK.out _ _ (hHeld) (fun hHeld2 => ?_)
        clear hK K hHeld
        have hHeld := hHeld2
        clear hHeld2
        try simp only [Act.put, List.setIfInBounds_toArray, List.set_cons_zero, List.set_cons_succ]
        refine wpAnyH_ready (rs := [14]) (by kernel_rfl) (by simp) ?_
        refine (AllReadyH.cons (o := { dst := some 38, op := Op.call { callee := Callee.value (Operand.func 6), args := #[Operand.tmp 37], argTypes := #[22] }, type := 22, pos := "law.go:81", after := #[{ on := 13, ground := Ground.data }], guard := none }) rfl (fun K hK => ?_) AllReadyH.nil)
        go_simp
        go_at_call 6
        refine (roomy_any _ x.val s p (Sv.below hHeld.2 (Nat.le_refl _)) nv HVL.out).mono ?_
        rintro e w4 ⟨k4, c4, rfl, hk4, R4, hb4⟩
        have D4 := HD0.out.call (hb4.mono HD0.out.sz)
        have E4 := HE0.out.below hb4 (Nat.le_refl _)
        have V4 := HV0.out.below hb4
        have hk5 := Nat.le_trans HD0.out.sz hk4
        go_wp2_with fail
        refine hK.out _ _ (⟨D4.rx, D4.bel⟩) (fun hHeld2 => ?_)
        clear hK K hHeld
        have hHeld := hHeld2
        clear hHeld2
        clear hb4 hk4
        try simp only [Act.put, List.setIfInBounds_toArray, List.set_cons_zero, List.set_cons_succ]
        refine wpAnyH_take (i := 15) (oi := { dst := some 39, op := Op.build 52 #[(0, Operand.tmp 31), (1, Operand.tmp 38)], type := 52, pos := "law.go:81", after := #[{ on := 7, ground := Ground.data }, { on := 14, ground := Ground.data }], guard := none }) (v := .agg (elC false x.key x.del (.slice (some ⟨k4, 0, none⟩) x.val.length c4)).toArray) rfl (by kernel_rfl) (by kernel_rfl) (by kernel_rfl) (fun _ _ _ h => h) (yields_e (by rfl) _ _ rfl x.key HK.out x.del (some ⟨k4, 0, none⟩) x.val.length c4 rfl rfl) hHeld ?_
        try simp only [Act.put, List.setIfInBounds_toArray, List.set_cons_zero, List.set_cons_succ]
        refine wpAnyH_ready (rs := [16]) (by kernel_rfl) (by simp) ?_
        refine (AllReadyH.cons (o := { dst := some 40, op := Op.buildSlice 27 1 #[(0, Operand.tmp 39)], type := 27, pos := "law.go:81", after := #[{ on := 15, ground := Ground.data }], guard := none }) rfl (fun K hK => ?_) AllReadyH.nil)
        refine step_sliceL false (by rfl) (.tmp 39) rfl (enM false ⟨x.key, x.del, .slice (some ⟨k4, 0, none⟩) x.val.length c4⟩) (elC_len HK.out) rfl ?_
        refine hK.out _ _ (⟨hold D4.rx, D4.bel.alloc D4.bel.size _⟩) (fun hHeld2 => ?_)
        clear hK K hHeld
        have hHeld := hHeld2
        clear hHeld2
        try simp only [Act.put, List.setIfInBounds_toArray, List.set_cons_zero, List.set_cons_succ]
        refine wpAnyH_ready (rs := [17]) (by kernel_rfl) (by simp) ?_
        refine (AllReadyH.cons (o := { dst := some 41, op := Op.call { callee := Callee.builtin Builtin.append, args := #[Operand.tmp 25, Operand.tmp 40], argTypes := #[27, 27] }, type := 27, pos := "law.go:81", after := #[{ on := 1, ground := Ground.data }, { on := 16, ground := Ground.data }, { on := 14, ground := Ground.chain }], guard := none }) rfl (fun K hK => ?_) AllReadyH.nil)
        refine step_pushL false rfl (.tmp 25) (.tmp 40) rfl (w.heap.size + 3) (.slice lsp ln lcap) ms ⟨x.key, x.del, .slice (some ⟨k4, 0, none⟩) x.val.length c4⟩ rfl E4.own rfl (elC_len HK.out) (elC_one rfl) HLEN.out D4.sz _ _ ?_
        intro v7 w7 hO7 hg7
        have D7 := D4.call (grown_keeps hg7 (fun k hk => (E4.own.block k hk).1) D4.sz)
        have E7 := E4.snoc hO7 hg7 HK.out hk5 R4
        have V7 := V4.other E4.own hg7
        refine hK.out _ _ (⟨D7.rx, D7.bel⟩) (fun hHeld2 => ?_)
        clear hK K hHeld
        have hHeld := hHeld2
        clear hHeld2
        try simp only [Act.put, List.setIfInBounds_toArray, List.set_cons_zero, List.set_cons_succ]
        refine wpAnyH_take (i := 18) (oi := { dst := some 42, op := Op.fieldAddr 32 (Operand.tmp 3) 7, type := 0, pos := "law.go:81", after := #[{ on := 0, ground := Ground.phase }, { on := 1, ground := Ground.phase }, { on := 2, ground := Ground.phase }, { on := 3, ground := Ground.phase }, { on := 4, ground := Ground.phase }, { on := 5, ground := Ground.phase }, { on := 6, ground := Ground.phase }, { on := 7, ground := Ground.phase }, { on := 8, ground := Ground.phase }, { on := 9, ground := Ground.phase }, { on := 10, ground := Ground.phase }, { on := 11, ground := Ground.phase }, { on := 12, ground := Ground.phase }, { on := 13, ground := Ground.phase }, { on := 14, ground := Ground.phase }, { on := 15, ground := Ground.phase }, { on := 16, ground := Ground.phase }, { on := 17, ground := Ground.phase }], guard := none }) (v := .pointer (some ⟨(w.heap.size + 1 + 1), 38, none⟩)) rfl (by kernel_rfl) (by kernel_rfl) (by kernel_rfl) (fun _ _ _ h => h) (Or.inl ⟨by rfl, by intro w hS; go_simp⟩) hHeld ?_
        try simp only [Act.put, List.setIfInBounds_toArray, List.set_cons_zero, List.set_cons_succ]
        refine wpAnyH_ready (rs := [19]) (by kernel_rfl) (by simp) ?_
        refine (AllReadyH.cons (o := { dst := none, op := Op.store 27 (Operand.tmp 42) (Operand.tmp 41), type := 0, pos := "law.go:81", after := #[{ on := 18, ground := Ground.data }, { on := 17, ground := Ground.data }, { on := 17, ground := Ground.chain }, { on := 0, ground := Ground.phase }, { on := 1, ground := Ground.phase }, { on := 2, ground := Ground.phase }, { on := 3, ground := Ground.phase }, { on := 4, ground := Ground.phase }, { on := 5, ground := Ground.phase }, { on := 6, ground := Ground.phase }, { on := 7, ground := Ground.phase }, { on := 8, ground := Ground.phase }, { on := 9, ground := Ground.phase }, { on := 10, ground := Ground.phase }, { on := 11, ground := Ground.phase }, { on := 12, ground := Ground.phase }, { on := 13, ground := Ground.phase }, { on := 14, ground := Ground.phase }, { on := 15, ground := Ground.phase }, { on := 16, ground := Ground.phase }, { on := 17, ground := Ground.phase }], guard := none }) rfl (fun K hK => ?_) AllReadyH.nil)
        refine step_storeW (by rfl) 27 _ _ rfl (w.heap.size + 1 + 1) 38 v7 rfl rfl _ 32 D7.ro (by rw [rpC_len HIL.out]; omega) Try.sizeEs hO7.cells.1 hO7.cells.2 ?_
        intro w8 hr8 hk8
        rw [rpC_set38 HIL.out] at hr8
        have D8 := D7.put hr8 hk8
        have E8 := E7.keeps hk8 (by omega)
        have V8 := V7.keeps hk8 (by omega)
        refine hK.out _ _ (⟨D8.rx, D8.bel⟩) (fun hHeld2 => ?_)
        clear hK K hHeld
        have hHeld := hHeld2
        clear hHeld2
        try simp only [Act.put, List.setIfInBounds_toArray, List.set_cons_zero, List.set_cons_succ]
        refine wpAnyH_done (by kernel_rfl) ?_ _
        refine NoPanic.normal ?_
        clear hHeld
        go_wp2
        go_roundw
        case rel => exact ⟨k + 1, _, _, by omega, by go_num, D8, by rw [HT.out]; exact E8, V8⟩
        case measure => simp [intOf]; omega
      · skip
        go_simp
        go_at_call 6
        refine (roomy_any _ x.val s p (Sv.below hHeld.2 (Nat.le_refl _)) nv HVL.out).mono ?_
        rintro e w4 ⟨k4, c4, rfl, hk4, R4, hb4⟩
        have D4 := HD0.out.call (hb4.mono HD0.out.sz)
        have E4 := HE0.out.below hb4 (Nat.le_refl _)
        have V4 := HV0.out.below hb4
        have hk5 := Nat.le_trans HD0.out.sz hk4
        go_wp2_with fail
        refine hK.out _ _ (⟨D4.rx, D4.bel⟩) (fun hHeld2 => ?_)
        clear hK K hHeld
        have hHeld := hHeld2
        clear hHeld2
        clear hb4 hk4
        try simp only [Act.put, List.setIfInBounds_toArray, List.set_cons_zero, List.set_cons_succ]
        refine wpAnyH_take (i := 15) (oi := { dst := some 39, op := Op.build 52 #[(0, Operand.tmp 31), (1, Operand.tmp 38)], type := 52, pos := "law.go:81", after := #[{ on := 7, ground := Ground.data }, { on := 14, ground := Ground.data }], guard := none }) (v := .agg (elC false x.key x.del (.slice (some ⟨k4, 0, none⟩) x.val.length c4)).toArray) rfl (by kernel_rfl) (by kernel_rfl) (by kernel_rfl) (fun _ _ _ h => h) (yields_e (by rfl) _ _ rfl x.key HK.out x.del (some ⟨k4, 0, none⟩) x.val.length c4 rfl rfl) hHeld ?_
        try simp only [Act.put, List.setIfInBounds_toArray, List.set_cons_zero, List.set_cons_succ]
        refine wpAnyH_ready (rs := [1, 16]) (by kernel_rfl) (by simp) ?_
        refine (AllReadyH.cons (o := { dst := some 25, op := Op.load 27 (Operand.tmp 24), type := 27, pos := "law.go:81", after := #[{ on := 0, ground := Ground.data }], guard := none }) rfl (fun K hK => ?_) (AllReadyH.cons (o := { dst := some 40, op := Op.buildSlice 27 1 #[(0, Operand.tmp 39)], type := 27, pos := "law.go:81", after := #[{ on := 15, ground := Ground.data }], guard := none }) rfl (fun K hK => ?_) AllReadyH.nil))
        · skip
          have hc : w4.cell? ⟨w.heap.size + 1 + 1, 38, none⟩ = some (.slice lsp ln lcap) := (RC.of D4.ro HIL.out).c38
          go_simp
          clear hc
          refine hK.out _ _ (hHeld) (fun hHeld2 => ?_)
          clear hK K hHeld
          have hHeld := hHeld2
          clear hHeld2
          try simp only [Act.put, List.setIfInBounds_toArray, List.set_cons_zero, List.set_cons_succ]
          refine wpAnyH_ready (rs := [16]) (by kernel_rfl) (by simp) ?_
          refine (AllReadyH.cons (o := { dst := some 40, op := Op.buildSlice 27 1 #[(0, Operand.tmp 39)], type := 27, pos := "law.go:81", after := #[{ on := 15, ground := Ground.data }], guard := none }) rfl (fun K hK => ?_) AllReadyH.nil)
          refine step_sliceL false (by rfl) (.tmp 39) rfl (enM false ⟨x.key, x.del, .slice (some ⟨k4, 0, none⟩) x.val.length c4⟩) (elC_len HK.out) rfl ?_
          refine hK.out _ _ (⟨hold D4.rx, D4.bel.alloc D4.bel.size _⟩) (fun hHeld2 => ?_)
          clear hK K hHeld
          have hHeld := hHeld2
          clear hHeld2
          try simp only [Act.put, List.setIfInBounds_toArray, List.set_cons_zero, List.set_cons_succ]
          refine wpAnyH_ready (rs := [17]) (by kernel_rfl) (by simp) ?_
          refine (AllReadyH.cons (o := { dst := some 41, op := Op.call { callee := Callee.builtin Builtin.append, args := #[Operand.tmp 25, Operand.tmp 40], argTypes := #[27, 27] }, type := 27, pos := "law.go:81", after := #[{ on := 1, ground := Ground.data }, { on := 16, ground := Ground.data }, { on := 14, ground := Ground.chain }], guard := none }) rfl (fun K hK => ?_) AllReadyH.nil)
          refine step_pushL false rfl (.tmp 25) (.tmp 40) rfl (w.heap.size + 3) (.slice lsp ln lcap) ms ⟨x.key, x.del, .slice (some ⟨k4, 0, none⟩) x.val.length c4⟩ rfl E4.own rfl (elC_len HK.out) (elC_one rfl) HLEN.out D4.sz _ _ ?_
          intro v7 w7 hO7 hg7
          have D7 := D4.call (grown_keeps hg7 (fun k hk => (E4.own.block k hk).1) D4.sz)
          have E7 := E4.snoc hO7 hg7 HK.out hk5 R4
          have V7 := V4.other E4.own hg7
          refine hK.out _ _ (⟨D7.rx, D7.bel⟩) (fun hHeld2 => ?_)
          clear hK K hHeld
          have hHeld := hHeld2
          clear hHeld2
          try simp only [Act.put, List.setIfInBounds_toArray, List.set_cons_zero, List.set_cons_succ]
          refine wpAnyH_take (i := 18) (oi := { dst := some 42, op := Op.fieldAddr 32 (Operand.tmp 3) 7, type := 0, pos := "law.go:81", after := #[{ on := 0, ground := Ground.phase }, { on := 1, ground := Ground.phase }, { on := 2, ground := Ground.phase }, { on := 3, ground := Ground.phase }, { on := 4, ground := Ground.phase }, { on := 5, ground := Ground.phase }, { on := 6, ground := Ground.phase }, { on := 7, ground := Ground.phase }, { on := 8, ground := Ground.phase }, { on := 9, ground := Ground.phase }, { on := 10, ground := Ground.phase }, { on := 11, ground := Ground.phase }, { on := 12, ground := Ground.phase }, { on := 13, ground := Ground.phase }, { on := 14, ground := Ground.phase }, { on := 15, ground := Ground.phase }, { on := 16, ground := Ground.phase }, { on := 17, ground := Ground.phase }], guard := none }) (v := .pointer (some ⟨(w.heap.size + 1 + 1), 38, none⟩)) rfl (by kernel_rfl) (by kernel_rfl) (by kernel_rfl) (fun _ _ _ h => h) (Or.inl ⟨by rfl, by intro w hS; go_simp⟩) hHeld ?_
          try simp only [Act.put, List.setIfInBounds_toArray, List.set_cons_zero, List.set_cons_succ]
          refine wpAnyH_ready (rs := [19]) (by kernel_rfl) (by simp) ?_
          refine (AllReadyH.cons (o := { dst := none, op := Op.store 27 (Operand.tmp 42) (Operand.tmp 41), type := 0, pos := "law.go:81", after := #[{ on := 18, ground := Ground.data }, { on := 17, ground := Ground.data }, { on := 17, ground := Ground.chain }, { on := 0, ground := Ground.phase }, { on := 1, ground := Ground.phase }, { on := 2, ground := Ground.phase }, { on := 3, ground := Ground.phase }, { on := 4, ground := Ground.phase }, { on := 5, ground := Ground.phase }, { on := 6, ground := Ground.phase }, { on := 7, ground := Ground.phase }, { on := 8, ground := Ground.phase }, { on := 9, ground := Ground.phase }, { on := 10, ground := Ground.phase }, { on := 11, ground := Ground.phase }, { on := 12, ground := Ground.phase }, { on := 13, ground := Ground.phase }, { on := 14, ground := Ground.phase }, { on := 15, ground := Ground.phase }, { on := 16, ground := Ground.phase }, { on := 17, ground := Ground.phase }], guard := none }) rfl (fun K hK => ?_) AllReadyH.nil)
          refine step_storeW (by rfl) 27 _ _ rfl (w.heap.size + 1 + 1) 38 v7 rfl rfl _ 32 D7.ro (by rw [rpC_len HIL.out]; omega) Try.sizeEs hO7.cells.1 hO7.cells.2 ?_
          intro w8 hr8 hk8
          rw [rpC_set38 HIL.out] at hr8
          have D8 := D7.put hr8 hk8
          have E8 := E7.keeps hk8 (by omega)
          have V8 := V7.keeps hk8 (by omega)
          refine hK.out _ _ (⟨D8.rx, D8.bel⟩) (fun hHeld2 => ?_)
          clear hK K hHeld
          have hHeld := hHeld2
          clear hHeld2
          try simp only [Act.put, List.setIfInBounds_toArray, List.set_cons_zero, List.set_cons_succ]
          refine wpAnyH_done (by kernel_rfl) ?_ _
          refine NoPanic.normal ?_
          clear hHeld
          go_wp2
          go_roundw
          case rel => exact ⟨k + 1, _, _, by omega, by go_num, D8, by rw [HT.out]; exact E8, V8⟩
          case measure => simp [intOf]; omega
        · skip
          refine step_sliceL false (by rfl) (.tmp 39) rfl (enM false ⟨x.key, x.del, .slice (some ⟨k4, 0, none⟩) x.val.length c4⟩) (elC_len HK.out) rfl ?_
          refine hK.out _ _ (⟨hold D4.rx, D4.bel.alloc D4.bel.size _⟩) (fun hHeld2 => ?_)
          clear hK K hHeld
          have hHeld := hHeld2
          clear hHeld2
          try simp only [Act.put, List.setIfInBounds_toArray, List.set_cons_zero, List.set_cons_succ]
          refine wpAnyH_ready (rs := [1]) (by kernel_rfl) (by simp) ?_
          refine (AllReadyH.cons (o := { dst := some 25, op := Op.load 27 (Operand.tmp 24), type := 27, pos := "law.go:81", after := #[{ on := 0, ground := Ground.data }], guard := none }) rfl (fun K hK => ?_) AllReadyH.nil)
          have hc : (w4.alloc (.cells (enM false ⟨x.key, x.del, .slice (some ⟨k4, 0, none⟩) x.val.length c4⟩).toArray (tyE false))).cell? ⟨w.heap.size + 1 + 1, 38, none⟩ = some (.slice lsp ln lcap) := (RC.of (hold D4.ro) HIL.out).c38
          go_simp
          clear hc
          refine hK.out _ _ (hHeld) (fun hHeld2 => ?_)
          clear hK K hHeld
          have hHeld := hHeld2
          clear hHeld2
          try simp only [Act.put, List.setIfInBounds_toArray, List.set_cons_zero, List.set_cons_succ]
          refine wpAnyH_ready (rs := [17]) (by kernel_rfl) (by simp) ?_
          refine (AllReadyH.cons (o := { dst := some 41, op := Op.call { callee := Callee.builtin Builtin.append, args := #[Operand.tmp 25, Operand.tmp 40], argTypes := #[27, 27] }, type := 27, pos := "law.go:81", after := #[{ on := 1, ground := Ground.data }, { on := 16, ground := Ground.data }, { on := 14, ground := Ground.chain }], guard := none }) rfl (fun K hK => ?_) AllReadyH.nil)
          refine step_pushL false rfl (.tmp 25) (.tmp 40) rfl (w.heap.size + 3) (.slice lsp ln lcap) ms ⟨x.key, x.del, .slice (some ⟨k4, 0, none⟩) x.val.length c4⟩ rfl E4.own rfl (elC_len HK.out) (elC_one rfl) HLEN.out D4.sz _ _ ?_
          intro v7 w7 hO7 hg7
          have D7 := D4.call (grown_keeps hg7 (fun k hk => (E4.own.block k hk).1) D4.sz)
          have E7 := E4.snoc hO7 hg7 HK.out hk5 R4
          have V7 := V4.other E4.own hg7
          refine hK.out _ _ (⟨D7.rx, D7.bel⟩) (fun hHeld2 => ?_)
          clear hK K hHeld
          have hHeld := hHeld2
          clear hHeld2
          try simp only [Act.put, List.setIfInBounds_toArray, List.set_cons_zero, List.set_cons_succ]
          refine wpAnyH_take (i := 18) (oi := { dst := some 42, op := Op.fieldAddr 32 (Operand.tmp 3) 7, type := 0, pos := "law.go:81", after := #[{ on := 0, ground := Ground.phase }, { on := 1, ground := Ground.phase }, { on := 2, ground := Ground.phase }, { on := 3, ground := Ground.phase }, { on := 4, ground := Ground.phase }, { on := 5, ground := Ground.phase }, { on := 6, ground := Ground.phase }, { on := 7, ground := Ground.phase }, { on := 8, ground := Ground.phase }, { on := 9, ground := Ground.phase }, { on := 10, ground := Ground.phase }, { on := 11, ground := Ground.phase }, { on := 12, ground := Ground.phase }, { on := 13, ground := Ground.phase }, { on := 14, ground := Ground.phase }, { on := 15, ground := Ground.phase }, { on := 16, ground := Ground.phase }, { on := 17, ground := Ground.phase }], guard := none }) (v := .pointer (some ⟨(w.heap.size + 1 + 1), 38, none⟩)) rfl (by kernel_rfl) (by kernel_rfl) (by kernel_rfl) (fun _ _ _ h => h) (Or.inl ⟨by rfl, by intro w hS; go_simp⟩) hHeld ?_
          try simp only [Act.put, List.setIfInBounds_toArray, List.set_cons_zero, List.set_cons_succ]
          refine wpAnyH_ready (rs := [19]) (by kernel_rfl) (by simp) ?_
          refine (AllReadyH.cons (o := { dst := none, op := Op.store 27 (Operand.tmp 42) (Operand.tmp 41), type := 0, pos := "law.go:81", after := #[{ on := 18, ground := Ground.data }, { on := 17, ground := Ground.data }, { on := 17, ground := Ground.chain }, { on := 0, ground := Ground.phase }, { on := 1, ground := Ground.phase }, { on := 2, ground := Ground.phase }, { on := 3, ground := Ground.phase }, { on := 4, ground := Ground.phase }, { on := 5, ground := Ground.phase }, { on := 6, ground := Ground.phase }, { on := 7, ground := Ground.phase }, { on := 8, ground := Ground.phase }, { on := 9, ground := Ground.phase }, { on := 10, ground := Ground.phase }, { on := 11, ground := Ground.phase }, { on := 12, ground := Ground.phase }, { on := 13, ground := Ground.phase }, { on := 14, ground := Ground.phase }, { on := 15, ground := Ground.phase }, { on := 16, ground := Ground.phase }, { on := 17, ground := Ground.phase }], guard := none }) rfl (fun K hK => ?_) AllReadyH.nil)
          refine step_storeW (by rfl) 27 _ _ rfl (w.heap.size + 1 + 1) 38 v7 rfl rfl _ 32 D7.ro (by rw [rpC_len HIL.out]; omega) Try.sizeEs hO7.cells.1 hO7.cells.2 ?_
          intro w8 hr8 hk8
          rw [rpC_set38 HIL.out] at hr8
          have D8 := D7.put hr8 hk8
          have E8 := E7.keeps hk8 (by omega)
          have V8 := V7.keeps hk8 (by omega)
          refine hK.out _ _ (⟨D8.rx, D8.bel⟩) (fun hHeld2 => ?_)
          clear hK K hHeld
          have hHeld := hHeld2
          clear hHeld2
          try simp only [Act.put, List.setIfInBounds_toArray, List.set_cons_zero, List.set_cons_succ]
          refine wpAnyH_done (by kernel_rfl) ?_ _
          refine NoPanic.normal ?_
          clear hHeld
          go_wp2
          go_roundw
          case rel => exact ⟨k + 1, _, _, by omega, by go_num, D8, by rw [HT.out]; exact E8, V8⟩
          case measure => simp [intOf]; omega
    · obtain rfl : k = r.list.length := by omega
      rw [List.take_length] at E
      clear hlt'
      have xc := (RC.of D.rx HIL.out).c38
      have D1 := D
      have U1 := E
      have V1 := VV
      clear D E VV
      go_wp2
      clear xc
      go_loopw [5] (fun i wr => ∃ (k : Nat) (cv : Value) (mc : List ME), k ≤ r.chs.length ∧ i = .int .i64 k ∧ OY w wr (rpV r vs rs ls cs vc rc lc cc) r (.slice (some ⟨k5, 0, none⟩) r.val.length c5) (.slice (some ⟨k7, 0, none⟩) r.raw.length c7) lv cv ∧ ElR true wr (w.heap.size + 3) cv mc (r.chs.take k) ∧ VR wr (w.heap.size + 3) k5 c5 r.val k7 c7 r.raw ∧ ElR false wr (w.heap.size + 3) lv ms r.list) (fun i _ => r.chs.length - (intOf i).toNat)
      case atStart => exact ⟨0, _, [], Nat.zero_le _, rfl, D1, by rw [List.take_zero]; exact ElR.nil _ _ _, V1, U1⟩
      case round =>
        clear D1 U1 V1 hbo hel
        obtain ⟨k, cv, mc, hk, rfl, D, E, VV, UU⟩ := hrel
        by_cases hlt' : k < r.chs.length
        · skip
          have i1 : (k : Int) < (r.chs.length : Int) := by omega
          obtain ⟨hls, hbl⟩ := hbo2 (by omega)
          subst hls
          obtain ⟨s, p, rg, kl, Sv, nv⟩ := hel2 k hlt'
          change w.rangeAt b2 (o2 + k * 34) _ at rg
          have HT := hid (take_snocC r.chs k hlt')
          have HVL := hid (hM.chs k hlt')
          have HLEN := hid (show (mc.length + 1) * (if true then 64 else 56) ≤ 140737488355328 by
            have h1 := E.len
            rw [List.length_take] at h1
            have h2 := hM.cn
            simp only [if_true]
            omega)
          have HD0 := hid D.drew
          have HE0 := hid E.drew
          have HV0 := hid VV.drew
          have HU0 := hid UU.drew
          have RG := hid rg
          have HG := hid hbl
          have HK := hid kl
          obtain ⟨lsp, ln, lcap, hlv⟩ : ∃ sp n c, cv = Value.slice sp n c := by obtain ⟨sp, cap, e, _⟩ := E.src; exact ⟨sp, _, cap, e⟩
          subst hlv
          generalize hxe : r.chs.getD k dX = x at *
          replace hxe := hid hxe
          have SK := hid (show (Try.prog.info? 50).map (·.size) = some (ints .u8 x.key).length by rw [ints_len, HK.out]; exact Try.sizeKey)
          have cx := (RC.of D.rx HIL.out).c39
          clear rg hbl kl D E VV UU
          go_wp2
          refine wp_region_noPanic ?_
          refine wp_region_held_drew (S := (fun w' => w'.heap[w.heap.size]? = some (.cells (rpV r vs rs ls (some ⟨b2, o2, none⟩) vc rc lc cc).toArray 32 (0, 0)) ∧ Below w.heap.size w w')) (by kernel_rfl) ⟨HD0.out.rx, HD0.out.bel⟩ (fun hHeld => ?_)
          refine wpAnyH_take (i := 0) (oi := { dst := some 50, op := Op.fieldAddr 32 (Operand.tmp 3) 8, type := 0, pos := "law.go:84", after := #[], guard := none }) (v := .pointer (some ⟨(w.heap.size + 1 + 1), 39, none⟩)) rfl (by kernel_rfl) (by kernel_rfl) (by kernel_rfl) (fun _ _ _ h => h) (Or.inl ⟨by rfl, by intro w hS; go_simp⟩) hHeld ?_
          try simp only [Act.put, List.setIfInBounds_toArray, List.set_cons_zero, List.set_cons_succ]
          refine wpAnyH_take (i := 2) (oi := { dst := some 52, op := Op.fieldAddr 32 (Operand.tmp 1) 8, type := 0, pos := "law.go:84", after := #[], guard := none }) (v := .pointer (some ⟨w.heap.size, 39, none⟩)) rfl (by kernel_rfl) (by kernel_rfl) (by kernel_rfl) (fun _ _ _ h => h) (Or.inl ⟨by rfl, by intro w hS; go_simp⟩) hHeld ?_
          try simp only [Act.put, List.setIfInBounds_toArray, List.set_cons_zero, List.set_cons_succ]
          refine wpAnyH_take (i := 4) (oi := { dst := some 54, op := Op.move (Operand.tmp 5), type := 3, pos := "law.go:84", after := #[], guard := none }) (v := .int .i64 k) rfl (by kernel_rfl) (by kernel_rfl) (by kernel_rfl) (fun _ _ _ h => h) (Or.inl ⟨by rfl, by intro w hS; go_simp⟩) hHeld ?_
          try simp only [Act.put, List.setIfInBounds_toArray, List.set_cons_zero, List.set_cons_succ]
          refine wpAnyH_take (i := 8) (oi := { dst := some 58, op := Op.fieldAddr 32 (Operand.tmp 1) 8, type := 0, pos := "law.go:84", after := #[], guard := none }) (v := .pointer (some ⟨w.heap.size, 39, none⟩)) rfl (by kernel_rfl) (by kernel_rfl) (by kernel_rfl) (fun _ _ _ h => h) (Or.inl ⟨by rfl, by intro w hS; go_simp⟩) hHeld ?_
          try simp only [Act.put, List.setIfInBounds_toArray, List.set_cons_zero, List.set_cons_succ]
          refine wpAnyH_take (i := 10) (oi := { dst := some 60, op := Op.move (Operand.tmp 5), type := 3, pos := "law.go:84", after := #[], guard := none }) (v := .int .i64 k) rfl (by kernel_rfl) (by kernel_rfl) (by kernel_rfl) (fun _ _ _ h => h) (Or.inl ⟨by rfl, by intro w hS; go_simp⟩) hHeld ?_
          try simp only [Act.put, List.setIfInBounds_toArray, List.set_cons_zero, List.set_cons_succ]
          refine wpAnyH_take (i := 14) (oi := { dst := some 64, op := Op.fieldAddr 32 (Operand.tmp 1) 8, type := 0, pos := "law.go:84", after := #[], guard := none }) (v := .pointer (some ⟨w.heap.size, 39, none⟩)) rfl (by kernel_rfl) (by kernel_rfl) (by kernel_rfl) (fun _ _ _ h => h) (Or.inl ⟨by rfl, by intro w hS; go_simp⟩) hHeld ?_
          try simp only [Act.put, List.setIfInBounds_toArray, List.set_cons_zero, List.set_cons_succ]
          refine wpAnyH_take (i := 16) (oi := { dst := some 66, op := Op.move (Operand.tmp 5), type := 3, pos := "law.go:84", after := #[], guard := none }) (v := .int .i64 k) rfl (by kernel_rfl) (by kernel_rfl) (by kernel_rfl) (fun _ _ _ h => h) (Or.inl ⟨by rfl, by intro w hS; go_simp⟩) hHeld ?_
          try simp only [Act.put, List.setIfInBounds_toArray, List.set_cons_zero, List.set_cons_succ]
          refine wpAnyH_take (i := 3) (oi := { dst := some 53, op := Op.load 28 (Operand.tmp 52), type := 28, pos := "law.go:84", after := #[{ on := 2, ground := Ground.data }], guard := none }) (v := .slice (some ⟨b2, o2, none⟩) r.chs.length cc) rfl (by kernel_rfl) (by kernel_rfl) (by kernel_rfl) (fun _ _ _ h => h) (Or.inl ⟨by rfl, by intro w hS; have hc := (RC.of hS.1 HIL.out).c39; go_simp⟩) hHeld ?_
          try simp only [Act.put, List.setIfInBounds_toArray, List.set_cons_zero, List.set_cons_succ]
          refine wpAnyH_take (i := 9) (oi := { dst := some 59, op := Op.load 28 (Operand.tmp 58), type := 28, pos := "law.go:84", after := #[{ on := 8, ground := Ground.data }], guard := none }) (v := .slice (some ⟨b2, o2, none⟩) r.chs.length cc) rfl (by kernel_rfl) (by kernel_rfl) (by kernel_rfl) (fun _ _ _ h => h) (Or.inl ⟨by rfl, by intro w hS; have hc := (RC.of hS.1 HIL.out).c39; go_simp⟩) hHeld ?_
          try simp only [Act.put, List.setIfInBounds_toArray, List.set_cons_zero, List.set_cons_succ]
          refine wpAnyH_take (i := 15) (oi := { dst := some 65, op := Op.load 28 (Operand.tmp 64), type := 28, pos := "law.go:84", after := #[{ on := 14, ground := Ground.data }], guard := none }) (v := .slice (some ⟨b2, o2, none⟩) r.chs.length cc) rfl (by kernel_rfl) (by kernel_rfl) (by kernel_rfl) (fun _ _ _ h => h) (Or.inl ⟨by rfl, by intro w hS; have hc := (RC.of hS.1 HIL.out).c39; go_simp⟩) hHeld ?_
          try simp only [Act.put, List.setIfInBounds_toArray, List.set_cons_zero, List.set_cons_succ]
          refine wpAnyH_take (i := 5) (oi := { dst := some 55, op := Op.indexAddr 28 (Operand.tmp 53) (Operand.tmp 54), type := 0, pos := "law.go:84", after := #[{ on := 3, ground := Ground.data }, { on := 4, ground := Ground.data }], guard := none }) (v := .pointer (some ⟨b2, o2 + k * 34, none⟩)) rfl (by kernel_rfl) (by kernel_rfl) (by kernel_rfl) (fun _ _ _ h => h) (Or.inl ⟨by rfl, by intro w hS; go_simp⟩) hHeld ?_
          try simp only [Act.put, List.setIfInBounds_toArray, List.set_cons_zero, List.set_cons_succ]
          refine wpAnyH_take (i := 11) (oi := { dst := some 61, op := Op.indexAddr 28 (Operand.tmp 59) (Operand.tmp 60), type := 0, pos := "law.go:84", after := #[{ on := 9, ground := Ground.data }, { on := 10, ground := Ground.data }], guard := none }) (v := .pointer (some ⟨b2, o2 + k * 34, none⟩)) rfl (by kernel_rfl) (by kernel_rfl) (by kernel_rfl) (fun _ _ _ h => h) (Or.inl ⟨by rfl, by intro w hS; go_simp⟩) hHeld ?_
          try simp only [Act.put, List.setIfInBounds_toArray, List.set_cons_zero, List.set_cons_succ]
          refine wpAnyH_take (i := 17) (oi := { dst := some 67, op := Op.indexAddr 28 (Operand.tmp 65) (Operand.tmp 66), type := 0, pos := "law.go:84", after := #[{ on := 15, ground := Ground.data }, { on := 16, ground := Ground.data }], guard := none }) (v := .pointer (some ⟨b2, o2 + k * 34, none⟩)) rfl (by kernel_rfl) (by kernel_rfl) (by kernel_rfl) (fun _ _ _ h => h) (Or.inl ⟨by rfl, by intro w hS; go_simp⟩) hHeld ?_
          try simp only [Act.put, List.setIfInBounds_toArray, List.set_cons_zero, List.set_cons_succ]
          refine wpAnyH_take (i := 6) (oi := { dst := some 56, op := Op.fieldAddr 54 (Operand.tmp 55) 0, type := 0, pos := "law.go:84", after := #[{ on := 5, ground := Ground.data }], guard := none }) (v := .pointer (some ⟨b2, o2 + k * 34, none⟩)) rfl (by kernel_rfl) (by kernel_rfl) (by kernel_rfl) (fun _ _ _ h => h) (Or.inl ⟨by rfl, by intro w hS; go_simp⟩) hHeld ?_
          try simp only [Act.put, List.setIfInBounds_toArray, List.set_cons_zero, List.set_cons_succ]
          refine wpAnyH_take (i := 12) (oi := { dst := some 62, op := Op.fieldAddr 54 (Operand.tmp 61) 1, type := 0, pos := "law.go:84", after := #[{ on := 11, ground := Ground.data }], guard := none }) (v := .pointer (some ⟨b2, o2 + k * 34 + 32, none⟩)) rfl (by kernel_rfl) (by kernel_rfl) (by kernel_rfl) (fun _ _ _ h => h) (Or.inl ⟨by rfl, by intro w hS; go_simp⟩) hHeld ?_
          try simp only [Act.put, List.setIfInBounds_toArray, List.set_cons_zero, List.set_cons_succ]
          refine wpAnyH_take (i := 18) (oi := { dst := some 68, op := Op.fieldAddr 54 (Operand.tmp 67) 2, type := 0, pos := "law.go:84", after := #[{ on := 17, ground := Ground.data }], guard := none }) (v := .pointer (some ⟨b2, o2 + k * 34 + 33, none⟩)) rfl (by kernel_rfl) (by kernel_rfl) (by kernel_rfl) (fun _ _ _ h => h) (Or.inl ⟨by rfl, by intro w hS; go_simp⟩) hHeld ?_
          try simp only [Act.put, List.setIfInBounds_toArray, List.set_cons_zero, List.set_cons_succ]
          refine wpAnyH_take (i := 7) (oi := { dst := some 57, op := Op.load 50 (Operand.tmp 56), type := 50, pos := "law.go:84", after := #[{ on := 6, ground := Ground.data }], guard := none }) (v := .agg (ints .u8 x.key).toArray) rfl (by kernel_rfl) (by kernel_rfl) (by kernel_rfl) (fun _ _ _ h => h) (yieldsIf_load_mid (by rfl) 50 _ rfl b2 (o2 + k * 34) rfl (ints .u8 x.key) _ (fun w hS => (el_true (rng_below RG.out hS.2 HG.out) HK.out).1) Try.underlying50 rfl SK.out) hHeld ?_
          try simp only [Act.put, List.setIfInBounds_toArray, List.set_cons_zero, List.set_cons_succ]
          refine wpAnyH_take (i := 13) (oi := { dst := some 63, op := Op.load 4 (Operand.tmp 62), type := 4, pos := "law.go:84", after := #[{ on := 12, ground := Ground.data }], guard := none }) (v := .bool x.del) rfl (by kernel_rfl) (by kernel_rfl) (by kernel_rfl) (fun _ _ _ h => h) (Or.inl ⟨by rfl, by intro w hS; have hc := (el_true (rng_below RG.out hS.2 HG.out) HK.out).2.2; go_simp⟩) hHeld ?_
          try simp only [Act.put, List.setIfInBounds_toArray, List.set_cons_zero, List.set_cons_succ]
          refine wpAnyH_take (i := 19) (oi := { dst := some 69, op := Op.load 22 (Operand.tmp 68), type := 22, pos := "law.go:84", after := #[{ on := 18, ground := Ground.data }], guard := none }) (v := .slice s x.val.length p) rfl (by kernel_rfl) (by kernel_rfl) (by kernel_rfl) (fun _ _ _ h => h) (Or.inl ⟨by rfl, by intro w hS; have hc := (el_true (rng_below RG.out hS.2 HG.out) HK.out).2.1; go_simp⟩) hHeld ?_
          try simp only [Act.put, List.setIfInBounds_toArray, List.set_cons_zero, List.set_cons_succ]
          refine wpAnyH_ready (rs := [1, 20]) (by kernel_rfl) (by simp) ?_
          refine (AllReadyH.cons (o := { dst := some 51, op := Op.load 28 (Operand.tmp 50), type := 28, pos := "law.go:84", after := #[{ on := 0, ground := Ground.data }], guard := none }) rfl (fun K hK => ?_) (AllReadyH.cons (o := { dst := some 70, op := Op.call { callee := Callee.value (Operand.func 6), args := #[Operand.tmp 69], argTypes := #[22] }, type := 22, pos := "law.go:84", after := #[{ on := 19, ground := Ground.data }], guard := none }) rfl (fun K hK => ?_) AllReadyH.nil))
          · skip
            have hc : wr.drew.cell? ⟨w.heap.size + 1 + 1, 39, none⟩ = some (.slice lsp ln lcap) := (RC.of HD0.out.ro HIL.out).c39
            go_simp
            clear hc
            refine hK.out _ _ (hHeld) (fun hHeld2 => ?_)
            clear hK K hHeld
            have hHeld := hHeld2
            clear hHeld2
            try simp only [Act.put, List.setIfInBounds_toArray, List.set_cons_zero, List.set_cons_succ]
            refine wpAnyH_ready (rs := [20]) (by kernel_rfl) (by simp) ?_
            refine (AllReadyH.cons (o := { dst := some 70, op := Op.call { callee := Callee.value (Operand.func 6), args := #[Operand.tmp 69], argTypes := #[22] }, type := 22, pos := "law.go:84", after := #[{ on := 19, ground := Ground.data }], guard := none }) rfl (fun K hK => ?_) AllReadyH.nil)
            go_simp
            go_at_call 6
            refine (roomy_any _ x.val s p (Sv.below hHeld.2 (Nat.le_refl _)) nv HVL.out).mono ?_
            rintro e w4 ⟨k4, c4, rfl, hk4, R4, hb4⟩
            have D4 := HD0.out.call (hb4.mono HD0.out.sz)
            have E4 := HE0.out.below hb4 (Nat.le_refl _)
            have V4 := HV0.out.below hb4
            have hk5 := Nat.le_trans HD0.out.sz hk4
            have U4 := HU0.out.below hb4 (Nat.le_refl _)
            go_wp2_with fail
            refine hK.out _ _ (⟨D4.rx, D4.bel⟩) (fun hHeld2 => ?_)
            clear hK K hHeld
            have hHeld := hHeld2
            clear hHeld2
            clear hb4 hk4
            try simp only [Act.put, List.setIfInBounds_toArray, List.set_cons_zero, List.set_cons_succ]
            refine wpAnyH_take (i := 21) (oi := { dst := some 71, op := Op.build 54 #[(0, Operand.tmp 57), (1, Operand.tmp 63), (2, Operand.tmp 70)], type := 54, pos := "law.go:84", after := #[{ on := 7, ground := Ground.data }, { on := 13, ground := Ground.data }, { on := 20, ground := Ground.data }], guard := none }) (v := .agg (elC true x.key x.del (.slice (some ⟨k4, 0, none⟩) x.val.length c4)).toArray) rfl (by kernel_rfl) (by kernel_rfl) (by kernel_rfl) (fun _ _ _ h => h) (yields_c (by rfl) _ _ _ rfl x.key HK.out x.del (some ⟨k4, 0, none⟩) x.val.length c4 rfl rfl rfl) hHeld ?_
            try simp only [Act.put, List.setIfInBounds_toArray, List.set_cons_zero, List.set_cons_succ]
            refine wpAnyH_ready (rs := [22]) (by kernel_rfl) (by simp) ?_
            refine (AllReadyH.cons (o := { dst := some 72, op := Op.buildSlice 28 1 #[(0, Operand.tmp 71)], type := 28, pos := "law.go:84", after := #[{ on := 21, ground := Ground.data }], guard := none }) rfl (fun K hK => ?_) AllReadyH.nil)
            refine step_sliceL true (by rfl) (.tmp 71) rfl (enM true ⟨x.key, x.del, .slice (some ⟨k4, 0, none⟩) x.val.length c4⟩) (elC_len HK.out) rfl ?_
            refine hK.out _ _ (⟨hold D4.rx, D4.bel.alloc D4.bel.size _⟩) (fun hHeld2 => ?_)
            clear hK K hHeld
            have hHeld := hHeld2
            clear hHeld2
            try simp only [Act.put, List.setIfInBounds_toArray, List.set_cons_zero, List.set_cons_succ]
            refine wpAnyH_ready (rs := [23]) (by kernel_rfl) (by simp) ?_
            refine (AllReadyH.cons (o := { dst := some 73, op := Op.call { callee := Callee.builtin Builtin.append, args := #[Operand.tmp 51, Operand.tmp 72], argTypes := #[28, 28] }, type := 28, pos := "law.go:84", after := #[{ on := 1, ground := Ground.data }, { on := 22, ground := Ground.data }, { on := 20, ground := Ground.chain }], guard := none }) rfl (fun K hK => ?_) AllReadyH.nil)
            refine step_pushL true rfl (.tmp 51) (.tmp 72) rfl (w.heap.size + 3) (.slice lsp ln lcap) mc ⟨x.key, x.del, .slice (some ⟨k4, 0, none⟩) x.val.length c4⟩ rfl E4.own rfl (elC_len HK.out) (elC_one rfl) HLEN.out D4.sz _ _ ?_
            intro v7 w7 hO7 hg7
            have D7 := D4.call (grown_keeps hg7 (fun k hk => (E4.own.block k hk).1) D4.sz)
            have E7 := E4.snoc hO7 hg7 HK.out hk5 R4
            have V7 := V4.other E4.own hg7
            have U7 := U4.other E4.own tyE_ne hg7
            refine hK.out _ _ (⟨D7.rx, D7.bel⟩) (fun hHeld2 => ?_)
            clear hK K hHeld
            have hHeld := hHeld2
            clear hHeld2
            try simp only [Act.put, List.setIfInBounds_toArray, List.set_cons_zero, List.set_cons_succ]
            refine wpAnyH_take (i := 24) (oi := { dst := some 74, op := Op.fieldAddr 32 (Operand.tmp 3) 8, type := 0, pos := "law.go:84", after := #[{ on := 0, ground := Ground.phase }, { on := 1, ground := Ground.phase }, { on := 2, ground := Ground.phase }, { on := 3, ground := Ground.phase }, { on := 4, ground := Ground.phase }, { on := 5, ground := Ground.phase }, { on := 6, ground := Ground.phase }, { on := 7, ground := Ground.phase }, { on := 8, ground := Ground.phase }, { on := 9, ground := Ground.phase }, { on := 10, ground := Ground.phase }, { on := 11, ground := Ground.phase }, { on := 12, ground := Ground.phase }, { on := 13, ground := Ground.phase }, { on := 14, ground := Ground.phase }, { on := 15, ground := Ground.phase }, { on := 16, ground := Ground.phase }, { on := 17, ground := Ground.phase }, { on := 18, ground := Ground.phase }, { on := 19, ground := Ground.phase }, { on := 20, ground := Ground.phase }, { on := 21, ground := Ground.phase }, { on := 22, ground := Ground.phase }, { on := 23, ground := Ground.phase }], guard := none }) (v := .pointer (some ⟨(w.heap.size + 1 + 1), 39, none⟩)) rfl (by kernel_rfl) (by kernel_rfl) (by kernel_rfl) (fun _ _ _ h => h) (Or.inl ⟨by rfl, by intro w hS; go_simp⟩) hHeld ?_
            try simp only [Act.put, List.setIfInBounds_toArray, List.set_cons_zero, List.set_cons_succ]
            refine wpAnyH_ready (rs := [25]) (by kernel_rfl) (by simp) ?_
            refine (AllReadyH.cons (o := { dst := none, op := Op.store 28 (Operand.tmp 74) (Operand.tmp 73), type := 0, pos := "law.go:84", after := #[{ on := 24, ground := Ground.data }, { on := 23, ground := Ground.data }, { on := 23, ground := Ground.chain }, { on := 0, ground := Ground.phase }, { on := 1, ground := Ground.phase }, { on := 2, ground := Ground.phase }, { on := 3, ground := Ground.phase }, { on := 4, ground := Ground.phase }, { on := 5, ground := Ground.phase }, { on := 6, ground := Ground.phase }, { on := 7, ground := Ground.phase }, { on := 8, ground := Ground.phase }, { on := 9, ground := Ground.phase }, { on := 10, ground := Ground.phase }, { on := 11, ground := Ground.phase }, { on := 12, ground := Ground.phase }, { on := 13, ground := Ground.phase }, { on := 14, ground := Ground.phase }, { on := 15, ground := Ground.phase }, { on := 16, ground := Ground.phase }, { on := 17, ground := Ground.phase }, { on := 18, ground := Ground.phase }, { on := 19, ground := Ground.phase }, { on := 20, ground := Ground.phase }, { on := 21, ground := Ground.phase }, { on := 22, ground := Ground.phase }, { on := 23, ground := Ground.phase }], guard := none }) rfl (fun K hK => ?_) AllReadyH.nil)
            refine step_storeW (by rfl) 28 _ _ rfl (w.heap.size + 1 + 1) 39 v7 rfl rfl _ 32 D7.ro (by rw [rpC_len HIL.out]; omega) Try.sizeCs hO7.cells.1 hO7.cells.2 ?_
            intro w8 hr8 hk8
            rw [rpC_set39 HIL.out] at hr8
            have D8 := D7.put hr8 hk8
            have E8 := E7.keeps hk8 (by omega)
            have V8 := V7.keeps hk8 (by omega)
            have U8 := U7.keeps hk8 (by omega)
            refine hK.out _ _ (⟨D8.rx, D8.bel⟩) (fun hHeld2 => ?_)
            clear hK K hHeld
            have hHeld := hHeld2
            clear hHeld2
            try simp only [Act.put, List.setIfInBounds_toArray, List.set_cons_zero, List.set_cons_succ]
            refine wpAnyH_done (by kernel_rfl) ?_ _
            refine NoPanic.normal ?_
            clear hHeld
            go_wp2
            go_roundw
            case rel => exact ⟨k + 1, _, _, by omega, by go_num, D8, by rw [HT.out]; exact E8, V8, U8⟩
            case measure => simp [intOf]; omega
          · skip
            go_simp
            go_at_call 6
            refine (roomy_any _ x.val s p (Sv.below hHeld.2 (Nat.le_refl _)) nv HVL.out).mono ?_
            rintro e w4 ⟨k4, c4, rfl, hk4, R4, hb4⟩
            have D4 := HD0.out.call (hb4.mono HD0.out.sz)
            have E4 := HE0.out.below hb4 (Nat.le_refl _)
            have V4 := HV0.out.below hb4
            have hk5 := Nat.le_trans HD0.out.sz hk4
            have U4 := HU0.out.below hb4 (Nat.le_refl _)
            go_wp2_with fail
            refine hK.out _ _ (⟨D4.rx, D4.bel⟩) (fun hHeld2 => ?_)
            clear hK K hHeld
            have hHeld := hHeld2
            clear hHeld2
            clear hb4 hk4
            try simp only [Act.put, List.setIfInBounds_toArray, List.set_cons_zero, List.set_cons_succ]
            refine wpAnyH_take (i := 21) (oi := { dst := some 71, op := Op.build 54 #[(0, Operand.tmp 57), (1, Operand.tmp 63), (2, Operand.tmp 70)], type := 54, pos := "law.go:84", after := #[{ on := 7, ground := Ground.data }, { on := 13, ground := Ground.data }, { on := 20, ground := Ground.data }], guard := none }) (v := .agg (elC true x.key x.del (.slice (some ⟨k4, 0, none⟩) x.val.length c4)).toArray) rfl (by kernel_rfl) (by kernel_rfl) (by kernel_rfl) (fun _ _ _ h => h) (yields_c (by rfl) _ _ _ rfl x.key HK.out x.del (some ⟨k4, 0, none⟩) x.val.length c4 rfl rfl rfl) hHeld ?_
            try simp only [Act.put, List.setIfInBounds_toArray, List.set_cons_zero, List.set_cons_succ]
            refine wpAnyH_ready (rs := [1, 22]) (by kernel_rfl) (by simp) ?_
            refine (AllReadyH.cons (o := { dst := some 51, op := Op.load 28 (Operand.tmp 50), type := 28, pos := "law.go:84", after := #[{ on := 0, ground := Ground.data }], guard := none }) rfl (fun K hK => ?_) (AllReadyH.cons (o := { dst := some 72, op := Op.buildSlice 28 1 #[(0, Operand.tmp 71)], type := 28, pos := "law.go:84", after := #[{ on := 21, ground := Ground.data }], guard := none }) rfl (fun K hK => ?_) AllReadyH.nil))
            · skip
              have hc : w4.cell? ⟨w.heap.size + 1 + 1, 39, none⟩ = some (.slice lsp ln lcap) := (RC.of D4.ro HIL.out).c39
              go_simp
              clear hc
              refine hK.out _ _ (hHeld) (fun hHeld2 => ?_)
              clear hK K hHeld
              have hHeld := hHeld2
              clear hHeld2
              try simp only [Act.put, List.setIfInBounds_toArray, List.set_cons_zero, List.set_cons_succ]
              refine wpAnyH_ready (rs := [22]) (by kernel_rfl) (by simp) ?_
              refine (AllReadyH.cons (o := { dst := some 72, op := Op.buildSlice 28 1 #[(0, Operand.tmp 71)], type := 28, pos := "law.go:84", after := #[{ on := 21, ground := Ground.data }], guard := none }) rfl (fun K hK => ?_) AllReadyH.nil)
              refine step_sliceL true (by rfl) (.tmp 71) rfl (enM true ⟨x.key, x.del, .slice (some ⟨k4, 0, none⟩) x.val.length c4⟩) (elC_len HK.out) rfl ?_
              refine hK.out _ _ (⟨hold D4.rx, D4.bel.alloc D4.bel.size _⟩) (fun hHeld2 => ?_)
              clear hK K hHeld
              have hHeld := hHeld2
              clear hHeld2
              try simp only [Act.put, List.setIfInBounds_toArray, List.set_cons_zero, List.set_cons_succ]
              refine wpAnyH_ready (rs := [23]) (by kernel_rfl) (by simp) ?_
              refine (AllReadyH.cons (o := { dst := some 73, op := Op.call { callee := Callee.builtin Builtin.append, args := #[Operand.tmp 51, Operand.tmp 72], argTypes := #[28, 28] }, type := 28, pos := "law.go:84", after := #[{ on := 1, ground := Ground.data }, { on := 22, ground := Ground.data }, { on := 20, ground := Ground.chain }], guard := none }) rfl (fun K hK => ?_) AllReadyH.nil)
              refine step_pushL true rfl (.tmp 51) (.tmp 72) rfl (w.heap.size + 3) (.slice lsp ln lcap) mc ⟨x.key, x.del, .slice (some ⟨k4, 0, none⟩) x.val.length c4⟩ rfl E4.own rfl (elC_len HK.out) (elC_one rfl) HLEN.out D4.sz _ _ ?_
              intro v7 w7 hO7 hg7
              have D7 := D4.call (grown_keeps hg7 (fun k hk => (E4.own.block k hk).1) D4.sz)
              have E7 := E4.snoc hO7 hg7 HK.out hk5 R4
              have V7 := V4.other E4.own hg7
              have U7 := U4.other E4.own tyE_ne hg7
              refine hK.out _ _ (⟨D7.rx, D7.bel⟩) (fun hHeld2 => ?_)
              clear hK K hHeld
              have hHeld := hHeld2
              clear hHeld2
              try simp only [Act.put, List.setIfInBounds_toArray, List.set_cons_zero, List.set_cons_succ]
              refine wpAnyH_take (i := 24) (oi := { dst := some 74, op := Op.fieldAddr 32 (Operand.tmp 3) 8, type := 0, pos := "law.go:84", after := #[{ on := 0, ground := Ground.phase }, { on := 1, ground := Ground.phase }, { on := 2, ground := Ground.phase }, { on := 3, ground := Ground.phase }, { on := 4, ground := Ground.phase }, { on := 5, ground := Ground.phase }, { on := 6, ground := Ground.phase }, { on := 7, ground := Ground.phase }, { on := 8, ground := Ground.phase }, { on := 9, ground := Ground.phase }, { on := 10, ground := Ground.phase }, { on := 11, ground := Ground.phase }, { on := 12, ground := Ground.phase }, { on := 13, ground := Ground.phase }, { on := 14, ground := Ground.phase }, { on := 15, ground := Ground.phase }, { on := 16, ground := Ground.phase }, { on := 17, ground := Ground.phase }, { on := 18, ground := Ground.phase }, { on := 19, ground := Ground.phase }, { on := 20, ground := Ground.phase }, { on := 21, ground := Ground.phase }, { on := 22, ground := Ground.phase }, { on := 23, ground := Ground.phase }], guard := none }) (v := .pointer (some ⟨(w.heap.size + 1 + 1), 39, none⟩)) rfl (by kernel_rfl) (by kernel_rfl) (by kernel_rfl) (fun _ _ _ h => h) (Or.inl ⟨by rfl, by intro w hS; go_simp⟩) hHeld ?_
              try simp only [Act.put, List.setIfInBounds_toArray, List.set_cons_zero, List.set_cons_succ]
              refine wpAnyH_ready (rs := [25]) (by kernel_rfl) (by simp) ?_
              refine (AllReadyH.cons (o := { dst := none, op := Op.store 28 (Operand.tmp 74) (Operand.tmp 73), type := 0, pos := "law.go:84", after := #[{ on := 24, ground := Ground.data }, { on := 23, ground := Ground.data }, { on := 23, ground := Ground.chain }, { on := 0, ground := Ground.phase }, { on := 1, ground := Ground.phase }, { on := 2, ground := Ground.phase }, { on := 3, ground := Ground.phase }, { on := 4, ground := Ground.phase }, { on := 5, ground := Ground.phase }, { on := 6, ground := Ground.phase }, { on := 7, ground := Ground.phase }, { on := 8, ground := Ground.phase }, { on := 9, ground := Ground.phase }, { on := 10, ground := Ground.phase }, { on := 11, ground := Ground.phase }, { on := 12, ground := Ground.phase }, { on := 13, ground := Ground.phase }, { on := 14, ground := Ground.phase }, { on := 15, ground := Ground.phase }, { on := 16, ground := Ground.phase }, { on := 17, ground := Ground.phase }, { on := 18, ground := Ground.phase }, { on := 19, ground := Ground.phase }, { on := 20, ground := Ground.phase }, { on := 21, ground := Ground.phase }, { on := 22, ground := Ground.phase }, { on := 23, ground := Ground.phase }], guard := none }) rfl (fun K hK => ?_) AllReadyH.nil)
              refine step_storeW (by rfl) 28 _ _ rfl (w.heap.size + 1 + 1) 39 v7 rfl rfl _ 32 D7.ro (by rw [rpC_len HIL.out]; omega) Try.sizeCs hO7.cells.1 hO7.cells.2 ?_
              intro w8 hr8 hk8
              rw [rpC_set39 HIL.out] at hr8
              have D8 := D7.put hr8 hk8
              have E8 := E7.keeps hk8 (by omega)
              have V8 := V7.keeps hk8 (by omega)
              have U8 := U7.keeps hk8 (by omega)
              refine hK.out _ _ (⟨D8.rx, D8.bel⟩) (fun hHeld2 => ?_)
              clear hK K hHeld
              have hHeld := hHeld2
              clear hHeld2
              try simp only [Act.put, List.setIfInBounds_toArray, List.set_cons_zero, List.set_cons_succ]
              refine wpAnyH_done (by kernel_rfl) ?_ _
              refine NoPanic.normal ?_
              clear hHeld
              go_wp2
              go_roundw
              case rel => exact ⟨k + 1, _, _, by omega, by go_num, D8, by rw [HT.out]; exact E8, V8, U8⟩
              case measure => simp [intOf]; omega
            · skip
              refine step_sliceL true (by rfl) (.tmp 71) rfl (enM true ⟨x.key, x.del, .slice (some ⟨k4, 0, none⟩) x.val.length c4⟩) (elC_len HK.out) rfl ?_
              refine hK.out _ _ (⟨hold D4.rx, D4.bel.alloc D4.bel.size _⟩) (fun hHeld2 => ?_)
              clear hK K hHeld
              have hHeld := hHeld2
              clear hHeld2
              try simp only [Act.put, List.setIfInBounds_toArray, List.set_cons_zero, List.set_cons_succ]
              refine wpAnyH_ready (rs := [1]) (by kernel_rfl) (by simp) ?_
              refine (AllReadyH.cons (o := { dst := some 51, op := Op.load 28 (Operand.tmp 50), type := 28, pos := "law.go:84", after := #[{ on := 0, ground := Ground.data }], guard := none }) rfl (fun K hK => ?_) AllReadyH.nil)
              have hc : (w4.alloc (.cells (enM true ⟨x.key, x.del, .slice (some ⟨k4, 0, none⟩) x.val.length c4⟩).toArray (tyE true))).cell? ⟨w.heap.size + 1 + 1, 39, none⟩ = some (.slice lsp ln lcap) := (RC.of (hold D4.ro) HIL.out).c39
              go_simp
              clear hc
              refine hK.out _ _ (hHeld) (fun hHeld2 => ?_)
              clear hK K hHeld
              have hHeld := hHeld2
              clear hHeld2
              try simp only [Act.put, List.setIfInBounds_toArray, List.set_cons_zero, List.set_cons_succ]
              refine wpAnyH_ready (rs := [23]) (by kernel_rfl) (by simp) ?_
              refine (AllReadyH.cons (o := { dst := some 73, op := Op.call { callee := Callee.builtin Builtin.append, args := #[Operand.tmp 51, Operand.tmp 72], argTypes := #[28, 28] }, type := 28, pos := "law.go:84", after := #[{ on := 1, ground := Ground.data }, { on := 22, ground := Ground.data }, { on := 20, ground := Ground.chain }], guard := none }) rfl (fun K hK => ?_) AllReadyH.nil)
              refine step_pushL true rfl (.tmp 51) (.tmp 72) rfl (w.heap.size + 3) (.slice lsp ln lcap) mc ⟨x.key, x.del, .slice (some ⟨k4, 0, none⟩) x.val.length c4⟩ rfl E4.own rfl (elC_len HK.out) (elC_one rfl) HLEN.out D4.sz _ _ ?_
              intro v7 w7 hO7 hg7
              have D7 := D4.call (grown_keeps hg7 (fun k hk => (E4.own.block k hk).1) D4.sz)
              have E7 := E4.snoc hO7 hg7 HK.out hk5 R4
              have V7 := V4.other E4.own hg7
              have U7 := U4.other E4.own tyE_ne hg7
              refine hK.out _ _ (⟨D7.rx, D7.bel⟩) (fun hHeld2 => ?_)
              clear hK K hHeld
              have hHeld := hHeld2
              clear hHeld2
              try simp only [Act.put, List.setIfInBounds_toArray, List.set_cons_zero, List.set_cons_succ]
              refine wpAnyH_take (i := 24) (oi := { dst := some 74, op := Op.fieldAddr 32 (Operand.tmp 3) 8, type := 0, pos := "law.go:84", after := #[{ on := 0, ground := Ground.phase }, { on := 1, ground := Ground.phase }, { on := 2, ground := Ground.phase }, { on := 3, ground := Ground.phase }, { on := 4, ground := Ground.phase }, { on := 5, ground := Ground.phase }, { on := 6, ground := Ground.phase }, { on := 7, ground := Ground.phase }, { on := 8, ground := Ground.phase }, { on := 9, ground := Ground.phase }, { on := 10, ground := Ground.phase }, { on := 11, ground := Ground.phase }, { on := 12, ground := Ground.phase }, { on := 13, ground := Ground.phase }, { on := 14, ground := Ground.phase }, { on := 15, ground := Ground.phase }, { on := 16, ground := Ground.phase }, { on := 17, ground := Ground.phase }, { on := 18, ground := Ground.phase }, { on := 19, ground := Ground.phase }, { on := 20, ground := Ground.phase }, { on := 21, ground := Ground.phase }, { on := 22, ground := Ground.phase }, { on := 23, ground := Ground.phase }], guard := none }) (v := .pointer (some ⟨(w.heap.size + 1 + 1), 39, none⟩)) rfl (by kernel_rfl) (by kernel_rfl) (by kernel_rfl) (fun _ _ _ h => h) (Or.inl ⟨by rfl, by intro w hS; go_simp⟩) hHeld ?_
              try simp only [Act.put, List.setIfInBounds_toArray, List.set_cons_zero, List.set_cons_succ]
              refine wpAnyH_ready (rs := [25]) (by kernel_rfl) (by simp) ?_
              refine (AllReadyH.cons (o := { dst := none, op := Op.store 28 (Operand.tmp 74) (Operand.tmp 73), type := 0, pos := "law.go:84", after := #[{ on := 24, ground := Ground.data }, { on := 23, ground := Ground.data }, { on := 23, ground := Ground.chain }, { on := 0, ground := Ground.phase }, { on := 1, ground := Ground.phase }, { on := 2, ground := Ground.phase }, { on := 3, ground := Ground.phase }, { on := 4, ground := Ground.phase }, { on := 5, ground := Ground.phase }, { on := 6, ground := Ground.phase }, { on := 7, ground := Ground.phase }, { on := 8, ground := Ground.phase }, { on := 9, ground := Ground.phase }, { on := 10, ground := Ground.phase }, { on := 11, ground := Ground.phase }, { on := 12, ground := Ground.phase }, { on := 13, ground := Ground.phase }, { on := 14, ground := Ground.phase }, { on := 15, ground := Ground.phase }, { on := 16, ground := Ground.phase }, { on := 17, ground := Ground.phase }, { on := 18, ground := Ground.phase }, { on := 19, ground := Ground.phase }, { on := 20, ground := Ground.phase }, { on := 21, ground := Ground.phase }, { on := 22, ground := Ground.phase }, { on := 23, ground := Ground.phase }], guard := none }) rfl (fun K hK => ?_) AllReadyH.nil)
              refine step_storeW (by rfl) 28 _ _ rfl (w.heap.size + 1 + 1) 39 v7 rfl rfl _ 32 D7.ro (by rw [rpC_len HIL.out]; omega) Try.sizeCs hO7.cells.1 hO7.cells.2 ?_
              intro w8 hr8 hk8
              rw [rpC_set39 HIL.out] at hr8
              have D8 := D7.put hr8 hk8
              have E8 := E7.keeps hk8 (by omega)
              have V8 := V7.keeps hk8 (by omega)
              have U8 := U7.keeps hk8 (by omega)
              refine hK.out _ _ (⟨D8.rx, D8.bel⟩) (fun hHeld2 => ?_)
              clear hK K hHeld
              have hHeld := hHeld2
              clear hHeld2
              try simp only [Act.put, List.setIfInBounds_toArray, List.set_cons_zero, List.set_cons_succ]
              refine wpAnyH_done (by kernel_rfl) ?_ _
              refine NoPanic.normal ?_
              clear hHeld
              go_wp2
              go_roundw
              case rel => exact ⟨k + 1, _, _, by omega, by go_num, D8, by rw [HT.out]; exact E8, V8, U8⟩
              case measure => simp [intOf]; omega
        · obtain rfl : k = r.chs.length := by omega
          rw [List.take_length] at E
          clear hlt'
          obtain ⟨sl, cl, rfl, SL1⟩ := UU.src
          obtain ⟨sc, cc2, rfl, SC1⟩ := E.src
          have xc := (RC.of D.rx HIL.out).c39
          have RO := hid D.ro
          have RA := hid D.ra
          have SR2 := hid (show (Try.prog.info? 32).map (·.size) = some (rpC r (.slice (some ⟨k5, 0, none⟩) r.val.length c5) (.slice (some ⟨k7, 0, none⟩) r.raw.length c7) (.slice sl r.list.length cl) (.slice sc r.chs.length cc2)).toArray.size from (repSizes HIL.out).1)
          have SL2 := hid (show (Try.prog.info? 32).map (·.size) = some (rpC r (.slice (some ⟨k5, 0, none⟩) r.val.length c5) (.slice (some ⟨k7, 0, none⟩) r.raw.length c7) (.slice sl r.list.length cl) (.slice sc r.chs.length cc2)).length from (repSizes HIL.out).2.1)
          have SE2 := hid (show (rpC rp0 (.slice none 0 0) (.slice none 0 0) (.slice none 0 0) (.slice none 0 0)).length = (rpC r (.slice (some ⟨k5, 0, none⟩) r.val.length c5) (.slice (some ⟨k7, 0, none⟩) r.raw.length c7) (.slice sl r.list.length cl) (.slice sc r.chs.length cc2)).length from (repSizes HIL.out).2.2)
          have C2 := hid (show ∀ v ∈ rpC r (.slice (some ⟨k5, 0, none⟩) r.val.length c5) (.slice (some ⟨k7, 0, none⟩) r.raw.length c7) (.slice sl r.list.length cl) (.slice sc r.chs.length cc2), v.oneCell' = true from rpC_one rfl rfl rfl rfl)
          go_wp2_with (first | (refine wpList_load_row rfl 32 _ rfl (w.heap.size + 1 + 1) rfl 32 _ (0, 0) _ RO.out Try.underlying32 rfl SR2.out ?_) | (refine wpList_storeRowW rfl 32 _ _ rfl (w.heap.size + 1) (rpC r (.slice (some ⟨k5, 0, none⟩) r.val.length c5) (.slice (some ⟨k7, 0, none⟩) r.raw.length c7) (.slice sl r.list.length cl) (.slice sc r.chs.length cc2)) rfl rfl 32 _ RA.out SL2.out SE2.out C2.out ?_; intro wz hrz hkz; refine Hid.out ?_))
          refine hid ?_
          go_wp2
          refine bodyPost_ret (results_c1 Try.results21 _ _ (w.heap.size + 1) 32 _ _ _ rfl hrz Try.underlying32 rfl SR2.out) rfl ?_
          have Ez := E.keeps hkz (by omega)
          have Uz := UU.keeps hkz (by omega)
          have Vz := VV.keeps hkz (by omega)
          obtain ⟨sl', cl', e1, SL3⟩ := Uz.src
          obtain ⟨sc', cc3, e2, SC3⟩ := Ez.src
          cases e1
          cases e2
          exact ⟨k5, c5, k7, c7, sl, sc, cl, cc2, rfl, ⟨HIL.out, Vz.a, Vz.b, SL3, SC3⟩, D.bel.trans (hkz.below_g (by omega) D.bel.size)⟩
end Go.Proofs.Ytenfklcgkfaajaa
