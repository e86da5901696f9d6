import Derived.Test.YtenfklcgkfaajaaDk37
namespace Go.Proofs.Ytenfklcgkfaajaa
set_option linter.unusedVariables false
set_option linter.unusedSimpArgs false
open Go.RowKit
attribute [local go_sem ↓] Go.wp_at_zero Go.wp_at_succ

structure RC (w : World) (x : Nat) (r : Rp) (vv rv lv cv : Value) : Prop where
  c0 : w.cell? ⟨x, 0, none⟩ = some (.int .i64 r.err)
  c1 : w.cell? ⟨x, 1, none⟩ = some (.int .i64 r.ver)
  c2 : w.cell? ⟨x, 2, none⟩ = some (.bool r.found)
  c3 : w.cell? ⟨x, 3, none⟩ = some (.bool r.more)
  c4 : w.cell? ⟨x, 4, none⟩ = some vv
  c37 : w.cell? ⟨x, 37, none⟩ = some rv
  c38 : w.cell? ⟨x, 38, none⟩ = some lv
  c39 : w.cell? ⟨x, 39, none⟩ = some cv
  sm : w.rangeAt x 5 (ints .u8 r.sum)
  inf : w.rangeAt x 40 (inC r.info)
theorem RC.of {w : World} {x t : Nat} {fr : Nat × Nat} {r : Rp} {vv rv lv cv : Value} (h : w.heap[x]? = some (.cells (rpC r vv rv lv cv).toArray t fr)) (l : RpL r) : RC w x r vv rv lv cv := by
  have hc : ∀ j u, (rpC r vv rv lv cv)[j]? = some u → w.cell? ⟨x, j, none⟩ = some u := fun j u hu => by rw [cell_of_row _ _ _ _ _ _ h, List.getElem?_toArray]; exact hu
  have e3 : ∀ j, (rpC r vv rv lv cv)[37 + j]? = ([rv, lv, cv] ++ inC r.info)[j]? := fun j => by
    unfold rpC
    rw [← List.append_assoc, List.getElem?_append_right (by simp [ints, l.sum])]
    congr 1
    simp [ints, l.sum]
  refine ⟨hc 0 _ rfl, hc 1 _ rfl, hc 2 _ rfl, hc 3 _ rfl, hc 4 _ rfl, hc 37 _ (e3 0), hc 38 _ (e3 1), hc 39 _ (e3 2), fun j u hu => hc _ _ ?_, fun j u hu => hc _ _ ?_⟩
  · unfold rpC
    have hj := (List.getElem?_eq_some_iff.1 hu).1
    rw [List.getElem?_append_right (by simp), show 5 + j - [Value.int .i64 r.err, .int .i64 r.ver, .bool r.found, .bool r.more, vv].length = j by simp, List.getElem?_append_left hj]; exact hu
  · rw [show 40 + j = 37 + (3 + j) by omega, e3, List.getElem?_append_right (by simp)]
    rw [show 3 + j - [rv, lv, cv].length = j by simp]; exact hu
theorem RC.below {w w1 : World} {B x : Nat} {r : Rp} {vv rv lv cv : Value} (h : RC w x r vv rv lv cv) (hb : Below B w w1) (hx : x < B) : RC w1 x r vv rv lv cv :=
  ⟨(hb.cell (p := ⟨x, 0, none⟩) hx).trans h.c0, (hb.cell (p := ⟨x, 1, none⟩) hx).trans h.c1, (hb.cell (p := ⟨x, 2, none⟩) hx).trans h.c2, (hb.cell (p := ⟨x, 3, none⟩) hx).trans h.c3, (hb.cell (p := ⟨x, 4, none⟩) hx).trans h.c4, (hb.cell (p := ⟨x, 37, none⟩) hx).trans h.c37, (hb.cell (p := ⟨x, 38, none⟩) hx).trans h.c38, (hb.cell (p := ⟨x, 39, none⟩) hx).trans h.c39, rng_below h.sm hb hx, rng_below h.inf hb hx⟩
/-- A list of elements in memory. -/
structure ElI (c : Bool) (w : World) (sp : Option Addr) (cap : Nat) (xs : List Cg) : Prop where
  nl : sp = none → cap = 0
  le : xs.length ≤ cap
  mx : cap ≤ maxLen
  el : ∃ b o, (0 < xs.length → sp = some ⟨b, o, none⟩ ∧ b < w.heap.size) ∧ ∀ k, k < xs.length → ∃ s p, w.rangeAt b (o + k * szE c) (elC c (xs.getD k dX).key (xs.getD k dX).del (.slice s (xs.getD k dX).val.length p)) ∧ (xs.getD k dX).key.length = 32 ∧ Src w s p (xs.getD k dX).val ∧ (s = none → p = 0)
theorem ElI.below {c : Bool} {w w1 : World} {sp : Option Addr} {cap : Nat} {xs : List Cg} (h : ElI c w sp cap xs) (hb : Below w.heap.size w w1) : ElI c w1 sp cap xs := by
  obtain ⟨a1, a2, a3, b, o, h1, h2⟩ := h
  refine ⟨a1, a2, a3, b, o, fun hp => ⟨(h1 hp).1, Nat.lt_of_lt_of_le (h1 hp).2 hb.size⟩, fun k hk => ?_⟩
  obtain ⟨s, p, r1, r2, r3, r4⟩ := h2 k hk
  exact ⟨s, p, rng_below r1 hb (h1 (by omega)).2, r2, r3.below hb (Nat.le_refl _), r4⟩
theorem ElO.inn {c : Bool} {w : World} {base : Nat} {v : Value} {ms : List ME} {xs : List Cg} (h : ElO c w base v ms xs) : ∃ sp cap, v = .slice sp xs.length cap ∧ ElI c w sp cap xs := by
  obtain ⟨sp, cap, e, n1, n2, n3, b, o, h1, h2⟩ := h.src
  refine ⟨sp, cap, e, n1, n2, n3, b, o, h1, fun k hk => ?_⟩
  obtain ⟨sv, r1, r2, r3⟩ := h2 k hk
  obtain ⟨s, p, rfl, r4, r5⟩ := r3.form
  exact ⟨s, p, r1, r2, r4, r5⟩
/-- A reply in memory: all of it can be read. -/
structure RpI (w : World) (r : Rp) (vs rs ls cs : Option Addr) (vc rc lc cc : Nat) : Prop where
  l : RpL r
  sv : Src w vs vc r.val
  sr : Src w rs rc r.raw
  nv : vs = none → vc = 0
  nr : rs = none → rc = 0
  sl : ElI false w ls lc r.list
  sc : ElI true w cs cc r.chs
def rpV (r : Rp) (vs rs ls cs : Option Addr) (vc rc lc cc : Nat) : List Value := rpC r (.slice vs r.val.length vc) (.slice rs r.raw.length rc) (.slice ls r.list.length lc) (.slice cs r.chs.length cc)
theorem RpI.below {w w1 : World} {r : Rp} {vs rs ls cs : Option Addr} {vc rc lc cc : Nat} (h : RpI w r vs rs ls cs vc rc lc cc) (hb : Below w.heap.size w w1) : RpI w1 r vs rs ls cs vc rc lc cc :=
  ⟨h.l, h.sv.below hb (Nat.le_refl _), h.sr.below hb (Nat.le_refl _), h.nv, h.nr, h.sl.below hb, h.sc.below hb⟩
theorem RpO.inn {w : World} {base : Nat} {r : Rp} {vv rv lv cv : Value} {ml mc : List ME} (h : RpO w base r vv rv lv cv ml mc) : ∃ vs rs ls cs vc rc lc cc, rpC r vv rv lv cv = rpV r vs rs ls cs vc rc lc cc ∧ RpI w r vs rs ls cs vc rc lc cc := by
  obtain ⟨vs, vc, rfl, a1, a2⟩ := h.ov.form
  obtain ⟨rs, rc, rfl, b1, b2⟩ := h.orw.form
  obtain ⟨ls, lc, rfl, c1⟩ := h.ol.inn
  obtain ⟨cs, cc, rfl, d1⟩ := h.oc.inn
  exact ⟨vs, rs, ls, cs, vc, rc, lc, cc, rfl, h.l, a1, b1, a2, b2, c1, d1⟩
theorem el_false {w : World} {b o : Nat} {k : List Int} {d : Bool} {v : Value} (h : w.rangeAt b o (elC false k d v)) (hk : k.length = 32) : w.rangeAt b o (ints .u8 k) ∧ w.cell? ⟨b, o + 32, none⟩ = some v :=
  ⟨fun j u hu => h j u (by unfold elC; rw [List.getElem?_append_left (List.getElem?_eq_some_iff.1 hu).1]; exact hu), h 32 v (by unfold elC; rw [List.getElem?_append_right (by rw [ints_len, hk]; exact Nat.le_refl _), ints_len, hk]; rfl)⟩
theorem el_true {w : World} {b o : Nat} {k : List Int} {d : Bool} {v : Value} (h : w.rangeAt b o (elC true k d v)) (hk : k.length = 32) : w.rangeAt b o (ints .u8 k) ∧ w.cell? ⟨b, o + 33, none⟩ = some v ∧ w.cell? ⟨b, o + 32, none⟩ = some (.bool d) :=
  ⟨fun j u hu => h j u (by unfold elC; rw [List.getElem?_append_left (List.getElem?_eq_some_iff.1 hu).1]; exact hu), h 33 v (by unfold elC; rw [List.getElem?_append_right (by rw [ints_len, hk]; decide), ints_len, hk]; rfl), h 32 _ (by unfold elC; rw [List.getElem?_append_right (by rw [ints_len, hk]; exact Nat.le_refl _), ints_len, hk]; rfl)⟩
structure RpY (r : Rp) : Prop where
  val : Bys r.val
  raw : Bys r.raw
  list : ∀ k, k < r.list.length → Bys (r.list.getD k dX).val
  chs : ∀ k, k < r.chs.length → Bys (r.chs.getD k dX).val
set_option maxRecDepth 100000 in
set_option maxHeartbeats 8000000 in
theorem sameReply_yes (w : World) (r : Rp) (hY : RpY r) (vs rs ls cs : Option Addr) (vc rc lc cc : Nat) (hI : RpI w r vs rs ls cs vc rc lc cc) (vs' rs' ls' cs' : Option Addr) (vc' rc' lc' cc' : Nat) (hJ : RpI w r vs' rs' ls' cs' vc' rc' lc' cc') :
    Calls Try.prog 12 #[.agg (rpV r vs rs ls cs vc rc lc cc).toArray, .agg (rpV r vs' rs' ls' cs' vc' rc' lc' cc').toArray] w fun e w' => e = .returned (.bool true) ∧ Below w.heap.size w w' := by
  have hbel : Below w.heap.size w ((w.alloc (.cells (rpV r vs rs ls cs vc rc lc cc).toArray 32)).alloc (.cells (rpV r vs' rs' ls' cs' vc' rc' lc' cc').toArray 32)) := ((Below.refl w.heap.size w).alloc (Nat.le_refl _) _).alloc (by simp) _
  have I1 := hI.below hbel
  have J1 := hJ.below hbel
  have X := RC.of (hold (o := .cells (rpV r vs' rs' ls' cs' vc' rc' lc' cc').toArray 32) (hnew w (.cells (rpV r vs rs ls cs vc rc lc cc).toArray 32))) hI.l
  have hy2 := hnew (w.alloc (.cells (rpV r vs rs ls cs vc rc lc cc).toArray 32)) (.cells (rpV r vs' rs' ls' cs' vc' rc' lc' cc').toArray 32)
  rw [show (w.alloc (.cells (rpV r vs rs ls cs vc rc lc cc).toArray 32)).heap.size = w.heap.size + 1 by simp] at hy2
  have Y := RC.of hy2 hI.l
  have K1 := hid (same_self _ r.val hY.val _ rfl vs vs' vc vc' I1.sv J1.sv)
  have K2 := hid (same_self _ r.raw hY.raw _ rfl rs rs' rc rc' I1.sr J1.sr)
  have qD := eqDg_self r.sum hI.l.sum
  have qI := eqInf r.info hI.l.inf
  have gI := Try.guardInf
  have SD := hid (show (Try.prog.info? 26).map (·.size) = some (ints .u8 r.sum).length by rw [ints_len, hI.l.sum]; exact Try.sizeDg)
  have SI := hid (show (Try.prog.info? 30).map (·.size) = some (inC r.info).length by rw [inC_len hI.l.inf]; exact Try.sizeInf)
  have HBEL := hid hbel
  clear hy2 hI hJ hbel
  obtain ⟨x0, x1, x2, x3, x4, x37, x38, x39, xs, xi⟩ := X
  obtain ⟨y0, y1, y2, y3, y4, y37, y38, y39, ys, yi⟩ := Y
  have XS := hid xs
  have XI := hid xi
  have YS := hid ys
  have YI := hid yi
  clear xs xi ys yi
  have hlm := J1.sl.mx
  have hll := J1.sl.le
  have hcm := J1.sc.mx
  have hcl := J1.sc.le
  unfold maxLen at hlm hcm
  have i1 : (r.list.length : Int) ≤ 9223372036854775807 := by omega
  have i2 : (r.chs.length : Int) ≤ 9223372036854775807 := by omega
  go_enter Try.func12, Try.ntmps12
  go_wp2_with (first
    | (refine wpList_load_mid_w (by rfl) 26 _ (by rfl) w.heap.size 5 (by rfl) _ _ XS.out Try.underlying26 rfl SD.out ?_)
    | (refine wpList_load_mid_w (by rfl) 26 _ (by rfl) (w.heap.size + 1) 5 (by rfl) _ _ YS.out Try.underlying26 rfl SD.out ?_)
    | (refine wpList_load_mid_w (by rfl) 30 _ (by rfl) w.heap.size 40 (by rfl) _ _ XI.out Try.underlying30 rfl SI.out ?_)
    | (refine wpList_load_mid_w (by rfl) 30 _ (by rfl) (w.heap.size + 1) 40 (by rfl) _ _ YI.out Try.underlying30 rfl SI.out ?_))
  refine K1.out.mono ?_
  rintro e w' ⟨rfl, hw'⟩
  obtain rfl := hw'.symm
  go_wp2_with fail
  refine K2.out.mono ?_
  rintro e w' ⟨rfl, hw'⟩
  obtain rfl := hw'.symm
  generalize ((w.alloc (.cells (rpV r vs rs ls cs vc rc lc cc).toArray 32)).alloc (.cells (rpV r vs' rs' ls' cs' vc' rc' lc' cc').toArray 32)) = wB at *
  clear K1 K2 qD qI gI SD SI XS XI YS YI x0 x1 x2 x3 x4 x37 y0 y1 y2 y3 y4 y37
  go_wp2
  go_loopw [5] (fun i wr => ∃ k : Nat, k ≤ r.list.length ∧ i = .int .i64 k ∧ wr.heap = wB.heap ∧ Below w.heap.size w wr) (fun i _ => r.list.length - (intOf i).toNat)
  case atStart => exact ⟨0, Nat.zero_le _, rfl, rfl, HBEL.out⟩
  case round =>
    obtain ⟨k, hk, rfl, heq, hB⟩ := hrel
    have hx := cellH heq x38
    have hyy := cellH heq y38
    by_cases hlt' : k < r.list.length
    · obtain ⟨b1, o1, h1, e1⟩ := I1.sl.el
      obtain ⟨b2, o2, h2, e2⟩ := J1.sl.el
      obtain ⟨rfl, _⟩ := h1 (by omega)
      obtain ⟨rfl, _⟩ := h2 (by omega)
      obtain ⟨s1, p1, g1, kl, S1, _⟩ := e1 k hlt'
      obtain ⟨s2, p2, g2, _, S2, _⟩ := e2 k hlt'
      have hyv := hY.list k hlt'
      clear h1 h2 e1 e2
      have KM := hid (fun (wc : World) (h : Below w.heap.size w wc ∧ wc.heap = wB.heap) => same_self wc _ hyv _ rfl s1 s2 p1 p2 (srcH h.2 S1) (srcH h.2 S2))
      obtain ⟨k1, v1⟩ := el_false g1 kl
      obtain ⟨k2, v2⟩ := el_false g2 kl
      change wB.cell? ⟨b1, o1 + k * 33 + 32, none⟩ = _ at v1
      change wB.cell? ⟨b2, o2 + k * 33 + 32, none⟩ = _ at v2
      have qK := eqKy_self _ kl
      have SK := hid (show (Try.prog.info? 50).map (·.size) = some (ints .u8 (r.list.getD k dX).key).length by rw [ints_len, kl]; exact Try.sizeKey)
      have i5 : (k : Int) < (r.list.length : Int) := by omega
      have K1 := hid k1
      have K2 := hid k2
      clear hyv S1 S2 g1 g2 kl k1 k2
      generalize ints .u8 (r.list.getD k dX).key = D at *
      generalize (r.list.getD k dX).val.length = m at *
      generalize (r.list.getD k dX).del = dl at *
      generalize hn : r.list.length = n at *
      replace hn := hid hn
      go_wp2
      refine wp_region_noPanic ?_
      refine wp_region_held_drew (S := (fun w' => Below w.heap.size w w' ∧ w'.heap = wB.heap)) (by kernel_rfl) ⟨hB.drew, heq⟩ (fun hHeld => ?_)
      refine wpAnyH_take (i := 0) (oi := { dst := some 86, op := Op.fieldAddr 32 (Operand.tmp 2) 7, type := 0, pos := "law.go:49", after := #[], guard := none }) (v := .pointer (some ⟨w.heap.size, 38, none⟩)) rfl (by kernel_rfl) (by kernel_rfl) (by kernel_rfl) (fun _ _ _ h => h) (Or.inl ⟨by rfl, by intro w hS; go_simp⟩) hHeld ?_
      try simp only [Act.put, List.setIfInBounds_toArray, List.set_cons_zero, List.set_cons_succ]
      refine wpAnyH_take (i := 2) (oi := { dst := some 88, op := Op.move (Operand.tmp 5), type := 3, pos := "law.go:49", after := #[], guard := none }) (v := .int .i64 k) rfl (by kernel_rfl) (by kernel_rfl) (by kernel_rfl) (fun _ _ _ h => h) (Or.inl ⟨by rfl, by intro w hS; go_simp⟩) hHeld ?_
      try simp only [Act.put, List.setIfInBounds_toArray, List.set_cons_zero, List.set_cons_succ]
      refine wpAnyH_take (i := 6) (oi := { dst := some 92, op := Op.fieldAddr 32 (Operand.tmp 3) 7, type := 0, pos := "law.go:49", after := #[], guard := none }) (v := .pointer (some ⟨(w.heap.size + 1), 38, none⟩)) rfl (by kernel_rfl) (by kernel_rfl) (by kernel_rfl) (fun _ _ _ h => h) (Or.inl ⟨by rfl, by intro w hS; go_simp⟩) hHeld ?_
      try simp only [Act.put, List.setIfInBounds_toArray, List.set_cons_zero, List.set_cons_succ]
      refine wpAnyH_take (i := 8) (oi := { dst := some 94, op := Op.move (Operand.tmp 5), type := 3, pos := "law.go:49", after := #[], guard := none }) (v := .int .i64 k) rfl (by kernel_rfl) (by kernel_rfl) (by kernel_rfl) (fun _ _ _ h => h) (Or.inl ⟨by rfl, by intro w hS; go_simp⟩) hHeld ?_
      try simp only [Act.put, List.setIfInBounds_toArray, List.set_cons_zero, List.set_cons_succ]
      refine wpAnyH_take (i := 1) (oi := { dst := some 87, op := Op.load 27 (Operand.tmp 86), type := 27, pos := "law.go:49", after := #[{ on := 0, ground := Ground.data }], guard := none }) (v := .slice (some ⟨b1, o1, none⟩) n lc) rfl (by kernel_rfl) (by kernel_rfl) (by kernel_rfl) (fun _ _ _ h => h) (Or.inl ⟨by rfl, by intro w hS; have hc := cellH hS.2 x38; go_simp⟩) hHeld ?_
      try simp only [Act.put, List.setIfInBounds_toArray, List.set_cons_zero, List.set_cons_succ]
      refine wpAnyH_take (i := 7) (oi := { dst := some 93, op := Op.load 27 (Operand.tmp 92), type := 27, pos := "law.go:49", after := #[{ on := 6, ground := Ground.data }], guard := none }) (v := .slice (some ⟨b2, o2, none⟩) n lc') rfl (by kernel_rfl) (by kernel_rfl) (by kernel_rfl) (fun _ _ _ h => h) (Or.inl ⟨by rfl, by intro w hS; have hc := cellH hS.2 y38; go_simp⟩) hHeld ?_
      try simp only [Act.put, List.setIfInBounds_toArray, List.set_cons_zero, List.set_cons_succ]
      refine wpAnyH_take (i := 3) (oi := { dst := some 89, op := Op.indexAddr 27 (Operand.tmp 87) (Operand.tmp 88), type := 0, pos := "law.go:49", after := #[{ on := 1, ground := Ground.data }, { on := 2, ground := Ground.data }], guard := none }) (v := .pointer (some ⟨b1, o1 + k * 33, none⟩)) rfl (by kernel_rfl) (by kernel_rfl) (by kernel_rfl) (fun _ _ _ h => h) (Or.inl ⟨by rfl, by intro w hS; go_simp⟩) hHeld ?_
      try simp only [Act.put, List.setIfInBounds_toArray, List.set_cons_zero, List.set_cons_succ]
      refine wpAnyH_take (i := 9) (oi := { dst := some 95, op := Op.indexAddr 27 (Operand.tmp 93) (Operand.tmp 94), type := 0, pos := "law.go:49", after := #[{ on := 7, ground := Ground.data }, { on := 8, ground := Ground.data }], guard := none }) (v := .pointer (some ⟨b2, o2 + k * 33, none⟩)) rfl (by kernel_rfl) (by kernel_rfl) (by kernel_rfl) (fun _ _ _ h => h) (Or.inl ⟨by rfl, by intro w hS; go_simp⟩) hHeld ?_
      try simp only [Act.put, List.setIfInBounds_toArray, List.set_cons_zero, List.set_cons_succ]
      refine wpAnyH_take (i := 4) (oi := { dst := some 90, op := Op.fieldAddr 52 (Operand.tmp 89) 0, type := 0, pos := "law.go:49", after := #[{ on := 3, ground := Ground.data }], guard := none }) (v := .pointer (some ⟨b1, o1 + k * 33, none⟩)) rfl (by kernel_rfl) (by kernel_rfl) (by kernel_rfl) (fun _ _ _ h => h) (Or.inl ⟨by rfl, by intro w hS; go_simp⟩) hHeld ?_
      try simp only [Act.put, List.setIfInBounds_toArray, List.set_cons_zero, List.set_cons_succ]
      refine wpAnyH_take (i := 10) (oi := { dst := some 96, op := Op.fieldAddr 52 (Operand.tmp 95) 0, type := 0, pos := "law.go:49", after := #[{ on := 9, ground := Ground.data }], guard := none }) (v := .pointer (some ⟨b2, o2 + k * 33, none⟩)) rfl (by kernel_rfl) (by kernel_rfl) (by kernel_rfl) (fun _ _ _ h => h) (Or.inl ⟨by rfl, by intro w hS; go_simp⟩) hHeld ?_
      try simp only [Act.put, List.setIfInBounds_toArray, List.set_cons_zero, List.set_cons_succ]
      refine wpAnyH_take (i := 5) (oi := { dst := some 91, op := Op.load 50 (Operand.tmp 90), type := 50, pos := "law.go:49", after := #[{ on := 4, ground := Ground.data }], guard := none }) (v := .agg (D).toArray) rfl (by kernel_rfl) (by kernel_rfl) (by kernel_rfl) (fun _ _ _ h => h) (yieldsIf_load_mid (by rfl) 50 _ rfl b1 (o1 + k * 33) rfl (D) _ (fun w hS => rngH hS.2 K1.out) Try.underlying50 rfl SK.out) hHeld ?_
      try simp only [Act.put, List.setIfInBounds_toArray, List.set_cons_zero, List.set_cons_succ]
      refine wpAnyH_take (i := 11) (oi := { dst := some 97, op := Op.load 50 (Operand.tmp 96), type := 50, pos := "law.go:49", after := #[{ on := 10, ground := Ground.data }], guard := none }) (v := .agg (D).toArray) rfl (by kernel_rfl) (by kernel_rfl) (by kernel_rfl) (fun _ _ _ h => h) (yieldsIf_load_mid (by rfl) 50 _ rfl b2 (o2 + k * 33) rfl (D) _ (fun w hS => rngH hS.2 K2.out) Try.underlying50 rfl SK.out) hHeld ?_
      try simp only [Act.put, List.setIfInBounds_toArray, List.set_cons_zero, List.set_cons_succ]
      refine wpAnyH_take (i := 12) (oi := { dst := some 98, op := Op.binOp BinOp.neq 50 (Operand.tmp 91) (Operand.tmp 97) 50, type := 4, pos := "law.go:49", after := #[{ on := 5, ground := Ground.data }, { on := 11, ground := Ground.data }], guard := none }) (v := .bool false) rfl (by kernel_rfl) (by kernel_rfl) (by kernel_rfl) (fun _ _ _ h => h) (Or.inl ⟨by rfl, by intro w hS; go_simp⟩) hHeld ?_
      try simp only [Act.put, List.setIfInBounds_toArray, List.set_cons_zero, List.set_cons_succ]
      refine wpAnyH_take (i := 13) (oi := { dst := some 99, op := Op.move (Operand.tmp 98), type := 4, pos := "law.go:49", after := #[{ on := 12, ground := Ground.data }], guard := none }) (v := .bool false) rfl (by kernel_rfl) (by kernel_rfl) (by kernel_rfl) (fun _ _ _ h => h) (Or.inl ⟨by rfl, by intro w hS; go_simp⟩) hHeld ?_
      try simp only [Act.put, List.setIfInBounds_toArray, List.set_cons_zero, List.set_cons_succ]
      refine wpAnyH_take (i := 14) (oi := { dst := some 100, op := Op.fieldAddr 32 (Operand.tmp 2) 7, type := 0, pos := "law.go:49", after := #[{ on := 13, ground := Ground.guard }], guard := some (13, false) }) (v := .pointer (some ⟨w.heap.size, 38, none⟩)) rfl (by kernel_rfl) (by kernel_rfl) (by kernel_rfl) (fun _ _ _ h => h) (Or.inl ⟨by rfl, by intro w hS; go_simp⟩) hHeld ?_
      try simp only [Act.put, List.setIfInBounds_toArray, List.set_cons_zero, List.set_cons_succ]
      refine wpAnyH_take (i := 16) (oi := { dst := some 102, op := Op.move (Operand.tmp 5), type := 3, pos := "law.go:49", after := #[{ on := 13, ground := Ground.guard }], guard := some (13, false) }) (v := .int .i64 k) rfl (by kernel_rfl) (by kernel_rfl) (by kernel_rfl) (fun _ _ _ h => h) (Or.inl ⟨by rfl, by intro w hS; go_simp⟩) hHeld ?_
      try simp only [Act.put, List.setIfInBounds_toArray, List.set_cons_zero, List.set_cons_succ]
      refine wpAnyH_take (i := 20) (oi := { dst := some 106, op := Op.fieldAddr 32 (Operand.tmp 3) 7, type := 0, pos := "law.go:49", after := #[{ on := 13, ground := Ground.guard }], guard := some (13, false) }) (v := .pointer (some ⟨(w.heap.size + 1), 38, none⟩)) rfl (by kernel_rfl) (by kernel_rfl) (by kernel_rfl) (fun _ _ _ h => h) (Or.inl ⟨by rfl, by intro w hS; go_simp⟩) hHeld ?_
      try simp only [Act.put, List.setIfInBounds_toArray, List.set_cons_zero, List.set_cons_succ]
      refine wpAnyH_take (i := 22) (oi := { dst := some 108, op := Op.move (Operand.tmp 5), type := 3, pos := "law.go:49", after := #[{ on := 13, ground := Ground.guard }], guard := some (13, false) }) (v := .int .i64 k) rfl (by kernel_rfl) (by kernel_rfl) (by kernel_rfl) (fun _ _ _ h => h) (Or.inl ⟨by rfl, by intro w hS; go_simp⟩) hHeld ?_
      try simp only [Act.put, List.setIfInBounds_toArray, List.set_cons_zero, List.set_cons_succ]
      refine wpAnyH_take (i := 15) (oi := { dst := some 101, op := Op.load 27 (Operand.tmp 100), type := 27, pos := "law.go:49", after := #[{ on := 14, ground := Ground.data }, { on := 13, ground := Ground.guard }], guard := some (13, false) }) (v := .slice (some ⟨b1, o1, none⟩) n lc) rfl (by kernel_rfl) (by kernel_rfl) (by kernel_rfl) (fun _ _ _ h => h) (Or.inl ⟨by rfl, by intro w hS; have hc := cellH hS.2 x38; go_simp⟩) hHeld ?_
      try simp only [Act.put, List.setIfInBounds_toArray, List.set_cons_zero, List.set_cons_succ]
      refine wpAnyH_take (i := 21) (oi := { dst := some 107, op := Op.load 27 (Operand.tmp 106), type := 27, pos := "law.go:49", after := #[{ on := 20, ground := Ground.data }, { on := 13, ground := Ground.guard }], guard := some (13, false) }) (v := .slice (some ⟨b2, o2, none⟩) n lc') rfl (by kernel_rfl) (by kernel_rfl) (by kernel_rfl) (fun _ _ _ h => h) (Or.inl ⟨by rfl, by intro w hS; have hc := cellH hS.2 y38; go_simp⟩) hHeld ?_
      try simp only [Act.put, List.setIfInBounds_toArray, List.set_cons_zero, List.set_cons_succ]
      refine wpAnyH_take (i := 17) (oi := { dst := some 103, op := Op.indexAddr 27 (Operand.tmp 101) (Operand.tmp 102), type := 0, pos := "law.go:49", after := #[{ on := 15, ground := Ground.data }, { on := 16, ground := Ground.data }, { on := 13, ground := Ground.guard }], guard := some (13, false) }) (v := .pointer (some ⟨b1, o1 + k * 33, none⟩)) rfl (by kernel_rfl) (by kernel_rfl) (by kernel_rfl) (fun _ _ _ h => h) (Or.inl ⟨by rfl, by intro w hS; go_simp⟩) hHeld ?_
      try simp only [Act.put, List.setIfInBounds_toArray, List.set_cons_zero, List.set_cons_succ]
      refine wpAnyH_take (i := 23) (oi := { dst := some 109, op := Op.indexAddr 27 (Operand.tmp 107) (Operand.tmp 108), type := 0, pos := "law.go:49", after := #[{ on := 21, ground := Ground.data }, { on := 22, ground := Ground.data }, { on := 13, ground := Ground.guard }], guard := some (13, false) }) (v := .pointer (some ⟨b2, o2 + k * 33, none⟩)) rfl (by kernel_rfl) (by kernel_rfl) (by kernel_rfl) (fun _ _ _ h => h) (Or.inl ⟨by rfl, by intro w hS; go_simp⟩) hHeld ?_
      try simp only [Act.put, List.setIfInBounds_toArray, List.set_cons_zero, List.set_cons_succ]
      refine wpAnyH_take (i := 18) (oi := { dst := some 104, op := Op.fieldAddr 52 (Operand.tmp 103) 1, type := 0, pos := "law.go:49", after := #[{ on := 17, ground := Ground.data }, { on := 13, ground := Ground.guard }], guard := some (13, false) }) (v := .pointer (some ⟨b1, o1 + k * 33 + 32, none⟩)) rfl (by kernel_rfl) (by kernel_rfl) (by kernel_rfl) (fun _ _ _ h => h) (Or.inl ⟨by rfl, by intro w hS; go_simp⟩) hHeld ?_
      try simp only [Act.put, List.setIfInBounds_toArray, List.set_cons_zero, List.set_cons_succ]
      refine wpAnyH_take (i := 24) (oi := { dst := some 110, op := Op.fieldAddr 52 (Operand.tmp 109) 1, type := 0, pos := "law.go:49", after := #[{ on := 23, ground := Ground.data }, { on := 13, ground := Ground.guard }], guard := some (13, false) }) (v := .pointer (some ⟨b2, o2 + k * 33 + 32, none⟩)) rfl (by kernel_rfl) (by kernel_rfl) (by kernel_rfl) (fun _ _ _ h => h) (Or.inl ⟨by rfl, by intro w hS; go_simp⟩) hHeld ?_
      try simp only [Act.put, List.setIfInBounds_toArray, List.set_cons_zero, List.set_cons_succ]
      refine wpAnyH_take (i := 19) (oi := { dst := some 105, op := Op.load 22 (Operand.tmp 104), type := 22, pos := "law.go:49", after := #[{ on := 18, ground := Ground.data }, { on := 13, ground := Ground.guard }], guard := some (13, false) }) (v := .slice s1 m p1) rfl (by kernel_rfl) (by kernel_rfl) (by kernel_rfl) (fun _ _ _ h => h) (Or.inl ⟨by rfl, by intro w hS; have hc := cellH hS.2 v1; go_simp⟩) hHeld ?_
      try simp only [Act.put, List.setIfInBounds_toArray, List.set_cons_zero, List.set_cons_succ]
      refine wpAnyH_take (i := 25) (oi := { dst := some 111, op := Op.load 22 (Operand.tmp 110), type := 22, pos := "law.go:49", after := #[{ on := 24, ground := Ground.data }, { on := 13, ground := Ground.guard }], guard := some (13, false) }) (v := .slice s2 m p2) rfl (by kernel_rfl) (by kernel_rfl) (by kernel_rfl) (fun _ _ _ h => h) (Or.inl ⟨by rfl, by intro w hS; have hc := cellH hS.2 v2; go_simp⟩) hHeld ?_
      try simp only [Act.put, List.setIfInBounds_toArray, List.set_cons_zero, List.set_cons_succ]
      refine wpAnyH_ready (rs := [26]) (by kernel_rfl) (by simp) ?_
      refine (AllReadyH.cons (o := { dst := some 112, op := Op.call { callee := Callee.value (Operand.func 24), args := #[Operand.tmp 105, Operand.tmp 111], argTypes := #[22, 22] }, type := 4, pos := "law.go:49", after := #[{ on := 19, ground := Ground.data }, { on := 25, ground := Ground.data }, { on := 13, ground := Ground.chain }, { on := 13, ground := Ground.guard }], guard := some (13, false) }) rfl (fun K hK => ?_) AllReadyH.nil)
      go_simp
      go_at_call 24
      refine (KM.out _ hHeld).mono ?_
      rintro e w4 ⟨rfl, hw4⟩
      subst hw4
      go_wp2_with fail
      refine hK.out _ _ (hHeld) (fun hHeld2 => ?_)
      clear hK K hHeld
      have hHeld := hHeld2
      clear hHeld2
      try simp only [Act.put, List.setIfInBounds_toArray, List.set_cons_zero, List.set_cons_succ]
      refine wpAnyH_take (i := 27) (oi := { dst := some 113, op := Op.unOp UnOp.not 4 (Operand.tmp 112), type := 4, pos := "law.go:49", after := #[{ on := 26, ground := Ground.data }, { on := 13, ground := Ground.guard }], guard := some (13, false) }) (v := .bool false) rfl (by kernel_rfl) (by kernel_rfl) (by kernel_rfl) (fun _ _ _ h => h) (Or.inl ⟨by rfl, by intro w hS; go_simp⟩) hHeld ?_
      try simp only [Act.put, List.setIfInBounds_toArray, List.set_cons_zero, List.set_cons_succ]
      refine wpAnyH_take (i := 28) (oi := { dst := some 114, op := Op.pick (Operand.tmp 99) (Operand.const (Value.bool true)) (Operand.tmp 113), type := 4, pos := "law.go:49", after := #[{ on := 13, ground := Ground.data }, { on := 27, ground := Ground.data }], guard := none }) (v := .bool false) rfl (by kernel_rfl) (by kernel_rfl) (by kernel_rfl) (fun _ _ _ h => h) (Or.inl ⟨by rfl, by intro w hS; go_simp⟩) hHeld ?_
      try simp only [Act.put, List.setIfInBounds_toArray, List.set_cons_zero, List.set_cons_succ]
      refine wpAnyH_done (by kernel_rfl) ?_ _
      refine NoPanic.normal ?_
      clear hx hyy
      go_wp2
      go_roundw
      case rel => exact ⟨k + 1, by omega, by go_num, hHeld.2, hHeld.1⟩
      case measure => simp [intOf]; omega
    · obtain rfl : k = r.list.length := by omega
      clear hlt'
      have heq1 := heq
      have hB1 := hB
      clear heq hB hyy
      go_wp2
      clear hx
      go_loopw [6] (fun i wr => ∃ k : Nat, k ≤ r.chs.length ∧ i = .int .i64 k ∧ wr.heap = wB.heap ∧ Below w.heap.size w wr) (fun i _ => r.chs.length - (intOf i).toNat)
      case atStart => exact ⟨0, Nat.zero_le _, rfl, heq1, hB1⟩
      case round =>
        clear heq1 hB1
        obtain ⟨k, hk, rfl, heq, hB⟩ := hrel
        have hx := cellH heq x39
        have hyy := cellH heq y39
        by_cases hlt' : k < r.chs.length
        · obtain ⟨b1, o1, h1, e1⟩ := I1.sc.el
          obtain ⟨b2, o2, h2, e2⟩ := J1.sc.el
          obtain ⟨rfl, _⟩ := h1 (by omega)
          obtain ⟨rfl, _⟩ := h2 (by omega)
          obtain ⟨s1, p1, g1, kl, S1, _⟩ := e1 k hlt'
          obtain ⟨s2, p2, g2, _, S2, _⟩ := e2 k hlt'
          have hyv := hY.chs k hlt'
          clear h1 h2 e1 e2
          have KM := hid (fun (wc : World) (h : Below w.heap.size w wc ∧ wc.heap = wB.heap) => same_self wc _ hyv _ rfl s1 s2 p1 p2 (srcH h.2 S1) (srcH h.2 S2))
          obtain ⟨k1, v1, d1⟩ := el_true g1 kl
          obtain ⟨k2, v2, d2⟩ := el_true g2 kl
          change wB.cell? ⟨b1, o1 + k * 34 + 33, none⟩ = _ at v1
          change wB.cell? ⟨b2, o2 + k * 34 + 33, none⟩ = _ at v2
          change wB.cell? ⟨b1, o1 + k * 34 + 32, none⟩ = _ at d1
          change wB.cell? ⟨b2, o2 + k * 34 + 32, none⟩ = _ at d2
          have qK := eqKy_self _ kl
          have SK := hid (show (Try.prog.info? 50).map (·.size) = some (ints .u8 (r.chs.getD k dX).key).length by rw [ints_len, kl]; exact Try.sizeKey)
          have i5 : (k : Int) < (r.chs.length : Int) := by omega
          have K1 := hid k1
          have K2 := hid k2
          clear hyv S1 S2 g1 g2 kl k1 k2
          generalize ints .u8 (r.chs.getD k dX).key = D at *
          generalize (r.chs.getD k dX).val.length = m at *
          generalize (r.chs.getD k dX).del = dl at *
          generalize hn : r.chs.length = n at *
          replace hn := hid hn
          go_wp2
          refine wp_region_noPanic ?_
          refine wp_region_held_drew (S := (fun w' => Below w.heap.size w w' ∧ w'.heap = wB.heap)) (by kernel_rfl) ⟨hB.drew, heq⟩ (fun hHeld => ?_)
          refine wpAnyH_take (i := 0) (oi := { dst := some 122, op := Op.fieldAddr 32 (Operand.tmp 2) 8, type := 0, pos := "law.go:54", after := #[], guard := none }) (v := .pointer (some ⟨w.heap.size, 39, none⟩)) rfl (by kernel_rfl) (by kernel_rfl) (by kernel_rfl) (fun _ _ _ h => h) (Or.inl ⟨by rfl, by intro w hS; go_simp⟩) hHeld ?_
          try simp only [Act.put, List.setIfInBounds_toArray, List.set_cons_zero, List.set_cons_succ]
          refine wpAnyH_take (i := 2) (oi := { dst := some 124, op := Op.move (Operand.tmp 6), type := 3, pos := "law.go:54", after := #[], guard := none }) (v := .int .i64 k) rfl (by kernel_rfl) (by kernel_rfl) (by kernel_rfl) (fun _ _ _ h => h) (Or.inl ⟨by rfl, by intro w hS; go_simp⟩) hHeld ?_
          try simp only [Act.put, List.setIfInBounds_toArray, List.set_cons_zero, List.set_cons_succ]
          refine wpAnyH_take (i := 6) (oi := { dst := some 128, op := Op.fieldAddr 32 (Operand.tmp 3) 8, type := 0, pos := "law.go:54", after := #[], guard := none }) (v := .pointer (some ⟨(w.heap.size + 1), 39, none⟩)) rfl (by kernel_rfl) (by kernel_rfl) (by kernel_rfl) (fun _ _ _ h => h) (Or.inl ⟨by rfl, by intro w hS; go_simp⟩) hHeld ?_
          try simp only [Act.put, List.setIfInBounds_toArray, List.set_cons_zero, List.set_cons_succ]
          refine wpAnyH_take (i := 8) (oi := { dst := some 130, op := Op.move (Operand.tmp 6), type := 3, pos := "law.go:54", after := #[], guard := none }) (v := .int .i64 k) rfl (by kernel_rfl) (by kernel_rfl) (by kernel_rfl) (fun _ _ _ h => h) (Or.inl ⟨by rfl, by intro w hS; go_simp⟩) hHeld ?_
          try simp only [Act.put, List.setIfInBounds_toArray, List.set_cons_zero, List.set_cons_succ]
          refine wpAnyH_take (i := 1) (oi := { dst := some 123, op := Op.load 28 (Operand.tmp 122), type := 28, pos := "law.go:54", after := #[{ on := 0, ground := Ground.data }], guard := none }) (v := .slice (some ⟨b1, o1, none⟩) n cc) rfl (by kernel_rfl) (by kernel_rfl) (by kernel_rfl) (fun _ _ _ h => h) (Or.inl ⟨by rfl, by intro w hS; have hc := cellH hS.2 x39; go_simp⟩) hHeld ?_
          try simp only [Act.put, List.setIfInBounds_toArray, List.set_cons_zero, List.set_cons_succ]
          refine wpAnyH_take (i := 7) (oi := { dst := some 129, op := Op.load 28 (Operand.tmp 128), type := 28, pos := "law.go:54", after := #[{ on := 6, ground := Ground.data }], guard := none }) (v := .slice (some ⟨b2, o2, none⟩) n cc') rfl (by kernel_rfl) (by kernel_rfl) (by kernel_rfl) (fun _ _ _ h => h) (Or.inl ⟨by rfl, by intro w hS; have hc := cellH hS.2 y39; go_simp⟩) hHeld ?_
          try simp only [Act.put, List.setIfInBounds_toArray, List.set_cons_zero, List.set_cons_succ]
          refine wpAnyH_take (i := 3) (oi := { dst := some 125, op := Op.indexAddr 28 (Operand.tmp 123) (Operand.tmp 124), type := 0, pos := "law.go:54", after := #[{ on := 1, ground := Ground.data }, { on := 2, ground := Ground.data }], guard := none }) (v := .pointer (some ⟨b1, o1 + k * 34, none⟩)) rfl (by kernel_rfl) (by kernel_rfl) (by kernel_rfl) (fun _ _ _ h => h) (Or.inl ⟨by rfl, by intro w hS; go_simp⟩) hHeld ?_
          try simp only [Act.put, List.setIfInBounds_toArray, List.set_cons_zero, List.set_cons_succ]
          refine wpAnyH_take (i := 9) (oi := { dst := some 131, op := Op.indexAddr 28 (Operand.tmp 129) (Operand.tmp 130), type := 0, pos := "law.go:54", after := #[{ on := 7, ground := Ground.data }, { on := 8, ground := Ground.data }], guard := none }) (v := .pointer (some ⟨b2, o2 + k * 34, none⟩)) rfl (by kernel_rfl) (by kernel_rfl) (by kernel_rfl) (fun _ _ _ h => h) (Or.inl ⟨by rfl, by intro w hS; go_simp⟩) hHeld ?_
          try simp only [Act.put, List.setIfInBounds_toArray, List.set_cons_zero, List.set_cons_succ]
          refine wpAnyH_take (i := 4) (oi := { dst := some 126, op := Op.fieldAddr 54 (Operand.tmp 125) 0, type := 0, pos := "law.go:54", after := #[{ on := 3, ground := Ground.data }], guard := none }) (v := .pointer (some ⟨b1, o1 + k * 34, none⟩)) rfl (by kernel_rfl) (by kernel_rfl) (by kernel_rfl) (fun _ _ _ h => h) (Or.inl ⟨by rfl, by intro w hS; go_simp⟩) hHeld ?_
          try simp only [Act.put, List.setIfInBounds_toArray, List.set_cons_zero, List.set_cons_succ]
          refine wpAnyH_take (i := 10) (oi := { dst := some 132, op := Op.fieldAddr 54 (Operand.tmp 131) 0, type := 0, pos := "law.go:54", after := #[{ on := 9, ground := Ground.data }], guard := none }) (v := .pointer (some ⟨b2, o2 + k * 34, none⟩)) rfl (by kernel_rfl) (by kernel_rfl) (by kernel_rfl) (fun _ _ _ h => h) (Or.inl ⟨by rfl, by intro w hS; go_simp⟩) hHeld ?_
          try simp only [Act.put, List.setIfInBounds_toArray, List.set_cons_zero, List.set_cons_succ]
          refine wpAnyH_take (i := 5) (oi := { dst := some 127, op := Op.load 50 (Operand.tmp 126), type := 50, pos := "law.go:54", after := #[{ on := 4, ground := Ground.data }], guard := none }) (v := .agg (D).toArray) rfl (by kernel_rfl) (by kernel_rfl) (by kernel_rfl) (fun _ _ _ h => h) (yieldsIf_load_mid (by rfl) 50 _ rfl b1 (o1 + k * 34) rfl (D) _ (fun w hS => rngH hS.2 K1.out) Try.underlying50 rfl SK.out) hHeld ?_
          try simp only [Act.put, List.setIfInBounds_toArray, List.set_cons_zero, List.set_cons_succ]
          refine wpAnyH_take (i := 11) (oi := { dst := some 133, op := Op.load 50 (Operand.tmp 132), type := 50, pos := "law.go:54", after := #[{ on := 10, ground := Ground.data }], guard := none }) (v := .agg (D).toArray) rfl (by kernel_rfl) (by kernel_rfl) (by kernel_rfl) (fun _ _ _ h => h) (yieldsIf_load_mid (by rfl) 50 _ rfl b2 (o2 + k * 34) rfl (D) _ (fun w hS => rngH hS.2 K2.out) Try.underlying50 rfl SK.out) hHeld ?_
          try simp only [Act.put, List.setIfInBounds_toArray, List.set_cons_zero, List.set_cons_succ]
          refine wpAnyH_take (i := 12) (oi := { dst := some 134, op := Op.binOp BinOp.neq 50 (Operand.tmp 127) (Operand.tmp 133) 50, type := 4, pos := "law.go:54", after := #[{ on := 5, ground := Ground.data }, { on := 11, ground := Ground.data }], guard := none }) (v := .bool false) rfl (by kernel_rfl) (by kernel_rfl) (by kernel_rfl) (fun _ _ _ h => h) (Or.inl ⟨by rfl, by intro w hS; go_simp⟩) hHeld ?_
          try simp only [Act.put, List.setIfInBounds_toArray, List.set_cons_zero, List.set_cons_succ]
          refine wpAnyH_take (i := 13) (oi := { dst := some 135, op := Op.move (Operand.tmp 134), type := 4, pos := "law.go:54", after := #[{ on := 12, ground := Ground.data }], guard := none }) (v := .bool false) rfl (by kernel_rfl) (by kernel_rfl) (by kernel_rfl) (fun _ _ _ h => h) (Or.inl ⟨by rfl, by intro w hS; go_simp⟩) hHeld ?_
          try simp only [Act.put, List.setIfInBounds_toArray, List.set_cons_zero, List.set_cons_succ]
          refine wpAnyH_take (i := 14) (oi := { dst := some 136, op := Op.fieldAddr 32 (Operand.tmp 2) 8, type := 0, pos := "law.go:54", after := #[{ on := 13, ground := Ground.guard }], guard := some (13, false) }) (v := .pointer (some ⟨w.heap.size, 39, none⟩)) rfl (by kernel_rfl) (by kernel_rfl) (by kernel_rfl) (fun _ _ _ h => h) (Or.inl ⟨by rfl, by intro w hS; go_simp⟩) hHeld ?_
          try simp only [Act.put, List.setIfInBounds_toArray, List.set_cons_zero, List.set_cons_succ]
          refine wpAnyH_take (i := 16) (oi := { dst := some 138, op := Op.move (Operand.tmp 6), type := 3, pos := "law.go:54", after := #[{ on := 13, ground := Ground.guard }], guard := some (13, false) }) (v := .int .i64 k) rfl (by kernel_rfl) (by kernel_rfl) (by kernel_rfl) (fun _ _ _ h => h) (Or.inl ⟨by rfl, by intro w hS; go_simp⟩) hHeld ?_
          try simp only [Act.put, List.setIfInBounds_toArray, List.set_cons_zero, List.set_cons_succ]
          refine wpAnyH_take (i := 20) (oi := { dst := some 142, op := Op.fieldAddr 32 (Operand.tmp 3) 8, type := 0, pos := "law.go:54", after := #[{ on := 13, ground := Ground.guard }], guard := some (13, false) }) (v := .pointer (some ⟨(w.heap.size + 1), 39, none⟩)) rfl (by kernel_rfl) (by kernel_rfl) (by kernel_rfl) (fun _ _ _ h => h) (Or.inl ⟨by rfl, by intro w hS; go_simp⟩) hHeld ?_
          try simp only [Act.put, List.setIfInBounds_toArray, List.set_cons_zero, List.set_cons_succ]
          refine wpAnyH_take (i := 22) (oi := { dst := some 144, op := Op.move (Operand.tmp 6), type := 3, pos := "law.go:54", after := #[{ on := 13, ground := Ground.guard }], guard := some (13, false) }) (v := .int .i64 k) rfl (by kernel_rfl) (by kernel_rfl) (by kernel_rfl) (fun _ _ _ h => h) (Or.inl ⟨by rfl, by intro w hS; go_simp⟩) hHeld ?_
          try simp only [Act.put, List.setIfInBounds_toArray, List.set_cons_zero, List.set_cons_succ]
          refine wpAnyH_take (i := 15) (oi := { dst := some 137, op := Op.load 28 (Operand.tmp 136), type := 28, pos := "law.go:54", after := #[{ on := 14, ground := Ground.data }, { on := 13, ground := Ground.guard }], guard := some (13, false) }) (v := .slice (some ⟨b1, o1, none⟩) n cc) rfl (by kernel_rfl) (by kernel_rfl) (by kernel_rfl) (fun _ _ _ h => h) (Or.inl ⟨by rfl, by intro w hS; have hc := cellH hS.2 x39; go_simp⟩) hHeld ?_
          try simp only [Act.put, List.setIfInBounds_toArray, List.set_cons_zero, List.set_cons_succ]
          refine wpAnyH_take (i := 21) (oi := { dst := some 143, op := Op.load 28 (Operand.tmp 142), type := 28, pos := "law.go:54", after := #[{ on := 20, ground := Ground.data }, { on := 13, ground := Ground.guard }], guard := some (13, false) }) (v := .slice (some ⟨b2, o2, none⟩) n cc') rfl (by kernel_rfl) (by kernel_rfl) (by kernel_rfl) (fun _ _ _ h => h) (Or.inl ⟨by rfl, by intro w hS; have hc := cellH hS.2 y39; go_simp⟩) hHeld ?_
          try simp only [Act.put, List.setIfInBounds_toArray, List.set_cons_zero, List.set_cons_succ]
          refine wpAnyH_take (i := 17) (oi := { dst := some 139, op := Op.indexAddr 28 (Operand.tmp 137) (Operand.tmp 138), type := 0, pos := "law.go:54", after := #[{ on := 15, ground := Ground.data }, { on := 16, ground := Ground.data }, { on := 13, ground := Ground.guard }], guard := some (13, false) }) (v := .pointer (some ⟨b1, o1 + k * 34, none⟩)) rfl (by kernel_rfl) (by kernel_rfl) (by kernel_rfl) (fun _ _ _ h => h) (Or.inl ⟨by rfl, by intro w hS; go_simp⟩) hHeld ?_
          try simp only [Act.put, List.setIfInBounds_toArray, List.set_cons_zero, List.set_cons_succ]
          refine wpAnyH_take (i := 23) (oi := { dst := some 145, op := Op.indexAddr 28 (Operand.tmp 143) (Operand.tmp 144), type := 0, pos := "law.go:54", after := #[{ on := 21, ground := Ground.data }, { on := 22, ground := Ground.data }, { on := 13, ground := Ground.guard }], guard := some (13, false) }) (v := .pointer (some ⟨b2, o2 + k * 34, none⟩)) rfl (by kernel_rfl) (by kernel_rfl) (by kernel_rfl) (fun _ _ _ h => h) (Or.inl ⟨by rfl, by intro w hS; go_simp⟩) hHeld ?_
          try simp only [Act.put, List.setIfInBounds_toArray, List.set_cons_zero, List.set_cons_succ]
          refine wpAnyH_take (i := 18) (oi := { dst := some 140, op := Op.fieldAddr 54 (Operand.tmp 139) 1, type := 0, pos := "law.go:54", after := #[{ on := 17, ground := Ground.data }, { on := 13, ground := Ground.guard }], guard := some (13, false) }) (v := .pointer (some ⟨b1, o1 + k * 34 + 32, none⟩)) rfl (by kernel_rfl) (by kernel_rfl) (by kernel_rfl) (fun _ _ _ h => h) (Or.inl ⟨by rfl, by intro w hS; go_simp⟩) hHeld ?_
          try simp only [Act.put, List.setIfInBounds_toArray, List.set_cons_zero, List.set_cons_succ]
          refine wpAnyH_take (i := 24) (oi := { dst := some 146, op := Op.fieldAddr 54 (Operand.tmp 145) 1, type := 0, pos := "law.go:54", after := #[{ on := 23, ground := Ground.data }, { on := 13, ground := Ground.guard }], guard := some (13, false) }) (v := .pointer (some ⟨b2, o2 + k * 34 + 32, none⟩)) rfl (by kernel_rfl) (by kernel_rfl) (by kernel_rfl) (fun _ _ _ h => h) (Or.inl ⟨by rfl, by intro w hS; go_simp⟩) hHeld ?_
          try simp only [Act.put, List.setIfInBounds_toArray, List.set_cons_zero, List.set_cons_succ]
          refine wpAnyH_take (i := 19) (oi := { dst := some 141, op := Op.load 4 (Operand.tmp 140), type := 4, pos := "law.go:54", after := #[{ on := 18, ground := Ground.data }, { on := 13, ground := Ground.guard }], guard := some (13, false) }) (v := .bool dl) rfl (by kernel_rfl) (by kernel_rfl) (by kernel_rfl) (fun _ _ _ h => h) (Or.inl ⟨by rfl, by intro w hS; have hc := cellH hS.2 d1; go_simp⟩) hHeld ?_
          try simp only [Act.put, List.setIfInBounds_toArray, List.set_cons_zero, List.set_cons_succ]
          refine wpAnyH_take (i := 25) (oi := { dst := some 147, op := Op.load 4 (Operand.tmp 146), type := 4, pos := "law.go:54", after := #[{ on := 24, ground := Ground.data }, { on := 13, ground := Ground.guard }], guard := some (13, false) }) (v := .bool dl) rfl (by kernel_rfl) (by kernel_rfl) (by kernel_rfl) (fun _ _ _ h => h) (Or.inl ⟨by rfl, by intro w hS; have hc := cellH hS.2 d2; go_simp⟩) hHeld ?_
          try simp only [Act.put, List.setIfInBounds_toArray, List.set_cons_zero, List.set_cons_succ]
          refine wpAnyH_take (i := 26) (oi := { dst := some 148, op := Op.binOp BinOp.neq 4 (Operand.tmp 141) (Operand.tmp 147) 4, type := 4, pos := "law.go:54", after := #[{ on := 19, ground := Ground.data }, { on := 25, ground := Ground.data }, { on := 13, ground := Ground.guard }], guard := some (13, false) }) (v := .bool false) rfl (by kernel_rfl) (by kernel_rfl) (by kernel_rfl) (fun _ _ _ h => h) (Or.inl ⟨by rfl, by intro w hS; go_simp⟩) hHeld ?_
          try simp only [Act.put, List.setIfInBounds_toArray, List.set_cons_zero, List.set_cons_succ]
          refine wpAnyH_take (i := 27) (oi := { dst := some 149, op := Op.pick (Operand.tmp 135) (Operand.const (Value.bool true)) (Operand.tmp 148), type := 4, pos := "law.go:54", after := #[{ on := 13, ground := Ground.data }, { on := 26, ground := Ground.data }], guard := none }) (v := .bool false) rfl (by kernel_rfl) (by kernel_rfl) (by kernel_rfl) (fun _ _ _ h => h) (Or.inl ⟨by rfl, by intro w hS; go_simp⟩) hHeld ?_
          try simp only [Act.put, List.setIfInBounds_toArray, List.set_cons_zero, List.set_cons_succ]
          refine wpAnyH_take (i := 28) (oi := { dst := some 150, op := Op.move (Operand.tmp 149), type := 4, pos := "law.go:54", after := #[{ on := 27, ground := Ground.data }, { on := 13, ground := Ground.chain }], guard := none }) (v := .bool false) rfl (by kernel_rfl) (by kernel_rfl) (by kernel_rfl) (fun _ _ _ h => h) (Or.inl ⟨by rfl, by intro w hS; go_simp⟩) hHeld ?_
          try simp only [Act.put, List.setIfInBounds_toArray, List.set_cons_zero, List.set_cons_succ]
          refine wpAnyH_take (i := 29) (oi := { dst := some 151, op := Op.fieldAddr 32 (Operand.tmp 2) 8, type := 0, pos := "law.go:54", after := #[{ on := 28, ground := Ground.guard }], guard := some (28, false) }) (v := .pointer (some ⟨w.heap.size, 39, none⟩)) rfl (by kernel_rfl) (by kernel_rfl) (by kernel_rfl) (fun _ _ _ h => h) (Or.inl ⟨by rfl, by intro w hS; go_simp⟩) hHeld ?_
          try simp only [Act.put, List.setIfInBounds_toArray, List.set_cons_zero, List.set_cons_succ]
          refine wpAnyH_take (i := 31) (oi := { dst := some 153, op := Op.move (Operand.tmp 6), type := 3, pos := "law.go:54", after := #[{ on := 28, ground := Ground.guard }], guard := some (28, false) }) (v := .int .i64 k) rfl (by kernel_rfl) (by kernel_rfl) (by kernel_rfl) (fun _ _ _ h => h) (Or.inl ⟨by rfl, by intro w hS; go_simp⟩) hHeld ?_
          try simp only [Act.put, List.setIfInBounds_toArray, List.set_cons_zero, List.set_cons_succ]
          refine wpAnyH_take (i := 35) (oi := { dst := some 157, op := Op.fieldAddr 32 (Operand.tmp 3) 8, type := 0, pos := "law.go:54", after := #[{ on := 28, ground := Ground.guard }], guard := some (28, false) }) (v := .pointer (some ⟨(w.heap.size + 1), 39, none⟩)) rfl (by kernel_rfl) (by kernel_rfl) (by kernel_rfl) (fun _ _ _ h => h) (Or.inl ⟨by rfl, by intro w hS; go_simp⟩) hHeld ?_
          try simp only [Act.put, List.setIfInBounds_toArray, List.set_cons_zero, List.set_cons_succ]
          refine wpAnyH_take (i := 37) (oi := { dst := some 159, op := Op.move (Operand.tmp 6), type := 3, pos := "law.go:54", after := #[{ on := 28, ground := Ground.guard }], guard := some (28, false) }) (v := .int .i64 k) rfl (by kernel_rfl) (by kernel_rfl) (by kernel_rfl) (fun _ _ _ h => h) (Or.inl ⟨by rfl, by intro w hS; go_simp⟩) hHeld ?_
          try simp only [Act.put, List.setIfInBounds_toArray, List.set_cons_zero, List.set_cons_succ]
          refine wpAnyH_take (i := 30) (oi := { dst := some 152, op := Op.load 28 (Operand.tmp 151), type := 28, pos := "law.go:54", after := #[{ on := 29, ground := Ground.data }, { on := 28, ground := Ground.guard }], guard := some (28, false) }) (v := .slice (some ⟨b1, o1, none⟩) n cc) rfl (by kernel_rfl) (by kernel_rfl) (by kernel_rfl) (fun _ _ _ h => h) (Or.inl ⟨by rfl, by intro w hS; have hc := cellH hS.2 x39; go_simp⟩) hHeld ?_
          try simp only [Act.put, List.setIfInBounds_toArray, List.set_cons_zero, List.set_cons_succ]
          refine wpAnyH_take (i := 36) (oi := { dst := some 158, op := Op.load 28 (Operand.tmp 157), type := 28, pos := "law.go:54", after := #[{ on := 35, ground := Ground.data }, { on := 28, ground := Ground.guard }], guard := some (28, false) }) (v := .slice (some ⟨b2, o2, none⟩) n cc') rfl (by kernel_rfl) (by kernel_rfl) (by kernel_rfl) (fun _ _ _ h => h) (Or.inl ⟨by rfl, by intro w hS; have hc := cellH hS.2 y39; go_simp⟩) hHeld ?_
          try simp only [Act.put, List.setIfInBounds_toArray, List.set_cons_zero, List.set_cons_succ]
          refine wpAnyH_take (i := 32) (oi := { dst := some 154, op := Op.indexAddr 28 (Operand.tmp 152) (Operand.tmp 153), type := 0, pos := "law.go:54", after := #[{ on := 30, ground := Ground.data }, { on := 31, ground := Ground.data }, { on := 28, ground := Ground.guard }], guard := some (28, false) }) (v := .pointer (some ⟨b1, o1 + k * 34, none⟩)) rfl (by kernel_rfl) (by kernel_rfl) (by kernel_rfl) (fun _ _ _ h => h) (Or.inl ⟨by rfl, by intro w hS; go_simp⟩) hHeld ?_
          try simp only [Act.put, List.setIfInBounds_toArray, List.set_cons_zero, List.set_cons_succ]
          refine wpAnyH_take (i := 38) (oi := { dst := some 160, op := Op.indexAddr 28 (Operand.tmp 158) (Operand.tmp 159), type := 0, pos := "law.go:54", after := #[{ on := 36, ground := Ground.data }, { on := 37, ground := Ground.data }, { on := 28, ground := Ground.guard }], guard := some (28, false) }) (v := .pointer (some ⟨b2, o2 + k * 34, none⟩)) rfl (by kernel_rfl) (by kernel_rfl) (by kernel_rfl) (fun _ _ _ h => h) (Or.inl ⟨by rfl, by intro w hS; go_simp⟩) hHeld ?_
          try simp only [Act.put, List.setIfInBounds_toArray, List.set_cons_zero, List.set_cons_succ]
          refine wpAnyH_take (i := 33) (oi := { dst := some 155, op := Op.fieldAddr 54 (Operand.tmp 154) 2, type := 0, pos := "law.go:54", after := #[{ on := 32, ground := Ground.data }, { on := 28, ground := Ground.guard }], guard := some (28, false) }) (v := .pointer (some ⟨b1, o1 + k * 34 + 33, none⟩)) rfl (by kernel_rfl) (by kernel_rfl) (by kernel_rfl) (fun _ _ _ h => h) (Or.inl ⟨by rfl, by intro w hS; go_simp⟩) hHeld ?_
          try simp only [Act.put, List.setIfInBounds_toArray, List.set_cons_zero, List.set_cons_succ]
          refine wpAnyH_take (i := 39) (oi := { dst := some 161, op := Op.fieldAddr 54 (Operand.tmp 160) 2, type := 0, pos := "law.go:54", after := #[{ on := 38, ground := Ground.data }, { on := 28, ground := Ground.guard }], guard := some (28, false) }) (v := .pointer (some ⟨b2, o2 + k * 34 + 33, none⟩)) rfl (by kernel_rfl) (by kernel_rfl) (by kernel_rfl) (fun _ _ _ h => h) (Or.inl ⟨by rfl, by intro w hS; go_simp⟩) hHeld ?_
          try simp only [Act.put, List.setIfInBounds_toArray, List.set_cons_zero, List.set_cons_succ]
          refine wpAnyH_take (i := 34) (oi := { dst := some 156, op := Op.load 22 (Operand.tmp 155), type := 22, pos := "law.go:54", after := #[{ on := 33, ground := Ground.data }, { on := 28, ground := Ground.guard }], guard := some (28, false) }) (v := .slice s1 m p1) rfl (by kernel_rfl) (by kernel_rfl) (by kernel_rfl) (fun _ _ _ h => h) (Or.inl ⟨by rfl, by intro w hS; have hc := cellH hS.2 v1; go_simp⟩) hHeld ?_
          try simp only [Act.put, List.setIfInBounds_toArray, List.set_cons_zero, List.set_cons_succ]
          refine wpAnyH_take (i := 40) (oi := { dst := some 162, op := Op.load 22 (Operand.tmp 161), type := 22, pos := "law.go:54", after := #[{ on := 39, ground := Ground.data }, { on := 28, ground := Ground.guard }], guard := some (28, false) }) (v := .slice s2 m p2) rfl (by kernel_rfl) (by kernel_rfl) (by kernel_rfl) (fun _ _ _ h => h) (Or.inl ⟨by rfl, by intro w hS; have hc := cellH hS.2 v2; go_simp⟩) hHeld ?_
          try simp only [Act.put, List.setIfInBounds_toArray, List.set_cons_zero, List.set_cons_succ]
          refine wpAnyH_ready (rs := [41]) (by kernel_rfl) (by simp) ?_
          refine (AllReadyH.cons (o := { dst := some 163, op := Op.call { callee := Callee.value (Operand.func 24), args := #[Operand.tmp 156, Operand.tmp 162], argTypes := #[22, 22] }, type := 4, pos := "law.go:54", after := #[{ on := 34, ground := Ground.data }, { on := 40, ground := Ground.data }, { on := 28, ground := Ground.chain }, { on := 28, ground := Ground.guard }], guard := some (28, false) }) rfl (fun K hK => ?_) AllReadyH.nil)
          go_simp
          go_at_call 24
          refine (KM.out _ hHeld).mono ?_
          rintro e w4 ⟨rfl, hw4⟩
          subst hw4
          go_wp2_with fail
          refine hK.out _ _ (hHeld) (fun hHeld2 => ?_)
          clear hK K hHeld
          have hHeld := hHeld2
          clear hHeld2
          try simp only [Act.put, List.setIfInBounds_toArray, List.set_cons_zero, List.set_cons_succ]
          refine wpAnyH_take (i := 42) (oi := { dst := some 164, op := Op.unOp UnOp.not 4 (Operand.tmp 163), type := 4, pos := "law.go:54", after := #[{ on := 41, ground := Ground.data }, { on := 28, ground := Ground.guard }], guard := some (28, false) }) (v := .bool false) rfl (by kernel_rfl) (by kernel_rfl) (by kernel_rfl) (fun _ _ _ h => h) (Or.inl ⟨by rfl, by intro w hS; go_simp⟩) hHeld ?_
          try simp only [Act.put, List.setIfInBounds_toArray, List.set_cons_zero, List.set_cons_succ]
          refine wpAnyH_take (i := 43) (oi := { dst := some 165, op := Op.pick (Operand.tmp 150) (Operand.const (Value.bool true)) (Operand.tmp 164), type := 4, pos := "law.go:54", after := #[{ on := 28, ground := Ground.data }, { on := 42, ground := Ground.data }], guard := none }) (v := .bool false) rfl (by kernel_rfl) (by kernel_rfl) (by kernel_rfl) (fun _ _ _ h => h) (Or.inl ⟨by rfl, by intro w hS; go_simp⟩) hHeld ?_
          try simp only [Act.put, List.setIfInBounds_toArray, List.set_cons_zero, List.set_cons_succ]
          refine wpAnyH_done (by kernel_rfl) ?_ _
          refine NoPanic.normal ?_
          clear hx hyy
          go_wp2
          go_roundw
          case rel => exact ⟨k + 1, by omega, by go_num, hHeld.2, hHeld.1⟩
          case measure => simp [intOf]; omega
        · obtain rfl : k = r.chs.length := by omega
          clear hlt'
          go_wp2
          go_ret
          exact ⟨rfl, hB⟩
end Go.Proofs.Ytenfklcgkfaajaa
