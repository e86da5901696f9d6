import Derived.Test.YtaoongjdneaccaaDoorBo3
import Derived.Test.YtaoongjdneaccaaDoorQ2
namespace Go.Proofs.YtaoongjdneaccaaDoor
set_option linter.unusedVariables false
set_option linter.unusedSimpArgs false
open Go.RowKit
attribute [local go_sem ↓] Go.wp_at_zero Go.wp_at_succ

theorem Off.snoc {g : Nat} {L1 L2 L3 L4 : List Value} (h : Off g L1 L2 L3 L4) {x1 x2 x3 x4 : Value} (h1 : x1.ownBlock ≠ some g) (h2 : x2.ownBlock ≠ some g) (h3 : x3.ownBlock ≠ some g) (h4 : x4.ownBlock ≠ some g) : Off g (L1 ++ [x1]) (L2 ++ [x2]) (L3 ++ [x3]) (L4 ++ [x4]) := fun i => by
  obtain ⟨a, b, c, d⟩ := h i
  rw [getD_snoc, getD_snoc, getD_snoc, getD_snoc]
  refine ⟨?_, ?_, ?_, ?_⟩ <;> split <;> assumption
theorem off_fresh {w : World} {base B g : Nat} {v1 v2 v3 v4 : Value} {L1 L2 L3 L4 : List Value} {ns : List Nat} (h : Bk w base B v1 v2 v3 v4 L1 L2 L3 L4 ns) (hg : w.heap.size ≤ g) : Off g L1 L2 L3 L4 := fun i => by
  obtain ⟨l1, l2, l3, l4, hen⟩ := h.en
  by_cases hi : i < ns.length
  · obtain ⟨a, b, c, d⟩ := hen i hi
    exact ⟨fun e => by have := (a.heap g e).1; omega, fun e => by have := (b.heap g e).1; omega, fun e => by have := (c.heap g e).1; omega, fun e => by have := (d.heap g e).1; omega⟩
  · have un : ∀ L : List Value, L.length = ns.length → (L.getD i undef).ownBlock ≠ some g := fun L hl => by
      rw [List.getD_eq_getElem?_getD, List.getElem?_eq_none (by omega)]; simp [undef, Value.ownBlock]
    exact ⟨un L1 l1, un L2 l2, un L3 l3, un L4 l4⟩
/-- What a call of the script leaves of the book. -/
def PL (w : World) (base B : Nat) (v1 v2 v3 v4 : Value) (L1 L2 L3 L4 : List Value) (ns : List Nat) (w' : World) : Prop := ∃ v1' v2' v3' v4' L1' L2' L3' L4' ns',
  Bk w' base B v1' v2' v3' v4' L1' L2' L3' L4' ns' ∧ ns'.length ≤ ns.length + 1 ∧ ((∀ i, ns.getD i 0 ≤ 4000000) → ∀ i, ns'.getD i 0 ≤ 4000000) ∧ At w v1 v1' ∧ At w v2 v2' ∧ At w v3 v3' ∧ At w v4 v4' ∧
  (∀ g, g < w.heap.size → Off g L1 L2 L3 L4 → Off g L1' L2' L3' L4') ∧
  (∀ k, k < w.heap.size → k ≠ B → v1.ownBlock ≠ some k → v2.ownBlock ≠ some k → v3.ownBlock ≠ some k → v4.ownBlock ≠ some k → w'.heap[k]? = w.heap[k]?) ∧ Below base w w'
theorem PL.same {w w' : World} {base B : Nat} {v1 v2 v3 v4 : Value} {L1 L2 L3 L4 : List Value} {ns : List Nat} (h : Bk w base B v1 v2 v3 v4 L1 L2 L3 L4 ns) (hb : Below w.heap.size w w') (hbase : base ≤ w.heap.size) : PL w base B v1 v2 v3 v4 L1 L2 L3 L4 ns w' :=
  ⟨v1, v2, v3, v4, L1, L2, L3, L4, ns, h.below hb, by omega, fun q => q, At.self _ _, At.self _ _, At.self _ _, At.self _ _, fun _ _ q => q, fun k hk _ _ _ _ _ => hb.block k hk, hb.mono hbase⟩
theorem at_old {w w7 : World} {l x : Value} {g : Nat} (hx : At w7 l x) (hg : g < w.heap.size) (hw : w.heap.size ≤ w7.heap.size) (hl : ∀ k, l.ownBlock = some k → w.heap.size ≤ k) : x.ownBlock ≠ some g := fun e => by
  rcases hx with q | ⟨k, q, q2⟩
  · rw [q] at e; have := hl g e; omega
  · rw [q] at e; cases e; omega
theorem PL.put {w w7 w8 : World} {base B n : Nat} {l v1 v2 v3 v4 v1' v2' v3' v4' x2 x3 x4 : Value} {L1 L2 L3 L4 : List Value} {ns : List Nat} (hbase : base ≤ w.heap.size) (hb : Below w.heap.size w w7) (hl : ∀ k, l.ownBlock = some k → w.heap.size ≤ k) (hn : n ≤ 4000000)
    (q : Bk w8 base B v1' v2' v3' v4' (L1 ++ [l]) (L2 ++ [x2]) (L3 ++ [x3]) (L4 ++ [x4]) (ns ++ [n])) (t2 : At w7 l x2) (t3 : At w7 l x3) (t4 : At w7 l x4) (a1 : At w7 v1 v1') (a2 : At w7 v2 v2') (a3 : At w7 v3 v3') (a4 : At w7 v4 v4')
    (fr : ∀ k, k < w7.heap.size → l.ownBlock ≠ some k → k ≠ B → v1.ownBlock ≠ some k → v2.ownBlock ≠ some k → v3.ownBlock ≠ some k → v4.ownBlock ≠ some k → w8.heap[k]? = w7.heap[k]?) (bl : Below base w7 w8) : PL w base B v1 v2 v3 v4 L1 L2 L3 L4 ns w8 := by
  have hsz := hb.size
  refine ⟨_, _, _, _, _, _, _, _, _, q, by simp, fun p i => ?_, fresh_le a1 hsz, fresh_le a2 hsz, fresh_le a3 hsz, fresh_le a4 hsz, fun g hg ho => ho.snoc (fun e => by have := hl g e; omega) (at_old t2 hg hsz hl) (at_old t3 hg hsz hl) (at_old t4 hg hsz hl), fun k k1 k2 k3 k4 k5 k6 => ?_, (hb.mono hbase).trans bl⟩
  · by_cases hi : i < (ns ++ [n]).length
    · rw [getDn_snoc _ _ _ hi]
      split
      · exact hn
      · exact p i
    · rw [List.getD_eq_getElem?_getD, List.getElem?_eq_none (by omega)]; simp
  · rw [fr k (by omega) (fun e => by have := hl k e; omega) k2 k3 k4 k5 k6, hb.block k k1]
/-- A list of bytes that the book does not name, behind put. -/
theorem own_put {w w' : World} {base b2 B : Nat} {l v1 v2 v3 v4 v : Value} {L1 L2 L3 L4 : List Value} {ns : List Nat} {zs : List Int} (h : Bk w base B v1 v2 v3 v4 L1 L2 L3 L4 ns) (hf : ∀ k, k < w.heap.size → l.ownBlock ≠ some k → k ≠ B → v1.ownBlock ≠ some k → v2.ownBlock ≠ some k → v3.ownBlock ≠ some k → v4.ownBlock ≠ some k → w'.heap[k]? = w.heap[k]?) (ho : Own w b2 v zs) (hg : ∀ k, v.ownBlock = some k → l.ownBlock ≠ some k) : Own w' b2 v zs :=
  ho.of_heap fun k e => by
    obtain ⟨q1, cs, q2⟩ := own_heap5 ho k e
    have ns' : ∀ {u : Value} {us : List Value}, OwnS w base u us → u.ownBlock ≠ some k := fun hu e2 => by
      obtain ⟨_, _, x, hx⟩ := hu.heap k e2
      exact ne_of_type q2 hx (by decide) rfl
    exact hf k q1 (hg k e) (ne_of_type q2 h.bk (by decide)) (ns' h.o1) (ns' h.o2) (ns' h.o3) (ns' h.o4)
theorem PL.below {w w' w'' : World} {base B : Nat} {v1 v2 v3 v4 : Value} {L1 L2 L3 L4 : List Value} {ns : List Nat} (h : PL w base B v1 v2 v3 v4 L1 L2 L3 L4 ns w') (hb : Below w'.heap.size w' w'') (hbase : base ≤ w.heap.size) : PL w base B v1 v2 v3 v4 L1 L2 L3 L4 ns w'' := by
  obtain ⟨v1', v2', v3', v4', L1', L2', L3', L4', ns', q1, q2, q3, q4, q5, q6, q7, q8, q9, q10⟩ := h
  have hs := q10.size
  exact ⟨v1', v2', v3', v4', L1', L2', L3', L4', ns', q1.below hb, q2, q3, q4, q5, q6, q7, q8, fun k k1 k2 k3 k4 k5 k6 => by rw [hb.block k (by omega), q9 k k1 k2 k3 k4 k5 k6], q10.trans (hb.mono (by omega))⟩
theorem own_src {w : World} {base n cap : Nat} {sp : Option Addr} {zs : List Int} (h : Own w base (.slice sp n cap) zs) : Src w sp cap zs := by
  obtain ⟨_, _, e, q, _⟩ := h.form
  simp only [Value.slice.injEq] at e
  obtain ⟨rfl, _, rfl⟩ := e
  exact q
set_option maxRecDepth 100000 in
set_option maxHeartbeats 8000000 in
theorem plays_any (w : World) (hGl : Gl w) (base B : Nat) (hbase : base ≤ w.heap.size) (v1 v2 v3 v4 : Value) (L1 L2 L3 L4 : List Value) (ns : List Nat) (h : Bk w base B v1 v2 v3 v4 L1 L2 L3 L4 ns) (hN : ns.length ≤ 4000000000000)
    (ca0 ki pg : Int) (a b : List Int) (a8 : Byts a) (b8 : Byts b) (s : Sup) (sa sb : Option Addr) (ca cb : Nat) (hA : Src w sa ca a) (hB : Src w sb cb b) (hla : a.length ≤ 140737488352000) (hlb : b.length ≤ 140737488352000) :
    Calls Tryd.prog 6 #[.agg (triC ca0 ki pg (.slice sa a.length ca) (.slice sb b.length cb) s), .pointer (some ⟨B, 0, none⟩)] w fun e w' => e = .returned (.bool true) ∧ PL w base B v1 v2 v3 v4 L1 L2 L3 L4 ns w' := by
  have r0 := hnew w (.cells (triC ca0 ki pg (.slice sa a.length ca) (.slice sb b.length cb) s) 33)
  have B1 := below_new w (.cells (triC ca0 ki pg (.slice sa a.length ca) (.slice sb b.length cb) s) 33)
  have C0 := hid (show (w.alloc (.cells (triC ca0 ki pg (.slice sa a.length ca) (.slice sb b.length cb) s) 33)).cell? ⟨w.heap.size, 0, none⟩ = some (.int .i64 ca0) by rw [cell_of_row _ _ _ _ _ _ r0]; rfl)
  have C1 := hid (show (w.alloc (.cells (triC ca0 ki pg (.slice sa a.length ca) (.slice sb b.length cb) s) 33)).cell? ⟨w.heap.size, 1, none⟩ = some (.int .i64 ki) by rw [cell_of_row _ _ _ _ _ _ r0]; rfl)
  have C2 := hid (show (w.alloc (.cells (triC ca0 ki pg (.slice sa a.length ca) (.slice sb b.length cb) s) 33)).cell? ⟨w.heap.size, 2, none⟩ = some (.int .i64 pg) by rw [cell_of_row _ _ _ _ _ _ r0]; rfl)
  have C3 := hid (show (w.alloc (.cells (triC ca0 ki pg (.slice sa a.length ca) (.slice sb b.length cb) s) 33)).cell? ⟨w.heap.size, 3, none⟩ = some (.slice sa a.length ca) by rw [cell_of_row _ _ _ _ _ _ r0]; rfl)
  have C4 := hid (show (w.alloc (.cells (triC ca0 ki pg (.slice sa a.length ca) (.slice sb b.length cb) s) 33)).cell? ⟨w.heap.size, 4, none⟩ = some (.slice sb b.length cb) by rw [cell_of_row _ _ _ _ _ _ r0]; rfl)
  have hA1 := hA.below B1 (Nat.le_refl _)
  have hB1 := hB.below B1 (Nat.le_refl _)
  have G1 := hGl.below B1 hGl.1
  have HG := hid (show w.heap.size < (w.alloc (.cells (triC ca0 ki pg (.slice sa a.length ca) (.slice sb b.length cb) s) 33)).heap.size by simp)
  have RS := hid (sup_range r0)
  have HH := hid h
  have c3 := C3.out
  clear r0 h
  go_enter Tryd.func6, Tryd.ntmps6
  go_wp2_with fail
  refine (copied_any _ a sa ca hA1 (by omega)).mono ?_
  rintro e w1 ⟨x1, rfl, o1, f1⟩
  have c4 := (f1.cell (p := ⟨w.heap.size, 4, none⟩) HG.out).trans C4.out
  have hB2 := hB1.below f1 (Nat.le_refl _)
  generalize hW1 : (w.alloc (.cells (triC ca0 ki pg (.slice sa a.length ca) (.slice sb b.length cb) s) 33)) = W1 at *
  have HW1 := hid hW1
  clear hW1 c3
  generalize hgg : w.heap.size = g at *
  have Hgg := hid hgg
  clear hgg
  go_wp2_with fail
  refine (copied_any _ b sb cb hB2 (by omega)).mono ?_
  rintro e w2 ⟨x2, rfl, o2, f2⟩
  have o1b := o1.below f2 (Nat.le_refl _)
  have F2 := f1.trans (f2.mono f1.size)
  obtain ⟨s1, c1, rfl, q1, _⟩ := o1b.form
  clear c4 hB2 o1
  go_wp2_with fail
  refine (copied_any _ a s1 c1 q1 (by omega)).mono ?_
  rintro e w3 ⟨x3, rfl, o3, f3⟩
  have o1c := o1b.below f3 (Nat.le_refl _)
  have o2c := o2.below f3 (Nat.le_refl _)
  have F3 := F2.trans (f3.mono F2.size)
  obtain ⟨s2, c2, rfl, q2, _⟩ := o2c.form
  clear q1 o1b o2
  go_wp2_with fail
  refine (copied_any _ b s2 c2 q2 (by omega)).mono ?_
  rintro e w4 ⟨x4, rfl, o4, f4⟩
  have P1 := own_up (o1c.below f4 (Nat.le_refl _)) (Nat.le_refl _)
  have P2 := own_up (base := W1.heap.size) (o2c.below f4 (Nat.le_refl _)) f1.size
  have P3 := own_up (base := W1.heap.size) (o3.below f4 (Nat.le_refl _)) F2.size
  have P4 := own_up (base := W1.heap.size) o4 F3.size
  have F4 := F3.trans (f4.mono F3.size)
  obtain ⟨s3, c3, rfl, _, _⟩ := P3.form
  obtain ⟨s4, c4, rfl, _, _⟩ := P4.form
  clear q2 o1c o2c o3 o4 f1 f2 f3 f4 F2 F3 hA1 hB1
  have G4 := G1.below F4 G1.1
  have d0 := (F4.cell (p := ⟨g, 0, none⟩) HG.out).trans C0.out
  have d1 := (F4.cell (p := ⟨g, 1, none⟩) HG.out).trans C1.out
  have d2 := (F4.cell (p := ⟨g, 2, none⟩) HG.out).trans C2.out
  have KC := hid (fun (wz : World) (hz : Below W1.heap.size W1 wz) => And.intro ((hz.cell (p := ⟨g, 1, none⟩) HG.out).trans C1.out) ((hz.cell (p := ⟨g, 2, none⟩) HG.out).trans C2.out))
  have KR := hid (fun (wz : World) (hz : Below W1.heap.size W1 wz) => show wz.rangeAt g 5 (supC s).toList from fun j v hv => (hz.cell (p := ⟨g, 5 + j, none⟩) HG.out).trans (RS.out j v hv))
  have KSU := hid (show (Tryd.prog.info? 31).map (·.size) = some (supC s).toList.length by rw [size_super]; rfl)
  have KF := hid (fun (wz : World) (hz : Below W1.heap.size W1 wz) => show Below w.heap.size w wz from Hgg.out ▸ (B1.trans (hz.mono (Nat.le_of_lt HG.out))))
  clear C0 C1 C2 C3 C4
  by_cases h0 : ca0 = 0
  · subst h0
    have KP := hid (pack_any w4 ki pg a a8 s3 c3 (own_src P3))
    have KQ := hid (fun (wz : World) (hz : Gl wz) (hs : Src wz s1 c1 a) => qPack_any wz hz ki pg a a8 s1 c1 hs)
    have HN := hid (packF_len ki pg a)
    generalize packF ki pg a = P at *
    obtain ⟨L, E⟩ := P
    simp only at KP KQ HN
    go_wp2_with fail
    refine (KP.out).mono ?_
    rintro e w5 ⟨l5, rfl, n5, f5⟩
    have F5 := F4.trans (f5.mono F4.size)
    have o5 := new_own n5 HN.out
    obtain ⟨sl, cl, rfl, q5, _⟩ := o5.form
    have P1b := P1.below f5 (Nat.le_refl _)
    have G5 := G1.below F5 G1.1
    obtain ⟨d1', d2'⟩ := KC.out _ F5
    go_wp2_with fail
    refine (KQ.out _ G5 (own_src P1b)).mono ?_
    rintro e w6 ⟨m6, rfl, o6, f6⟩
    obtain ⟨sm, cm, rfl, q6, _⟩ := o6.form
    have F6 := F5.trans (f6.mono F5.size)
    go_wp2_with fail
    refine (same_any w6 L L sl sm cl cm (q5.below f6 (Nat.le_refl _)) q6).mono ?_
    rintro e w7 ⟨rfl, f7⟩
    rw [show decide (L = L) = true by simp]
    have F7 := F6.trans (f7.mono F6.size)
    have F47 := ((f5.mono (Nat.le_refl _)).trans (f6.mono f5.size)).trans (f7.mono (Nat.le_trans f5.size f6.size))
    have hl := fun k e => (o5.block k e).1
    have HB7 := HH.out.below (KF.out _ F7)
    have o7 := (o5.below f6 (Nat.le_refl _)).below f7 (Nat.le_refl _)
    have hz4 := F4.size
    have hzg := HG.out
    go_wp2_with fail
    refine (put_any _ base B v1 v2 v3 v4 L1 L2 L3 L4 ns HB7 hN _ _ _ (own_up o7 (by omega)) rfl (by have := HN.out; omega) (fun k e => off_fresh HH.out (by have := hl k e; rw [Hgg.out]; omega))).mono ?_
    rintro e w8 ⟨rfl, v1', v2', v3', v4', y2, y3, y4, qb, t2, t3, t4, t5, t6, t7, t8, fr, bl⟩
    have PL8 : PL w base B v1 v2 v3 v4 L1 L2 L3 L4 ns w8 := PL.put (by rw [Hgg.out]; exact hbase) (KF.out _ F7) (fun k e => by have := hl k e; rw [Hgg.out]; omega) (by have := HN.out; omega) qb t2 t3 t4 t5 t6 t7 t8 fr bl
    have R1 := own_put HB7 fr (P1.below F47 (Nat.le_refl _)) (fun k e e2 => by have := (P1.block k e).2; have := hl k e2; omega)
    have R2 := own_put HB7 fr (P2.below F47 (Nat.le_refl _)) (fun k e e2 => by have := (P2.block k e).2; have := hl k e2; omega)
    have R3 := own_put HB7 fr (P3.below F47 (Nat.le_refl _)) (fun k e e2 => by have := (P3.block k e).2; have := hl k e2; omega)
    have R4 := own_put HB7 fr (P4.below F47 (Nat.le_refl _)) (fun k e e2 => by have := (P4.block k e).2; have := hl k e2; omega)
    clear qb t2 t3 t4 t5 t6 t7 t8 fr bl HB7 o7 q5 q6
    go_wp2_with fail
    refine (same_any _ a a _ _ _ _ (own_src R1) (own_src R3)).mono ?_
    rintro e w9 ⟨rfl, b9⟩
    rw [show decide (a = a) = true by simp]
    have S2' := (own_src R2).below b9 (Nat.le_refl _)
    have S4' := (own_src R4).below b9 (Nat.le_refl _)
    go_wp2_with fail
    refine (same_any _ b b _ _ _ _ S2' S4').mono ?_
    rintro e w10 ⟨rfl, b10⟩
    rw [show decide (b = b) = true by simp]
    go_wp2
    go_ret
    exact ⟨rfl, PL8.below (b9.trans (b10.mono b9.size)) (by rw [Hgg.out]; exact hbase)⟩
  by_cases h1 : ca0 = 1
  · subst h1
    clear h0
    have KP := hid (unpack_any w4 pg a a8 s3 c3 (own_src P3))
    have KQ := hid (fun (wz : World) (hz : Gl wz) (hs : Src wz s1 c1 a) => qUnpack_any wz hz pg a a8 s1 c1 hs)
    have HN := hid (unpackF_len pg a)
    generalize unpackF pg a = P at *
    obtain ⟨K, L, E⟩ := P
    simp only at KP KQ HN
    go_wp2_with fail
    refine (KP.out).mono ?_
    rintro e w5 ⟨l5, rfl, o5, f5⟩
    have F5 := F4.trans (f5.mono F4.size)
    have o5 := o5
    obtain ⟨sl, cl, rfl, q5, _⟩ := o5.form
    have P1b := P1.below f5 (Nat.le_refl _)
    have G5 := G1.below F5 G1.1
    obtain ⟨d1', d2'⟩ := KC.out _ F5
    go_wp2_with fail
    refine (KQ.out _ G5 (own_src P1b)).mono ?_
    rintro e w6 ⟨m6, rfl, o6, f6⟩
    obtain ⟨sm, cm, rfl, q6, _⟩ := o6.form
    have F6 := F5.trans (f6.mono F5.size)
    go_wp2_with fail
    refine (same_any w6 L L sl sm cl cm (q5.below f6 (Nat.le_refl _)) q6).mono ?_
    rintro e w7 ⟨rfl, f7⟩
    rw [show decide (L = L) = true by simp]
    have F7 := F6.trans (f7.mono F6.size)
    have F47 := ((f5.mono (Nat.le_refl _)).trans (f6.mono f5.size)).trans (f7.mono (Nat.le_trans f5.size f6.size))
    have hl := fun k e => (o5.block k e).1
    have HB7 := HH.out.below (KF.out _ F7)
    have o7 := (o5.below f6 (Nat.le_refl _)).below f7 (Nat.le_refl _)
    have hz4 := F4.size
    have hzg := HG.out
    go_wp2_with fail
    refine (put_any _ base B v1 v2 v3 v4 L1 L2 L3 L4 ns HB7 hN _ _ _ (own_up o7 (by omega)) rfl (by have := HN.out; omega) (fun k e => off_fresh HH.out (by have := hl k e; rw [Hgg.out]; omega))).mono ?_
    rintro e w8 ⟨rfl, v1', v2', v3', v4', y2, y3, y4, qb, t2, t3, t4, t5, t6, t7, t8, fr, bl⟩
    have PL8 : PL w base B v1 v2 v3 v4 L1 L2 L3 L4 ns w8 := PL.put (by rw [Hgg.out]; exact hbase) (KF.out _ F7) (fun k e => by have := hl k e; rw [Hgg.out]; omega) (by have := HN.out; omega) qb t2 t3 t4 t5 t6 t7 t8 fr bl
    have R1 := own_put HB7 fr (P1.below F47 (Nat.le_refl _)) (fun k e e2 => by have := (P1.block k e).2; have := hl k e2; omega)
    have R2 := own_put HB7 fr (P2.below F47 (Nat.le_refl _)) (fun k e e2 => by have := (P2.block k e).2; have := hl k e2; omega)
    have R3 := own_put HB7 fr (P3.below F47 (Nat.le_refl _)) (fun k e e2 => by have := (P3.block k e).2; have := hl k e2; omega)
    have R4 := own_put HB7 fr (P4.below F47 (Nat.le_refl _)) (fun k e e2 => by have := (P4.block k e).2; have := hl k e2; omega)
    clear qb t2 t3 t4 t5 t6 t7 t8 fr bl HB7 o7 q5 q6
    go_wp2_with fail
    refine (same_any _ a a _ _ _ _ (own_src R1) (own_src R3)).mono ?_
    rintro e w9 ⟨rfl, b9⟩
    rw [show decide (a = a) = true by simp]
    have S2' := (own_src R2).below b9 (Nat.le_refl _)
    have S4' := (own_src R4).below b9 (Nat.le_refl _)
    go_wp2_with fail
    refine (same_any _ b b _ _ _ _ S2' S4').mono ?_
    rintro e w10 ⟨rfl, b10⟩
    rw [show decide (b = b) = true by simp]
    go_wp2
    go_ret
    exact ⟨rfl, PL8.below (b9.trans (b10.mono b9.size)) (by rw [Hgg.out]; exact hbase)⟩
  by_cases h2 : ca0 = 2
  · subst h2
    clear h0 h1
    have KP := hid (packSuper_any w4 s)
    have KQ := hid (fun (wz : World) (hz : Gl wz) => qPackSuper_any wz hz s)
    have HN := hid (superF_len s)
    have RS4 := KR.out _ F4
    generalize superF s = P at *
    obtain ⟨L, E⟩ := P
    simp only at KP KQ HN
    go_wp2_with (first | (refine wpList_load_mid_w (by rfl) 31 (.tmp 112) (by rfl) g 5 (by rfl) (supC s).toList _ (by exact RS4) Tryd.underlying31 rfl KSU.out ?_))
    refine (KP.out).mono ?_
    rintro e w5 ⟨l5, rfl, n5, f5⟩
    have F5 := F4.trans (f5.mono F4.size)
    have o5 := new_own n5 HN.out
    obtain ⟨sl, cl, rfl, q5, _⟩ := o5.form
    have P1b := P1.below f5 (Nat.le_refl _)
    have G5 := G1.below F5 G1.1
    have RS5 := KR.out _ F5
    go_wp2_with (first | (refine wpList_load_mid_w (by rfl) 31 (.tmp 118) (by rfl) g 5 (by rfl) (supC s).toList _ (by exact RS5) Tryd.underlying31 rfl KSU.out ?_))
    refine (KQ.out _ G5).mono ?_
    rintro e w6 ⟨m6, rfl, o6, f6⟩
    obtain ⟨sm, cm, rfl, q6, _⟩ := o6.form
    have F6 := F5.trans (f6.mono F5.size)
    go_wp2_with fail
    refine (same_any w6 L L sl sm cl cm (q5.below f6 (Nat.le_refl _)) q6).mono ?_
    rintro e w7 ⟨rfl, f7⟩
    rw [show decide (L = L) = true by simp]
    have F7 := F6.trans (f7.mono F6.size)
    have F47 := ((f5.mono (Nat.le_refl _)).trans (f6.mono f5.size)).trans (f7.mono (Nat.le_trans f5.size f6.size))
    have hl := fun k e => (o5.block k e).1
    have HB7 := HH.out.below (KF.out _ F7)
    have o7 := (o5.below f6 (Nat.le_refl _)).below f7 (Nat.le_refl _)
    have hz4 := F4.size
    have hzg := HG.out
    go_wp2_with fail
    refine (put_any _ base B v1 v2 v3 v4 L1 L2 L3 L4 ns HB7 hN _ _ _ (own_up o7 (by omega)) rfl (by have := HN.out; omega) (fun k e => off_fresh HH.out (by have := hl k e; rw [Hgg.out]; omega))).mono ?_
    rintro e w8 ⟨rfl, v1', v2', v3', v4', y2, y3, y4, qb, t2, t3, t4, t5, t6, t7, t8, fr, bl⟩
    have PL8 : PL w base B v1 v2 v3 v4 L1 L2 L3 L4 ns w8 := PL.put (by rw [Hgg.out]; exact hbase) (KF.out _ F7) (fun k e => by have := hl k e; rw [Hgg.out]; omega) (by have := HN.out; omega) qb t2 t3 t4 t5 t6 t7 t8 fr bl
    have R1 := own_put HB7 fr (P1.below F47 (Nat.le_refl _)) (fun k e e2 => by have := (P1.block k e).2; have := hl k e2; omega)
    have R2 := own_put HB7 fr (P2.below F47 (Nat.le_refl _)) (fun k e e2 => by have := (P2.block k e).2; have := hl k e2; omega)
    have R3 := own_put HB7 fr (P3.below F47 (Nat.le_refl _)) (fun k e e2 => by have := (P3.block k e).2; have := hl k e2; omega)
    have R4 := own_put HB7 fr (P4.below F47 (Nat.le_refl _)) (fun k e e2 => by have := (P4.block k e).2; have := hl k e2; omega)
    clear qb t2 t3 t4 t5 t6 t7 t8 fr bl HB7 o7 q5 q6
    go_wp2_with fail
    refine (same_any _ a a _ _ _ _ (own_src R1) (own_src R3)).mono ?_
    rintro e w9 ⟨rfl, b9⟩
    rw [show decide (a = a) = true by simp]
    have S2' := (own_src R2).below b9 (Nat.le_refl _)
    have S4' := (own_src R4).below b9 (Nat.le_refl _)
    go_wp2_with fail
    refine (same_any _ b b _ _ _ _ S2' S4').mono ?_
    rintro e w10 ⟨rfl, b10⟩
    rw [show decide (b = b) = true by simp]
    go_wp2
    go_ret
    exact ⟨rfl, PL8.below (b9.trans (b10.mono b9.size)) (by rw [Hgg.out]; exact hbase)⟩
  by_cases h3 : ca0 = 3
  · subst h3
    clear h0 h1 h2
    have KP := hid (unSuper_any w4 a a8 s3 c3 (own_src P3))
    have KQ := hid (fun (wz : World) (hz : Gl wz) (hs : Src wz s1 c1 a) => qUnSuper_any wz hz a a8 s1 c1 hs)
    generalize unSuperF a = P at *
    obtain ⟨x, E⟩ := P
    simp only at KP KQ
    have KE : ∀ w, (Op.equalIn 10000 31 (.agg (supC x)) (.agg (supC x))).run Tryd.prog w = .ok true w := fun w => by
      have := eqSup5 x x w; rwa [show decide (x = x) = true by simp] at this
    have KG := guardU5
    go_wp2_with fail
    refine (KP.out).mono ?_
    rintro e w5 ⟨rfl, f5⟩
    have rX := hnew w5 (.cells (supC x) 31)
    have f5b := f5.trans ((below_new w5 (.cells (supC x) 31)).mono f5.size)
    have F5 := F4.trans (f5b.mono F4.size)
    have G5 := G1.below F5 G1.1
    have P1b := P1.below f5b (Nat.le_refl _)
    have P2b := P2.below f5b (Nat.le_refl _)
    have P3b := P3.below f5b (Nat.le_refl _)
    have P4b := P4.below f5b (Nat.le_refl _)
    clear f5 f5b P1 P2 P3 P4 d0 d1 d2
    go_wp2_with (first
      | (refine wpList_store_row (by rfl) 31 (.tmp 24) (.tmp 139) (by rfl) w5.heap.size (supC x) (by rfl) (by rfl) 31 _ (by exact hnew _ _) (supN0 x) (supZ5 x) (supO0 x) ?_; rw [setRow_alloc]; generalize w5.alloc (.cells (supC x) 31) = w6 at *; generalize w5.heap.size = G7 at *))
    refine (KQ.out _ G5 (own_src P1b)).mono ?_
    rintro e w7 ⟨rfl, f7⟩
    have rY := hnew w7 (.cells (supC x) 31)
    have f7b := f7.trans ((below_new w7 (.cells (supC x) 31)).mono f7.size)
    have F7 := F5.trans (f7b.mono F5.size)
    have R1 := P1b.below f7b (Nat.le_refl _)
    have R2 := P2b.below f7b (Nat.le_refl _)
    have R3 := P3b.below f7b (Nat.le_refl _)
    have R4 := P4b.below f7b (Nat.le_refl _)
    replace rX := hbel f7b rX (hlt rX)
    clear f7 f7b P1b P2b P3b P4b
    have PL8 : PL w base B v1 v2 v3 v4 L1 L2 L3 L4 ns (w7.alloc (.cells (supC x) 31)) := PL.same HH.out (KF.out _ F7) (by rw [Hgg.out]; exact hbase)
    have SS1 := own_src R1
    have SS3 := own_src R3
    have R2' := hid R2
    have R4' := hid R4
    go_wp2_with (first
      | (refine wpList_store_row (by rfl) 31 (.tmp 26) (.tmp 144) (by rfl) w7.heap.size (supC x) (by rfl) (by rfl) 31 _ (by exact hnew _ _) (supN0 x) (supZ5 x) (supO0 x) ?_; rw [setRow_alloc]; generalize w7.alloc (.cells (supC x) 31) = w8 at *; generalize w7.heap.size = G9 at *)
      | (refine wpList_load_row_w (by rfl) 31 (.tmp 24) (by rfl) G7 (by rfl) 31 (supC x) (0, 0) _ (by exact rX) Tryd.underlying31 rfl (supN0 x) ?_)
      | (refine wpList_load_row_w (by rfl) 31 (.tmp 26) (by rfl) G9 (by rfl) 31 (supC x) (0, 0) _ (by exact rY) Tryd.underlying31 rfl (supN0 x) ?_))
    refine (same_any _ a a _ _ _ _ (own_src R1) (own_src R3)).mono ?_
    rintro e w9 ⟨rfl, b9⟩
    rw [show decide (a = a) = true by simp]
    have S2' := (own_src R2).below b9 (Nat.le_refl _)
    have S4' := (own_src R4).below b9 (Nat.le_refl _)
    go_wp2_with fail
    refine (same_any _ b b _ _ _ _ S2' S4').mono ?_
    rintro e w10 ⟨rfl, b10⟩
    rw [show decide (b = b) = true by simp]
    go_wp2
    go_ret
    exact ⟨rfl, PL8.below (b9.trans (b10.mono b9.size)) (by rw [Hgg.out]; exact hbase)⟩
  by_cases h4 : ca0 = 4
  · subst h4
    clear h0 h1 h2 h3
    have KP := hid (choose_any w4 a b a8 b8 s3 s4 c3 c4 (own_src P3) (own_src P4))
    have KQ := hid (fun (wz : World) (hz : Gl wz) (hs : Src wz s1 c1 a) (hs2 : Src wz s2 c2 b) => qChoose_any wz hz a b a8 b8 s1 s2 c1 c2 hs hs2)
    generalize chooseF a b = P at *
    obtain ⟨x, E⟩ := P
    simp only at KP KQ
    have KE : ∀ w, (Op.equalIn 10000 31 (.agg (supC x)) (.agg (supC x))).run Tryd.prog w = .ok true w := fun w => by
      have := eqSup5 x x w; rwa [show decide (x = x) = true by simp] at this
    have KG := guardU5
    go_wp2_with fail
    refine (KP.out).mono ?_
    rintro e w5 ⟨rfl, f5⟩
    have rX := hnew w5 (.cells (supC x) 31)
    have f5b := f5.trans ((below_new w5 (.cells (supC x) 31)).mono f5.size)
    have F5 := F4.trans (f5b.mono F4.size)
    have G5 := G1.below F5 G1.1
    have P1b := P1.below f5b (Nat.le_refl _)
    have P2b := P2.below f5b (Nat.le_refl _)
    have P3b := P3.below f5b (Nat.le_refl _)
    have P4b := P4.below f5b (Nat.le_refl _)
    clear f5 f5b P1 P2 P3 P4 d0 d1 d2
    go_wp2_with (first
      | (refine wpList_store_row (by rfl) 31 (.tmp 28) (.tmp 160) (by rfl) w5.heap.size (supC x) (by rfl) (by rfl) 31 _ (by exact hnew _ _) (supN0 x) (supZ5 x) (supO0 x) ?_; rw [setRow_alloc]; generalize w5.alloc (.cells (supC x) 31) = w6 at *; generalize w5.heap.size = G7 at *))
    refine (KQ.out _ G5 (own_src P1b) (own_src P2b)).mono ?_
    rintro e w7 ⟨rfl, f7⟩
    have rY := hnew w7 (.cells (supC x) 31)
    have f7b := f7.trans ((below_new w7 (.cells (supC x) 31)).mono f7.size)
    have F7 := F5.trans (f7b.mono F5.size)
    have R1 := P1b.below f7b (Nat.le_refl _)
    have R2 := P2b.below f7b (Nat.le_refl _)
    have R3 := P3b.below f7b (Nat.le_refl _)
    have R4 := P4b.below f7b (Nat.le_refl _)
    replace rX := hbel f7b rX (hlt rX)
    clear f7 f7b P1b P2b P3b P4b
    have PL8 : PL w base B v1 v2 v3 v4 L1 L2 L3 L4 ns (w7.alloc (.cells (supC x) 31)) := PL.same HH.out (KF.out _ F7) (by rw [Hgg.out]; exact hbase)
    have SS1 := own_src R1
    have SS3 := own_src R3
    have R2' := hid R2
    have R4' := hid R4
    go_wp2_with (first
      | (refine wpList_store_row (by rfl) 31 (.tmp 30) (.tmp 166) (by rfl) w7.heap.size (supC x) (by rfl) (by rfl) 31 _ (by exact hnew _ _) (supN0 x) (supZ5 x) (supO0 x) ?_; rw [setRow_alloc]; generalize w7.alloc (.cells (supC x) 31) = w8 at *; generalize w7.heap.size = G9 at *)
      | (refine wpList_load_row_w (by rfl) 31 (.tmp 28) (by rfl) G7 (by rfl) 31 (supC x) (0, 0) _ (by exact rX) Tryd.underlying31 rfl (supN0 x) ?_)
      | (refine wpList_load_row_w (by rfl) 31 (.tmp 30) (by rfl) G9 (by rfl) 31 (supC x) (0, 0) _ (by exact rY) Tryd.underlying31 rfl (supN0 x) ?_))
    refine (same_any _ a a _ _ _ _ (own_src R1) (own_src R3)).mono ?_
    rintro e w9 ⟨rfl, b9⟩
    rw [show decide (a = a) = true by simp]
    have S2' := (own_src R2).below b9 (Nat.le_refl _)
    have S4' := (own_src R4).below b9 (Nat.le_refl _)
    go_wp2_with fail
    refine (same_any _ b b _ _ _ _ S2' S4').mono ?_
    rintro e w10 ⟨rfl, b10⟩
    rw [show decide (b = b) = true by simp]
    go_wp2
    go_ret
    exact ⟨rfl, PL8.below (b9.trans (b10.mono b9.size)) (by rw [Hgg.out]; exact hbase)⟩
  · have PL8 : PL w base B v1 v2 v3 v4 L1 L2 L3 L4 ns w4 := PL.same HH.out (KF.out _ F4) (by rw [Hgg.out]; exact hbase)
    have R1 := P1
    have R2 := P2
    have R3 := P3
    have R4 := P4
    clear P1 P2 P3 P4
    go_wp2_with fail
    refine (same_any _ a a _ _ _ _ (own_src R1) (own_src R3)).mono ?_
    rintro e w9 ⟨rfl, b9⟩
    rw [show decide (a = a) = true by simp]
    have S2' := (own_src R2).below b9 (Nat.le_refl _)
    have S4' := (own_src R4).below b9 (Nat.le_refl _)
    go_wp2_with fail
    refine (same_any _ b b _ _ _ _ S2' S4').mono ?_
    rintro e w10 ⟨rfl, b10⟩
    rw [show decide (b = b) = true by simp]
    go_wp2
    go_ret
    exact ⟨rfl, PL8.below (b9.trans (b10.mono b9.size)) (by rw [Hgg.out]; exact hbase)⟩
end Go.Proofs.YtaoongjdneaccaaDoor
