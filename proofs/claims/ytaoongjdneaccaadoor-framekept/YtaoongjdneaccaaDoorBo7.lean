import Derived.Test.YtaoongjdneaccaaDoorLb5
import Derived.Test.YtaoongjdneaccaaDoorBo6
import Derived.Deep.Slices
namespace Go.Proofs.YtaoongjdneaccaaDoor
set_option linter.unusedVariables false
set_option linter.unusedSimpArgs false
open Go.ChangeShapes Go.WideShapes Go.ChangeAt Go.RowKit

instance : Inhabited Tri := ⟨tri0⟩
/-- No slice in it is beyond the reach. -/
def WS {H : Type} (t : TypeId) (d : DataW H) : Prop := ∀ n ∈ d.weights Tryd.prog t, n ≤ reachBytes
theorem weightsAll_mem {H : Type} {P : Program} {e : TypeId} : ∀ {l : List (DataW H)} {d : DataW H}, d ∈ l → ∀ n ∈ d.weights P e, n ∈ DataW.weightsAll P e l
  | x :: l, d, hd, n, hn => by
    simp only [DataW.weightsAll, List.mem_append]
    rcases List.mem_cons.1 hd with rfl | h
    · exact Or.inl hn
    · exact Or.inr (weightsAll_mem h n hn)
theorem WS.slice {H : Type} {t e : TypeId} {el sp : List (DataW H)} (hu : Tryd.prog.underlying t = some (.slice e)) (h : WS t (.slice el sp)) : (el.length + sp.length) * Tryd.prog.bytesOf e ≤ reachBytes ∧ ∀ d ∈ el, WS e d :=
  ⟨h _ (by simp [DataW.weights, hu]), fun d hd n hn => h n (by
    simp only [DataW.weights, hu, List.mem_cons, List.mem_append]
    exact Or.inr (Or.inl (weightsAll_mem hd n hn)))⟩
theorem WS.field {H : Type} {t : TypeId} {fs : Array Field} {ds : List (DataW H)} (hu : Tryd.prog.underlying t = some (.struct fs)) (h : WS t (.agg ds)) {j : Nat} {f : Field} {d : DataW H} (hf : fs[j]? = some f) (hd : ds[j]? = some d) : WS f.type d :=
  fun n hn => h n (by
    simp only [DataW.weights, hu]
    exact DataW.weights_mem_each (by rw [List.getElem?_map]; simp [hf]) hd n hn)
section
variable {H : Type} {enc : TypeId × Value → H} {W : World}
theorem open_bytesN {fuel : Nat} {v : Value} {d : DataW H} {p : List MemPlace} (hw : WS 29 d) (hf : DataW.trod enc Tryd.prog W 0 (fun _ => true) true fuel 29 [v] = some (d, p)) :
    ∃ (zs : List Int) (sp : Option Addr) (cap : Nat), v = .slice sp zs.length cap ∧ Byts zs ∧ Src W sp cap zs ∧ (sp = none → cap = 0) ∧ zs.length ≤ 140737488352000 := by
  rcases open_ints Tryd.underlying29 Tryd.underlying5 cells5 hf with ⟨hcs, hx⟩ | ⟨a, len, cap, zs, hcs, _, hl, hm, hz, hx, hcell, hwz⟩
  · simp at hcs
    subst hcs
    exact ⟨[], none, 0, rfl, fun x hx => by simp at hx, Src.nil W, fun _ => rfl, by simp⟩
  · simp at hcs
    subst hcs
    have hzl : zs.length = cap := by simpa using hz
    have hll : (zs.take len).length = len := by rw [List.length_take]; omega
    refine ⟨zs.take len, some a, cap, by rw [hll], fun x hx => ?_, ⟨by rw [hll]; exact hl, hm, ?_⟩, (fun h => by cases h), ?_⟩
    · have := bounds_u8 (hwz x (List.mem_of_mem_take hx))
      omega
    · rw [hll]
      by_cases hL : 0 < len
      · have hc0 := hcell 0 (by omega)
        have hsp : a.spot = none := by have := World.cell?_spot hc0; unfold Addr.add at this; split at this <;> simp_all
        obtain ⟨b, o, spot⟩ := a
        obtain rfl : spot = none := hsp
        refine ⟨b, o, fun _ => by have := block_lt_of_cell hc0; rwa [Addr.add_mid] at this, fun _ => rfl, fun j hj => ?_⟩
        have := hcell j (by omega)
        rw [Addr.add_mid] at this
        rw [this]
        congr 2
        simp [List.getElem?_take, hj]
      · exact ⟨0, 0, fun h => by omega, fun h => by omega, fun j hj => by omega⟩
    · rw [hll]
      simp only [Prod.mk.injEq] at hx
      rw [hx.1] at hw
      have := (hw.slice Tryd.underlying29).1
      rw [Tryd.bytes5] at this
      simp [lits, reachBytes] at this
      omega
/-- A call of the script that came in. -/
def TrIn (W : World) (nd : List Value) (q : Tri) : Prop := ∃ sa ca sb cb, nd = triL q.ca q.ki q.pg (.slice sa q.a.length ca) (.slice sb q.b.length cb) q.s ∧ Src W sa ca q.a ∧ Src W sb cb q.b ∧ Byts q.a ∧ Byts q.b ∧ q.a.length ≤ 140737488352000 ∧ q.b.length ≤ 140737488352000
set_option maxRecDepth 100000 in
theorem open_try {fuel : Nat} {nd : List Value} {x : DataW H × List MemPlace} (hd : WS 33 x.1) (hnl : nd.length = 10) (h2 : DataW.trod enc Tryd.prog W 0 (fun _ => true) true fuel 33 nd = some x) : ∃ q : Tri, TrIn W nd q := by
  obtain ⟨xs, k, _, hxy, _, hxl, hfd⟩ := DataW.trod_struct (x := x) Tryd.underlying33 h2
  have hxl' : xs.length = 6 := hxl
  rw [hxy] at hd
  match nd, hnl with
  | [z0, z1, z2, z3, z4, z5, z6, z7, z8, z9], _ =>
    have g0 : DataW.trod enc Tryd.prog W 0 (fun _ => true) true k 3 [z0] = some xs[0] := by
      have := hfd 0 _ rfl
      rw [List.getElem?_eq_getElem (by omega)] at this
      change DataW.trod enc Tryd.prog W 0 (fun _ => true) true k 3 (([z0, z1, z2, z3, z4, z5, z6, z7, z8, z9].drop 0).take (Tryd.prog.cellsOf 3)) = _ at this
      rw [show Tryd.prog.cellsOf 3 = 1 by kernel_rfl] at this; exact this
    have g1 : DataW.trod enc Tryd.prog W 0 (fun _ => true) true k 3 [z1] = some xs[1] := by
      have := hfd 1 _ rfl
      rw [List.getElem?_eq_getElem (by omega)] at this
      change DataW.trod enc Tryd.prog W 0 (fun _ => true) true k 3 (([z0, z1, z2, z3, z4, z5, z6, z7, z8, z9].drop 1).take (Tryd.prog.cellsOf 3)) = _ at this
      rw [show Tryd.prog.cellsOf 3 = 1 by kernel_rfl] at this; exact this
    have g2 : DataW.trod enc Tryd.prog W 0 (fun _ => true) true k 3 [z2] = some xs[2] := by
      have := hfd 2 _ rfl
      rw [List.getElem?_eq_getElem (by omega)] at this
      change DataW.trod enc Tryd.prog W 0 (fun _ => true) true k 3 (([z0, z1, z2, z3, z4, z5, z6, z7, z8, z9].drop 2).take (Tryd.prog.cellsOf 3)) = _ at this
      rw [show Tryd.prog.cellsOf 3 = 1 by kernel_rfl] at this; exact this
    have g3 : DataW.trod enc Tryd.prog W 0 (fun _ => true) true k 29 [z3] = some xs[3] := by
      have := hfd 3 _ rfl
      rw [List.getElem?_eq_getElem (by omega)] at this
      change DataW.trod enc Tryd.prog W 0 (fun _ => true) true k 29 (([z0, z1, z2, z3, z4, z5, z6, z7, z8, z9].drop 3).take (Tryd.prog.cellsOf 29)) = _ at this
      rw [show Tryd.prog.cellsOf 29 = 1 by kernel_rfl] at this; exact this
    have g4 : DataW.trod enc Tryd.prog W 0 (fun _ => true) true k 29 [z4] = some xs[4] := by
      have := hfd 4 _ rfl
      rw [List.getElem?_eq_getElem (by omega)] at this
      change DataW.trod enc Tryd.prog W 0 (fun _ => true) true k 29 (([z0, z1, z2, z3, z4, z5, z6, z7, z8, z9].drop 4).take (Tryd.prog.cellsOf 29)) = _ at this
      rw [show Tryd.prog.cellsOf 29 = 1 by kernel_rfl] at this; exact this
    have g5 : DataW.trod enc Tryd.prog W 0 (fun _ => true) true k 31 [z5, z6, z7, z8, z9] = some xs[5] := by
      have := hfd 5 _ rfl
      rw [List.getElem?_eq_getElem (by omega)] at this
      change DataW.trod enc Tryd.prog W 0 (fun _ => true) true k 31 (([z0, z1, z2, z3, z4, z5, z6, z7, z8, z9].drop 5).take (Tryd.prog.cellsOf 31)) = _ at this
      rw [show Tryd.prog.cellsOf 31 = 5 by kernel_rfl] at this; exact this
    obtain ⟨y0, e0, _, w0⟩ := DataW.trod_int Tryd.underlying3 g0
    obtain ⟨y1, e1, _, w1⟩ := DataW.trod_int Tryd.underlying3 g1
    obtain ⟨y2, e2, _, w2⟩ := DataW.trod_int Tryd.underlying3 g2
    obtain ⟨a, sa, ca, e3, ya, hA, _, la⟩ := open_bytesN (d := (xs[3]).1) (p := (xs[3]).2) (hd.field Tryd.underlying33 (j := 3) rfl (by rw [List.getElem?_map, List.getElem?_eq_getElem (by omega)]; rfl)) g3
    obtain ⟨b, sb, cb, e4, yb, hB, _, lb⟩ := open_bytesN (d := (xs[4]).1) (p := (xs[4]).2) (hd.field Tryd.underlying33 (j := 4) rfl (by rw [List.getElem?_map, List.getElem?_eq_getElem (by omega)]; rfl)) g4
    obtain ⟨ys, k5, _, _, _, hyl, hf5⟩ := DataW.trod_struct (x := xs[5]) Tryd.underlying31 g5
    have hyl' : ys.length = 5 := hyl
    have s0 : DataW.trod enc Tryd.prog W 0 (fun _ => true) true k5 3 [z5] = some ys[0] := by
      have := hf5 0 _ rfl
      rw [List.getElem?_eq_getElem (by omega)] at this
      change DataW.trod enc Tryd.prog W 0 (fun _ => true) true k5 3 (([z5, z6, z7, z8, z9].drop 0).take (Tryd.prog.cellsOf 3)) = _ at this
      rw [show Tryd.prog.cellsOf 3 = 1 by kernel_rfl] at this; exact this
    have s1 : DataW.trod enc Tryd.prog W 0 (fun _ => true) true k5 3 [z6] = some ys[1] := by
      have := hf5 1 _ rfl
      rw [List.getElem?_eq_getElem (by omega)] at this
      change DataW.trod enc Tryd.prog W 0 (fun _ => true) true k5 3 (([z5, z6, z7, z8, z9].drop 1).take (Tryd.prog.cellsOf 3)) = _ at this
      rw [show Tryd.prog.cellsOf 3 = 1 by kernel_rfl] at this; exact this
    have s2 : DataW.trod enc Tryd.prog W 0 (fun _ => true) true k5 3 [z7] = some ys[2] := by
      have := hf5 2 _ rfl
      rw [List.getElem?_eq_getElem (by omega)] at this
      change DataW.trod enc Tryd.prog W 0 (fun _ => true) true k5 3 (([z5, z6, z7, z8, z9].drop 2).take (Tryd.prog.cellsOf 3)) = _ at this
      rw [show Tryd.prog.cellsOf 3 = 1 by kernel_rfl] at this; exact this
    have s3 : DataW.trod enc Tryd.prog W 0 (fun _ => true) true k5 3 [z8] = some ys[3] := by
      have := hf5 3 _ rfl
      rw [List.getElem?_eq_getElem (by omega)] at this
      change DataW.trod enc Tryd.prog W 0 (fun _ => true) true k5 3 (([z5, z6, z7, z8, z9].drop 3).take (Tryd.prog.cellsOf 3)) = _ at this
      rw [show Tryd.prog.cellsOf 3 = 1 by kernel_rfl] at this; exact this
    have s4 : DataW.trod enc Tryd.prog W 0 (fun _ => true) true k5 3 [z9] = some ys[4] := by
      have := hf5 4 _ rfl
      rw [List.getElem?_eq_getElem (by omega)] at this
      change DataW.trod enc Tryd.prog W 0 (fun _ => true) true k5 3 (([z5, z6, z7, z8, z9].drop 4).take (Tryd.prog.cellsOf 3)) = _ at this
      rw [show Tryd.prog.cellsOf 3 = 1 by kernel_rfl] at this; exact this
    obtain ⟨q0, f0, _, _⟩ := DataW.trod_int Tryd.underlying3 s0
    obtain ⟨q1, f1, _, _⟩ := DataW.trod_int Tryd.underlying3 s1
    obtain ⟨q2, f2, _, _⟩ := DataW.trod_int Tryd.underlying3 s2
    obtain ⟨q3, f3, _, _⟩ := DataW.trod_int Tryd.underlying3 s3
    obtain ⟨q4, f4, _, _⟩ := DataW.trod_int Tryd.underlying3 s4
    simp only [List.cons.injEq, and_true] at e0 e1 e2 f0 f1 f2 f3 f4
    subst e0 e1 e2 e3 e4 f0 f1 f2 f3 f4
    exact ⟨⟨y0, y1, y2, a, b, ⟨q0, q1, q2, q3, q4⟩⟩, sa, ca, sb, cb, rfl, hA, hB, ya, yb, la, lb⟩
end
theorem cellsTr : Tryd.prog.cellsOf 33 = 10 := by kernel_rfl
theorem bytesTr : Tryd.prog.bytesOf 33 = 112 := by kernel_rfl
theorem open_tries {H : Type} {enc : TypeId × Value → H} {W : World} {v : Value} {d : DataW H} {p : List MemPlace} {b0 : Nat} (hw : WS 22 d) (hv : Value.okWide Tryd.prog W .any b0 22 v) (h : DataW.Trod enc Tryd.prog W 0 (fun _ => true) true 22 v d p) :
    ∃ (ts : List Tri) (sp : Option Addr) (cap : Nat), v = .slice sp ts.length cap ∧ TrS W sp ts ∧ ts.length ≤ cap ∧ cap ≤ maxLen ∧ ts.length ≤ 1300000000000 := by
  obtain ⟨a0, len0, cap0, rfl⟩ := okWide_slice Tryd.underlying22 hv
  obtain ⟨fuel, hf⟩ := h
  rcases Deep.open_slice Tryd.underlying22 hf with ⟨hcs, hx⟩ | ⟨a, len, cap, m, n, D, Pl, hcs, _, hl, hm, hmm, hx, hrow⟩
  · simp [Value.cells] at hcs
    obtain ⟨rfl, rfl, rfl⟩ := hcs
    exact ⟨[], none, 0, rfl, ⟨0, 0, fun h => by simp at h, fun j hj => by simp at hj⟩, by simp, by simp [maxLen], by simp⟩
  · simp [Value.cells] at hcs
    obtain ⟨rfl, rfl, rfl⟩ := hcs
    simp only [Prod.mk.injEq] at hx
    obtain ⟨rfl, _⟩ := hx
    simp only [if_true] at hmm
    subst hmm
    obtain ⟨w1, w2⟩ := hw.slice Tryd.underlying22
    rw [bytesTr] at w1
    simp [reachBytes] at w1
    have each : ∀ i, i < len0 → ∃ q : Tri, ∃ cs', cs'.length = 10 ∧ (∀ j, j < 10 → W.cell? ((a.add (i * 10)).add j) = cs'[j]?) ∧ TrIn W cs' q := by
      intro i hi
      obtain ⟨cs', h1, h2⟩ := hrow i (by omega)
      rw [cellsTr] at h1
      obtain ⟨_, hlen, hcell⟩ := World.cells?_some h1
      obtain ⟨q, hq⟩ := open_try (x := (D i, Pl i)) (w2 _ (List.mem_map.2 ⟨i, List.mem_range.2 hi, rfl⟩)) hlen h2
      exact ⟨q, cs', hlen, hcell, hq⟩
    obtain ⟨q, hq⟩ := Deep.choose_lt (α := Tri) each
    have gm : ∀ i, i < len0 → ((List.range len0).map q).getD i tri0 = q i := fun i hi => by simp [hi]
    have hlen : ((List.range len0).map q).length = len0 := by simp
    by_cases hz : 0 < len0
    · obtain ⟨cs0, l0, c0, _⟩ := hq 0 hz
      have c00 := c0 0 (by omega)
      rw [List.getElem?_eq_getElem (by omega)] at c00
      have hsp : a.spot = none := by
        have := World.cell?_spot c00
        simp only [Nat.zero_mul] at this
        unfold Addr.add at this; split at this <;> simp_all
      obtain ⟨b, o, spot⟩ := a
      obtain rfl : spot = none := hsp
      have hblk : b < W.heap.size := by
        have := block_lt_of_cell c00
        rw [Deep.add_add, Addr.add_mid] at this
        exact this
      refine ⟨(List.range len0).map q, some ⟨b, o, none⟩, _, by rw [hlen], ⟨b, o, fun _ => ⟨hblk, rfl⟩, fun i hi => ?_⟩, by rw [hlen]; exact hl, hm, by rw [hlen]; omega⟩
      rw [hlen] at hi
      rw [gm i hi]
      obtain ⟨cs', l1, c1, sa, ca, sb, cb, e1, r⟩ := hq i hi
      refine ⟨sa, ca, sb, cb, fun j u hu => ?_, r⟩
      rw [← e1] at hu
      have hj := (List.getElem?_eq_some_iff.1 hu).1
      have := c1 j (by omega)
      rw [Deep.add_add, Addr.add_mid, hu, ← Nat.add_assoc] at this
      exact this
    · obtain rfl : len0 = 0 := by omega
      exact ⟨[], some a, _, rfl, ⟨0, 0, fun h => by simp at h, fun j hj => by simp at hj⟩, by simp, hm, by simp⟩
theorem frameKept_contract (H : Type) (enc : TypeId × Value → H) (W : World) (base : Nat) (args : Array Value) (ds gs : List (DataW H)) (before : List MemPlace)
    (hval : ∀ (j : Nat) t v, Tryd.f3.params[j]? = some t → args[j]? = some v → Value.okWide Tryd.prog W .any base t v)
    (hW : DataW.Whole enc Tryd.prog Tryd.f3.params.toList Rows.frameKeptSpec.vars false W args.toList ds gs before) (hL : laidMetH Tryd.prog Rows.frameKeptRow.laid W)
    (hsz : (DataW.weightsEach Tryd.prog (Tryd.f3.params.toList ++ Rows.frameKeptSpec.plain.varTypes Tryd.prog) (ds ++ gs)).all (· ≤ reachBytes) = true) :
    Calls Tryd.prog 3 args W fun e W' => ∃ v, e = .returned v ∧ Rows.frameKeptSpec.post enc Tryd.prog Tryd.f3 false true false false W args v W' := by
  have hW' := hW
  obtain ⟨p, q, hA0, hV, rfl, hfz, hnd⟩ := hW
  have hA : DataW.TrodAll enc Tryd.prog W 0 (fun _ => true) true Tryd.f3.params.toList args.toList ds p := hA0
  rw [Tryd.params3] at hA hval hsz
  obtain ⟨v0, vs0, d0, ds0, p0, q0, hargs, rfl, rfl, h0, r0⟩ := trodAll_cons hA
  obtain ⟨rfl, rfl, rfl⟩ := trodAll_nil r0
  obtain rfl : args = #[v0] := by cases args; simp_all
  obtain ⟨rfl, rfl⟩ := trodVars_none hV
  have hG := tab1 hL
  have k0 := h0
  have lt0 : ∀ x ∈ p0, x.block < W.heap.size := by obtain ⟨m, hm⟩ := k0; exact DataW.trod_lt m _ _ _ hm
  have hw0 : WS 22 d0 := fun n hn => by
    have := List.all_eq_true.1 hsz n (DataW.weights_mem_each (j := 0) rfl rfl n hn)
    exact of_decide_eq_true this
  obtain ⟨ts, sp0, cap0, rfl, hT, hc0, hm0, hN0⟩ := open_tries hw0 (hval 0 22 v0 rfl rfl) h0
  clear hA0
  refine (kept_walk W hG ts sp0 cap0 hT hc0 hm0 hN0).mono fun e W' ⟨he, bel⟩ => ?_
  subst he
  exact ⟨_, rfl, _, _, _, [], _, [], hW', trodAll_mk1 (shut_bool Tryd.underlying4 _), (trodAll_cons_mk (Below.trod Tryd.laidOut (by kernel_rfl) (of_decide_eq_true (by kernel_rfl)) k0 bel lt0) trodAll_mk0), rfl, bel.frame _, fun h => by cases h⟩

theorem frameKept_laid (os : Os) : laidMet Tryd.prog Rows.frameKeptRow.laid ((laidWorld os).forCall (fun _ _ => 0) ⟨#[], #[.slice none 0 0], []⟩).memory :=
  laidMet_of_run' 8 (by kernel_rfl) (by kernel_rfl)
theorem frameKept_reads (os : Os) {H : Type} (enc : TypeId × Value → H) : ∃ places, DataW.whole enc Tryd.prog ((laidWorld os).forCall (fun _ _ => 0) ⟨#[], #[.slice none 0 0], []⟩).memory Tryd.f3.params.toList Rows.frameKeptSpec.vars false (#[.slice none 0 0] : Array Value).toList 8 = some ([.nil], [], places) :=
  ⟨[], by kernel_rfl⟩
set_option maxRecDepth 100000 in
theorem frameKept_lifted (os : Os) (started : os.Started) (H : Type) (enc : TypeId × Value → H) (F : Stop.Interp) :
    ReturnsInHanded {} Tryd.checked os 3 .any ((OpenSpec.ofChange Rows.frameKeptSpec).preRow enc Tryd.prog Tryd.f3 Rows.frameKeptRow.domain false Rows.frameKeptRow.laid) (((OpenSpec.ofChange Rows.frameKeptSpec).at F).post enc Tryd.prog Tryd.f3 false true false false) := by
  obtain ⟨places, hx⟩ := frameKept_reads os enc
  refine returnsInHanded_of_row (C := Tryd.checked) (s := OpenSpec.ofChange Rows.frameKeptSpec) own_knob started (by kernel_rfl) Tryd.func3
    (witness_row_at (enc := enc) (C := Tryd.checked) false (laidWorld os) #[.slice none 0 0] rfl (by kernel_rfl) (by kernel_rfl) (by kernel_rfl)
      (OpenSpec.preRow_of_cond 8 hx (by kernel_rfl) (fun k hk => by cases hk) (by kernel_rfl) (frameKept_laid os))) ?_
  intro W base args ds gs before hval hW _ _ hsz hL _ _
  exact frameKept_contract H enc W base args ds gs before hval hW hL hsz

theorem frameKept_said : Rows.FrameKeptSaid :=
  OpenClaim.holds_of_cond 3 Tryd.f3 rfl rfl rfl rfl rfl rfl rfl ⟨rfl, rfl, rfl, rfl, rfl⟩ rfl rfl rfl rfl rfl (by kernel_rfl) Tryd.func3 (by kernel_rfl)
    (of_decide_eq_true (by kernel_rfl)) (by unfold Func.isWrapper; first | (rw [if_pos (by decide +kernel)]; kernel_rfl) | (rw [if_neg (by decide +kernel)]; exact ⟨rfl, rfl⟩))
    (fun os started H enc _ F => by rw [OpenClaim.pre_eq_preRow]; exact frameKept_lifted os started H enc F)

theorem frameKept_plain (f : FuncId) (fn : Func) (hf : Tryd.pinned.checked.prog.funcNamed "ledger/ledgerlaw5.FrameKept" = some f) (hfn : Tryd.pinned.checked.prog.funcs[f]? = some fn) :
    false = Tryd.pinned.checked.prog.looks [] ∧ ∀ (j : Nat) t, fn.params[j]? = some t → Tryd.pinned.checked.prog.wantsStandIn t = false := by
  obtain rfl : f = 3 := Option.some.inj ((show Tryd.prog.funcNamed "ledger/ledgerlaw5.FrameKept" = some 3 by kernel_rfl).symm.trans hf) |>.symm
  obtain rfl : fn = Tryd.f3 := (Option.some.inj (Tryd.func3.symm.trans hfn)).symm
  refine ⟨by kernel_rfl, fun j t ht => ?_⟩
  rw [Tryd.params3] at ht
  have hm := Array.mem_of_getElem? ht
  simp at hm
  subst hm
  exact (show Tryd.prog.wantsStandIn 22 = false by kernel_rfl)

theorem frameKept_card : Rows.FrameKeptCardSaid :=
  Claim7.holds_tied_plain_at .later [] _ _ _ _ frameKept_said (fun _ h => by cases h) (by kernel_rfl) (fun _ h => by cases h) frameKept_row_tie rfl ⟨rfl, rfl⟩ (by kernel_rfl) rfl frameKept_plain (by kernel_rfl)
#print axioms frameKept_card
end Go.Proofs.YtaoongjdneaccaaDoor
