import Derived.Test.YtpohgnblikkagaaIx6
import Derived.Test.YtpohgnblikkagaaRows
import Derived.ProofKit
import Derived.OpenShut
import Derived.SizedLaws
import Derived.Deep.DeepHandedRow
import Derived.Deep.Slices
import Derived.Lib.LaidTab
namespace Go.Proofs.Ytpohgnblikkagaa
set_option linter.unusedVariables false
set_option linter.unusedSimpArgs false
open Go.ChangeShapes Go.WideShapes Go.ChangeAt Go.RowKit

theorem own_knob : ownKnob Try.prog.godebug = none := by kernel_rfl
theorem Try.laidOut : laidOutB Try.prog = true := by kernel_rfl
theorem cells5 : Try.prog.cellsOf 5 = 1 := by kernel_rfl
theorem Try.bytes5 : Try.prog.bytesOf 5 = 1 := by kernel_rfl
theorem cellsD : Try.prog.cellsOf 23 = 32 := by kernel_rfl
/-- No slice in it is beyond the reach. -/
def WS {H : Type} (t : TypeId) (d : DataW H) : Prop := ∀ n ∈ d.weights Try.prog t, n ≤ reachBytes
theorem weightsAll_mem {H : Type} {P : Program} {e : TypeId} : ∀ {l : List (DataW H)} {d : DataW H}, d ∈ l → ∀ n ∈ d.weights P e, n ∈ DataW.weightsAll P e l
  | x :: l, d, hd, n, hn => by
    simp only [DataW.weightsAll, List.mem_append]
    rcases List.mem_cons.1 hd with rfl | h
    · exact Or.inl hn
    · exact Or.inr (weightsAll_mem h n hn)
theorem WS.slice {H : Type} {t e : TypeId} {el sp : List (DataW H)} (hu : Try.prog.underlying t = some (.slice e)) (h : WS t (.slice el sp)) : (el.length + sp.length) * Try.prog.bytesOf e ≤ reachBytes ∧ ∀ d ∈ el, WS e d :=
  ⟨h _ (by simp [DataW.weights, hu]), fun d hd n hn => h n (by
    simp only [DataW.weights, hu, List.mem_cons, List.mem_append]
    exact Or.inr (Or.inl (weightsAll_mem hd n hn)))⟩
theorem WS.field {H : Type} {t : TypeId} {fs : Array Field} {ds : List (DataW H)} (hu : Try.prog.underlying t = some (.struct fs)) (h : WS t (.agg ds)) {j : Nat} {f : Field} {d : DataW H} (hf : fs[j]? = some f) (hd : ds[j]? = some d) : WS f.type d :=
  fun n hn => h n (by
    simp only [DataW.weights, hu]
    exact DataW.weights_mem_each (by rw [List.getElem?_map]; simp [hf]) hd n hn)
section
variable {H : Type} {enc : TypeId × Value → H} {W : World}
theorem open_dig {fuel : Nat} {cs : List Value} {x : DataW H × List MemPlace} (h : DataW.trod enc Try.prog W 0 (fun _ => true) true fuel 23 cs = some x) : ∃ k : List Int, cs = ints .u8 k ∧ k.length = 32 ∧ Bys k := by
  cases fuel with
  | zero => simp [DataW.trod] at h
  | succ n =>
    rw [DataW.trod_step] at h
    unfold DataW.trodStep at h
    simp only [Try.underlying23, cellsD, cells5] at h
    split at h
    · rename_i hl
      obtain ⟨xs, hm, _⟩ := Option.map_eq_some_iff.1 h
      have each : ∀ i, i < 32 → ∃ z, cs[i]? = some (.int .u8 z) ∧ 0 ≤ z ∧ z < 256 := fun i hi => by
        have := mapM_some_get hm i i (by simp [hi])
        have hxl := mapM_some_length hm
        simp at hxl
        rw [List.getElem?_eq_getElem (by omega)] at this
        obtain ⟨z, hz, _, hw⟩ := DataW.trod_int Try.underlying5 this
        have hb := bounds_u8 hw
        refine ⟨z, ?_, by omega, by omega⟩
        have e : ((cs.drop (i * 1)).take 1)[0]? = cs[i]? := by simp
        rw [← e, hz]; rfl
      refine ⟨cs.map intOf, ?_, by simp [hl], ?_⟩
      · apply List.ext_getElem?
        intro i
        by_cases hi : i < 32
        · obtain ⟨z, hz, _⟩ := each i hi
          simp [ints, hz, intOf]
        · rw [List.getElem?_eq_none (by omega), List.getElem?_eq_none (by simp [ints]; omega)]
      · intro y hy
        obtain ⟨v, hv, rfl⟩ := List.mem_map.1 hy
        obtain ⟨i, hi, rfl⟩ := List.mem_iff_getElem.1 hv
        obtain ⟨z, hz, h1, h2⟩ := each i (by omega)
        rw [List.getElem?_eq_getElem hi] at hz
        rw [Option.some.inj hz]; exact ⟨h1, h2⟩
    · cases h
theorem open_bytesN {fuel : Nat} {v : Value} {d : DataW H} {p : List MemPlace} (hw : WS 26 d) (hf : DataW.trod enc Try.prog W 0 (fun _ => true) true fuel 26 [v] = some (d, p)) :
    ∃ (zs : List Int) (sp : Option Addr) (cap : Nat), v = .slice sp zs.length cap ∧ Bys zs ∧ Src W sp cap zs ∧ (sp = none → cap = 0) ∧ zs.length ≤ 140737488351232 := by
  rcases open_ints Try.underlying26 Try.underlying5 cells5 hf with ⟨hcs, hx⟩ | ⟨a, len, cap, zs, hcs, _, hl, hm, hz, hx, hcell, hwz⟩
  · simp at hcs
    subst hcs
    exact ⟨[], none, 0, rfl, fun x hx => by simp at hx, Src.nil W, fun _ => rfl, by simp⟩
  · simp at hcs
    subst hcs
    have hzl : zs.length = cap := by simpa using hz
    have hll : (zs.take len).length = len := by rw [List.length_take]; omega
    refine ⟨zs.take len, some a, cap, by rw [hll], fun x hx => ?_, ⟨by rw [hll]; exact hl, hm, ?_⟩, (fun h => by cases h), ?_⟩
    · have := bounds_u8 (hwz x (List.mem_of_mem_take hx))
      omega
    · rw [hll]
      by_cases hL : 0 < len
      · have hc0 := hcell 0 (by omega)
        have hsp : a.spot = none := by have := World.cell?_spot hc0; unfold Addr.add at this; split at this <;> simp_all
        obtain ⟨b, o, spot⟩ := a
        obtain rfl : spot = none := hsp
        refine ⟨b, o, fun _ => by have := block_lt_of_cell hc0; rwa [Addr.add_mid] at this, fun _ => rfl, fun j hj => ?_⟩
        have := hcell j (by omega)
        rw [Addr.add_mid] at this
        rw [this]
        congr 2
        simp [List.getElem?_take, hj]
      · exact ⟨0, 0, fun h => by omega, fun h => by omega, fun j hj => by omega⟩
    · rw [hll]
      simp only [Prod.mk.injEq] at hx
      rw [hx.1] at hw
      have := (hw.slice Try.underlying26).1
      rw [Try.bytes5] at this
      simp [lits, reachBytes] at this
      omega
end
theorem cut_at (l : List Value) (n m : Nat) : l.drop n = (l.drop n).take m ++ l.drop (n + m) := by
  have := (List.take_append_drop m (l.drop n)).symm
  rwa [List.drop_drop] at this
theorem trod_one {H : Type} {enc : TypeId × Value → H} {W : World} {l : List Value} {n : Nat} (h : n < l.length) : ∃ sv, (l.drop n).take 1 = [sv] := by
  rw [List.take_one, List.head?_drop, List.getElem?_eq_getElem h]; exact ⟨_, rfl⟩
set_option maxRecDepth 100000 in
theorem open_rec {H : Type} {enc : TypeId × Value → H} {W : World} {fuel : Nat} {nd : List Value} {x : DataW H × List MemPlace} (hnl : nd.length = 38) (g8 : DataW.trod enc Try.prog W 0 (fun _ => true) true fuel 25 nd = some x) :
    ∃ (r : Rc), nd = rcC r ∧ RcOk r ∧ Bys r.sm := by
  obtain ⟨ys, kn, _, hxy, _, hyl, hfn⟩ := DataW.trod_struct (x := x) Try.underlying25 g8
  have hyl' : ys.length = 7 := hyl
  have n0 : DataW.trod enc Try.prog W 0 (fun _ => true) true kn 3 ((nd.drop 0).take 1) = some ys[0] := by
    have := hfn 0 _ rfl
    rw [List.getElem?_eq_getElem (by omega)] at this
    change DataW.trod enc Try.prog W 0 (fun _ => true) true kn 3 ((nd.drop 0).take (Try.prog.cellsOf 3)) = _ at this
    rw [show Try.prog.cellsOf 3 = 1 by kernel_rfl] at this; exact this
  have n1 : DataW.trod enc Try.prog W 0 (fun _ => true) true kn 3 ((nd.drop 1).take 1) = some ys[1] := by
    have := hfn 1 _ rfl
    rw [List.getElem?_eq_getElem (by omega)] at this
    change DataW.trod enc Try.prog W 0 (fun _ => true) true kn 3 ((nd.drop 1).take (Try.prog.cellsOf 3)) = _ at this
    rw [show Try.prog.cellsOf 3 = 1 by kernel_rfl] at this; exact this
  have n2 : DataW.trod enc Try.prog W 0 (fun _ => true) true kn 3 ((nd.drop 2).take 1) = some ys[2] := by
    have := hfn 2 _ rfl
    rw [List.getElem?_eq_getElem (by omega)] at this
    change DataW.trod enc Try.prog W 0 (fun _ => true) true kn 3 ((nd.drop 2).take (Try.prog.cellsOf 3)) = _ at this
    rw [show Try.prog.cellsOf 3 = 1 by kernel_rfl] at this; exact this
  have n3 : DataW.trod enc Try.prog W 0 (fun _ => true) true kn 3 ((nd.drop 3).take 1) = some ys[3] := by
    have := hfn 3 _ rfl
    rw [List.getElem?_eq_getElem (by omega)] at this
    change DataW.trod enc Try.prog W 0 (fun _ => true) true kn 3 ((nd.drop 3).take (Try.prog.cellsOf 3)) = _ at this
    rw [show Try.prog.cellsOf 3 = 1 by kernel_rfl] at this; exact this
  have n4 : DataW.trod enc Try.prog W 0 (fun _ => true) true kn 3 ((nd.drop 4).take 1) = some ys[4] := by
    have := hfn 4 _ rfl
    rw [List.getElem?_eq_getElem (by omega)] at this
    change DataW.trod enc Try.prog W 0 (fun _ => true) true kn 3 ((nd.drop 4).take (Try.prog.cellsOf 3)) = _ at this
    rw [show Try.prog.cellsOf 3 = 1 by kernel_rfl] at this; exact this
  have n5 : DataW.trod enc Try.prog W 0 (fun _ => true) true kn 3 ((nd.drop 5).take 1) = some ys[5] := by
    have := hfn 5 _ rfl
    rw [List.getElem?_eq_getElem (by omega)] at this
    change DataW.trod enc Try.prog W 0 (fun _ => true) true kn 3 ((nd.drop 5).take (Try.prog.cellsOf 3)) = _ at this
    rw [show Try.prog.cellsOf 3 = 1 by kernel_rfl] at this; exact this
  have n6 : DataW.trod enc Try.prog W 0 (fun _ => true) true kn 23 ((nd.drop 6).take 32) = some ys[6] := by
    have := hfn 6 _ rfl
    rw [List.getElem?_eq_getElem (by omega)] at this
    change DataW.trod enc Try.prog W 0 (fun _ => true) true kn 23 ((nd.drop 6).take (Try.prog.cellsOf 23)) = _ at this
    rw [show Try.prog.cellsOf 23 = 32 by kernel_rfl] at this; exact this
  obtain ⟨y0, f0, _⟩ := DataW.trod_int (k := .i64) (by kernel_rfl) n0
  obtain ⟨y1, f1, _⟩ := DataW.trod_int (k := .i64) (by kernel_rfl) n1
  obtain ⟨y2, f2, _⟩ := DataW.trod_int (k := .i64) (by kernel_rfl) n2
  obtain ⟨y3, f3, _⟩ := DataW.trod_int (k := .i64) (by kernel_rfl) n3
  obtain ⟨y4, f4, _⟩ := DataW.trod_int (k := .i64) (by kernel_rfl) n4
  obtain ⟨y5, f5, _⟩ := DataW.trod_int (k := .i64) (by kernel_rfl) n5
  obtain ⟨u6, f6, l6, b6⟩ := open_dig n6
  have hne : nd = [.int .i64 y0] ++ ([.int .i64 y1] ++ ([.int .i64 y2] ++ ([.int .i64 y3] ++ ([.int .i64 y4] ++ ([.int .i64 y5] ++ (ints .u8 u6 ++ nd.drop 38)))))) := by
    rw [← f0, ← f1, ← f2, ← f3, ← f4, ← f5, ← f6, ← cut_at nd 6 32, ← cut_at nd 5 1, ← cut_at nd 4 1, ← cut_at nd 3 1, ← cut_at nd 2 1, ← cut_at nd 1 1, ← cut_at nd 0 1]; rfl
  rw [List.drop_of_length_le (by omega : nd.length ≤ 38), List.append_nil] at hne
  exact ⟨⟨y0, y1, y2, y3, y4, y5, u6⟩, hne, ⟨l6⟩, b6⟩
theorem open_recV {H : Type} {enc : TypeId × Value → H} {W : World} {v : Value} {d : DataW H} {p : List MemPlace} {b0 : Nat}
    (hv : Value.okWide Try.prog W .any b0 25 v) (h : DataW.Trod enc Try.prog W 0 (fun _ => true) true 25 v d p) : ∃ (r : Rc), v = .agg (rcC r).toArray ∧ RcOk r ∧ Bys r.sm := by
  obtain ⟨cs, rfl, hsz, _⟩ : ∃ cs, v = .agg cs ∧ cs.size = Try.prog.cellsOf 25 ∧ Row.okWide Try.prog W .any b0 25 cs := by
    simpa [Value.okWide, Try.underlying25] using hv
  obtain ⟨fuel, hf⟩ := h
  rw [show Try.prog.cellsOf 25 = 38 by kernel_rfl] at hsz
  obtain ⟨r, h1, h2⟩ := open_rec (x := (d, p)) (nd := cs.toList) (by simpa using hsz) hf
  exact ⟨r, by rw [← h1], h2⟩

set_option maxRecDepth 100000 in
theorem indexBack_contract (H : Type) (enc : TypeId × Value → H) (W : World) (base : Nat) (args : Array Value) (ds gs : List (DataW H)) (before : List MemPlace)
    (hval : ∀ (j : Nat) t v, Try.f3.params[j]? = some t → args[j]? = some v → Value.okWide Try.prog W .any base t v)
    (hW : DataW.Whole enc Try.prog Try.f3.params.toList Rows.indexBackSpec.vars false W args.toList ds gs before)
    (hsz : (DataW.weightsEach Try.prog (Try.f3.params.toList ++ Rows.indexBackSpec.plain.varTypes Try.prog) (ds ++ gs)).all (· ≤ reachBytes) = true) :
    Calls Try.prog 3 args W fun e W' => ∃ v, e = .returned v ∧ Rows.indexBackSpec.post enc Try.prog Try.f3 false true false false W args v W' := by
  have hW' := hW
  obtain ⟨p, q, hA0, hV, rfl, hfz, hnd⟩ := hW
  have hA : DataW.TrodAll enc Try.prog W 0 (fun _ => true) true Try.f3.params.toList args.toList ds p := hA0
  rw [Try.params3] at hA hval hsz
  obtain ⟨v0, vs0, d0, ds0, p0, q0, hargs, rfl, rfl, h0, r0⟩ := trodAll_cons hA
  obtain ⟨v1, vs1, d1, ds1, p1, q1, rfl, rfl, rfl, h1, r1⟩ := trodAll_cons r0
  obtain ⟨rfl, rfl, rfl⟩ := trodAll_nil r1
  obtain rfl : args = #[v0, v1] := by cases args; simp_all
  obtain ⟨rfl, rfl⟩ := trodVars_none hV
  have k0 := h0
  have lt0 : ∀ x ∈ p0, x.block < W.heap.size := by obtain ⟨m, hm⟩ := k0; exact DataW.trod_lt m _ _ _ hm
  obtain ⟨rc, rfl, ok0, yp0⟩ := open_recV (hval 0 25 v0 rfl rfl) h0
  have k1 := h1
  have lt1 : ∀ x ∈ p1, x.block < W.heap.size := by obtain ⟨m, hm⟩ := k1; exact DataW.trod_lt m _ _ _ hm
  have ws1 : WS 26 d1 := fun n hn => by
    have := List.all_eq_true.1 hsz n (DataW.weights_mem_each (j := 1) rfl rfl n hn)
    simpa using this
  obtain ⟨zs1, sp1, cap1, rfl, y1, hS1, hn1, hl1⟩ : ∃ (zs : List Int) (sp : Option Addr) (cap : Nat), v1 = .slice sp zs.length cap ∧ Bys zs ∧ Src W sp cap zs ∧ (sp = none → cap = 0) ∧ zs.length ≤ 140737488351232 := by
    obtain ⟨a0, len0, cap0, rfl⟩ := okWide_slice Try.underlying26 (hval 1 26 v1 rfl rfl)
    obtain ⟨fuel, hf⟩ := h1
    exact open_bytesN ws1 hf
  clear hA0
  refine (indexBack_any W rc ok0 yp0 zs1 y1 sp1 cap1 hS1).mono fun e W' ⟨he, bel⟩ => ?_
  subst he
  exact ⟨_, rfl, _, _, _, [], _, [], hW', trodAll_mk1 (shut_bool Try.underlying4 _), (trodAll_cons_mk (Below.trod Try.laidOut (by kernel_rfl) (of_decide_eq_true (by kernel_rfl)) k0 bel lt0) (trodAll_cons_mk (Below.trod Try.laidOut (by kernel_rfl) (of_decide_eq_true (by kernel_rfl)) k1 bel lt1) trodAll_mk0)), rfl, bel.frame _, fun h => by cases h⟩

def indexBack_xs {H : Type} : List (DataW H) := [.agg [.lit (.int .i64 0), .lit (.int .i64 0), .lit (.int .i64 0), .lit (.int .i64 0), .lit (.int .i64 0), .lit (.int .i64 0), .agg [.lit (.int .u8 0), .lit (.int .u8 0), .lit (.int .u8 0), .lit (.int .u8 0), .lit (.int .u8 0), .lit (.int .u8 0), .lit (.int .u8 0), .lit (.int .u8 0), .lit (.int .u8 0), .lit (.int .u8 0), .lit (.int .u8 0), .lit (.int .u8 0), .lit (.int .u8 0), .lit (.int .u8 0), .lit (.int .u8 0), .lit (.int .u8 0), .lit (.int .u8 0), .lit (.int .u8 0), .lit (.int .u8 0), .lit (.int .u8 0), .lit (.int .u8 0), .lit (.int .u8 0), .lit (.int .u8 0), .lit (.int .u8 0), .lit (.int .u8 0), .lit (.int .u8 0), .lit (.int .u8 0), .lit (.int .u8 0), .lit (.int .u8 0), .lit (.int .u8 0), .lit (.int .u8 0), .lit (.int .u8 0)]], .nil]
theorem indexBack_reads (os : Os) {H : Type} (enc : TypeId × Value → H) : ∃ places, DataW.whole enc Try.prog ((World.holding Try.prog os ⟨#[], #[], []⟩).forCall (fun _ _ => 0) ⟨#[], #[.agg (rcC rc0).toArray, .slice none 0 0], []⟩).memory Try.f3.params.toList Rows.indexBackSpec.vars false (#[.agg (rcC rc0).toArray, .slice none 0 0] : Array Value).toList 8 = some (indexBack_xs, [], places) :=
  ⟨[], by kernel_rfl⟩
set_option maxRecDepth 100000 in
theorem indexBack_lifted (os : Os) (started : os.Started) (H : Type) (enc : TypeId × Value → H) (F : Stop.Interp) :
    ReturnsInHanded {} Try.checked os 3 .any ((OpenSpec.ofChange Rows.indexBackSpec).preRow enc Try.prog Try.f3 Rows.indexBackRow.domain false Rows.indexBackRow.laid) (((OpenSpec.ofChange Rows.indexBackSpec).at F).post enc Try.prog Try.f3 false true false false) := by
  obtain ⟨places, hx⟩ := indexBack_reads os enc
  refine returnsInHanded_of_row (C := Try.checked) (s := OpenSpec.ofChange Rows.indexBackSpec) own_knob started (by kernel_rfl) Try.func3
    (witness_row_at (enc := enc) (C := Try.checked) false (World.holding Try.prog os ⟨#[], #[], []⟩) #[.agg (rcC rc0).toArray, .slice none 0 0] rfl (by kernel_rfl) (by kernel_rfl) (by kernel_rfl)
      (OpenSpec.preRow_of_cond 8 hx (by kernel_rfl) (fun k hk => by cases hk) (by kernel_rfl) (laidMet_of_run' 8 (by kernel_rfl) (by kernel_rfl)))) ?_
  intro W base args ds gs before hval hW _ _ hsz hL _ _
  exact indexBack_contract H enc W base args ds gs before hval hW hsz

theorem indexBack_said : Rows.IndexBackSaid :=
  OpenClaim.holds_of_cond 3 Try.f3 rfl rfl rfl rfl rfl rfl rfl ⟨rfl, rfl, rfl, rfl, rfl⟩ rfl rfl rfl rfl rfl (by kernel_rfl) Try.func3 (by kernel_rfl)
    (of_decide_eq_true (by kernel_rfl)) (by unfold Func.isWrapper; first | (rw [if_pos (by decide +kernel)]; kernel_rfl) | (rw [if_neg (by decide +kernel)]; exact ⟨rfl, rfl⟩))
    (fun os started H enc _ F => by rw [OpenClaim.pre_eq_preRow]; exact indexBack_lifted os started H enc F)

#print axioms indexBack_said
end Go.Proofs.Ytpohgnblikkagaa
