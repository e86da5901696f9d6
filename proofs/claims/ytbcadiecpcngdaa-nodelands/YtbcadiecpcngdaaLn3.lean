import Derived.Test.YtbcadiecpcngdaaLn2
import Derived.ProofKit
import Derived.OpenShut
import Derived.SizedLaws
import Derived.Deep.DeepHandedRow
import Derived.Deep.Slices
import Derived.Lib.LaidTab
namespace Go.Proofs.Ytbcadiecpcngdaa
set_option linter.unusedVariables false
set_option linter.unusedSimpArgs false
open Go.ChangeShapes Go.WideShapes Go.ChangeAt Go.RowKit

theorem own_knob : ownKnob Try.prog.godebug = none := by kernel_rfl
theorem Try.laidOut : laidOutB Try.prog = true := by kernel_rfl
theorem cells5 : Try.prog.cellsOf 5 = 1 := by kernel_rfl
theorem Try.bytes5 : Try.prog.bytesOf 5 = 1 := by kernel_rfl
theorem cellsD : Try.prog.cellsOf 36 = 32 := by kernel_rfl
theorem cellsK : Try.prog.cellsOf 37 = 32 := by kernel_rfl
/-- No slice in it is beyond the reach. -/
def WS {H : Type} (t : TypeId) (d : DataW H) : Prop := ∀ n ∈ d.weights Try.prog t, n ≤ reachBytes
theorem weightsAll_mem {H : Type} {P : Program} {e : TypeId} : ∀ {l : List (DataW H)} {d : DataW H}, d ∈ l → ∀ n ∈ d.weights P e, n ∈ DataW.weightsAll P e l
  | x :: l, d, hd, n, hn => by
    simp only [DataW.weightsAll, List.mem_append]
    rcases List.mem_cons.1 hd with rfl | h
    · exact Or.inl hn
    · exact Or.inr (weightsAll_mem h n hn)
theorem WS.slice {H : Type} {t e : TypeId} {el sp : List (DataW H)} (hu : Try.prog.underlying t = some (.slice e)) (h : WS t (.slice el sp)) : (el.length + sp.length) * Try.prog.bytesOf e ≤ reachBytes ∧ ∀ d ∈ el, WS e d :=
  ⟨h _ (by simp [DataW.weights, hu]), fun d hd n hn => h n (by
    simp only [DataW.weights, hu, List.mem_cons, List.mem_append]
    exact Or.inr (Or.inl (weightsAll_mem hd n hn)))⟩
theorem WS.field {H : Type} {t : TypeId} {fs : Array Field} {ds : List (DataW H)} (hu : Try.prog.underlying t = some (.struct fs)) (h : WS t (.agg ds)) {j : Nat} {f : Field} {d : DataW H} (hf : fs[j]? = some f) (hd : ds[j]? = some d) : WS f.type d :=
  fun n hn => h n (by
    simp only [DataW.weights, hu]
    exact DataW.weights_mem_each (by rw [List.getElem?_map]; simp [hf]) hd n hn)
section
variable {H : Type} {enc : TypeId × Value → H} {W : World}
theorem open_key {fuel : Nat} {cs : List Value} {x : DataW H × List MemPlace} (h : DataW.trod enc Try.prog W 0 (fun _ => true) true fuel 37 cs = some x) : ∃ k : List Int, cs = ints .u8 k ∧ k.length = 32 ∧ Byts k := by
  cases fuel with
  | zero => simp [DataW.trod] at h
  | succ n =>
    rw [DataW.trod_step] at h
    unfold DataW.trodStep at h
    simp only [Try.underlying37, cellsK, cells5] at h
    split at h
    · rename_i hl
      obtain ⟨xs, hm, _⟩ := Option.map_eq_some_iff.1 h
      have each : ∀ i, i < 32 → ∃ z, cs[i]? = some (.int .u8 z) ∧ 0 ≤ z ∧ z < 256 := fun i hi => by
        have := mapM_some_get hm i i (by simp [hi])
        have hxl := mapM_some_length hm
        simp at hxl
        rw [List.getElem?_eq_getElem (by omega)] at this
        obtain ⟨z, hz, _, hw⟩ := DataW.trod_int Try.underlying5 this
        have hb := bounds_u8 hw
        refine ⟨z, ?_, by omega, by omega⟩
        have e : ((cs.drop (i * 1)).take 1)[0]? = cs[i]? := by simp
        rw [← e, hz]; rfl
      refine ⟨cs.map intOf, ?_, by simp [hl], ?_⟩
      · apply List.ext_getElem?
        intro i
        by_cases hi : i < 32
        · obtain ⟨z, hz, _⟩ := each i hi
          simp [ints, hz, intOf]
        · rw [List.getElem?_eq_none (by omega), List.getElem?_eq_none (by simp [ints]; omega)]
      · intro y hy
        obtain ⟨v, hv, rfl⟩ := List.mem_map.1 hy
        obtain ⟨i, hi, rfl⟩ := List.mem_iff_getElem.1 hv
        obtain ⟨z, hz, h1, h2⟩ := each i (by omega)
        rw [List.getElem?_eq_getElem hi] at hz
        rw [Option.some.inj hz]; exact ⟨h1, h2⟩
    · cases h
theorem open_dig {fuel : Nat} {cs : List Value} {x : DataW H × List MemPlace} (h : DataW.trod enc Try.prog W 0 (fun _ => true) true fuel 36 cs = some x) : ∃ k : List Int, cs = ints .u8 k ∧ k.length = 32 ∧ Byts k := by
  cases fuel with
  | zero => simp [DataW.trod] at h
  | succ n =>
    rw [DataW.trod_step] at h
    unfold DataW.trodStep at h
    simp only [Try.underlying36, cellsD, cells5] at h
    split at h
    · rename_i hl
      obtain ⟨xs, hm, _⟩ := Option.map_eq_some_iff.1 h
      have each : ∀ i, i < 32 → ∃ z, cs[i]? = some (.int .u8 z) ∧ 0 ≤ z ∧ z < 256 := fun i hi => by
        have := mapM_some_get hm i i (by simp [hi])
        have hxl := mapM_some_length hm
        simp at hxl
        rw [List.getElem?_eq_getElem (by omega)] at this
        obtain ⟨z, hz, _, hw⟩ := DataW.trod_int Try.underlying5 this
        have hb := bounds_u8 hw
        refine ⟨z, ?_, by omega, by omega⟩
        have e : ((cs.drop (i * 1)).take 1)[0]? = cs[i]? := by simp
        rw [← e, hz]; rfl
      refine ⟨cs.map intOf, ?_, by simp [hl], ?_⟩
      · apply List.ext_getElem?
        intro i
        by_cases hi : i < 32
        · obtain ⟨z, hz, _⟩ := each i hi
          simp [ints, hz, intOf]
        · rw [List.getElem?_eq_none (by omega), List.getElem?_eq_none (by simp [ints]; omega)]
      · intro y hy
        obtain ⟨v, hv, rfl⟩ := List.mem_map.1 hy
        obtain ⟨i, hi, rfl⟩ := List.mem_iff_getElem.1 hv
        obtain ⟨z, hz, h1, h2⟩ := each i (by omega)
        rw [List.getElem?_eq_getElem hi] at hz
        rw [Option.some.inj hz]; exact ⟨h1, h2⟩
    · cases h
end
set_option maxRecDepth 100000 in
/-- A slice of bytes that came in. -/
theorem open_bytesD {H : Type} {enc : TypeId × Value → H} {W : World} {v : Value} {d : DataW H} {p : List MemPlace} {b0 : Nat}
    (hv : Value.okWide Try.prog W .any b0 23 v) (h : DataW.Trod enc Try.prog W 0 (fun _ => true) true 23 v d p) :
    ∃ (zs : List Int) (sp : Option Addr) (cap : Nat), v = .slice sp zs.length cap ∧ Byts zs ∧ Src W sp cap zs ∧ (sp = none → cap = 0) ∧ (zs.length = 0 ∨ ∃ el spare, d = .slice el spare ∧ el.length = zs.length) := by
  obtain ⟨a0, len0, cap0, rfl⟩ := okWide_slice Try.underlying23 hv
  obtain ⟨fuel, hf⟩ := h
  rcases open_ints Try.underlying23 Try.underlying5 cells5 hf with ⟨hcs, hx⟩ | ⟨a, len, cap, zs, hcs, _, hl, hm, hz, hx, hcell, hwz⟩
  · simp [Value.cells] at hcs
    obtain ⟨rfl, rfl, rfl⟩ := hcs
    refine ⟨[], none, 0, rfl, fun x hx => by simp at hx, Src.nil W, fun _ => rfl, ?_⟩
    exact Or.inl rfl
  · simp [Value.cells] at hcs
    obtain ⟨rfl, rfl, rfl⟩ := hcs
    have hzl : zs.length = cap0 := by simpa using hz
    have hll : (zs.take len0).length = len0 := by rw [List.length_take]; omega
    refine ⟨zs.take len0, some a, cap0, by rw [hll], fun x hx => ?_, ⟨by rw [hll]; exact hl, hm, ?_⟩, (fun h => by cases h), ?_⟩
    · have := bounds_u8 (hwz x (List.mem_of_mem_take hx))
      omega
    · rw [hll]
      by_cases hL : 0 < len0
      · have hc0 := hcell 0 (by omega)
        have hsp : a.spot = none := by have := World.cell?_spot hc0; unfold Addr.add at this; split at this <;> simp_all
        obtain ⟨b, o, spot⟩ := a
        obtain rfl : spot = none := hsp
        refine ⟨b, o, fun _ => by have := block_lt_of_cell hc0; rwa [Addr.add_mid] at this, fun _ => rfl, fun j hj => ?_⟩
        have := hcell j (by omega)
        rw [Addr.add_mid] at this
        rw [this]
        congr 2
        simp [List.getElem?_take, hj]
      · exact ⟨0, 0, fun h => by omega, fun h => by omega, fun j hj => by omega⟩
    · simp only [Prod.mk.injEq] at hx
      exact Or.inr ⟨_, _, hx.1, by simp [lits]⟩
set_option maxRecDepth 100000 in
/-- An array of bytes by value. -/
theorem open_digest {H : Type} {enc : TypeId × Value → H} {W : World} {v : Value} {d : DataW H} {p : List MemPlace} {b0 : Nat}
    (hv : Value.okWide Try.prog W .any b0 36 v) (h : DataW.Trod enc Try.prog W 0 (fun _ => true) true 36 v d p) : ∃ zs : List Int, zs.length = 32 ∧ Byts zs ∧ v = .agg (ints .u8 zs).toArray := by
  obtain ⟨cs, rfl, hsz, _⟩ : ∃ cs, v = .agg cs ∧ cs.size = Try.prog.cellsOf 36 ∧ Row.okWide Try.prog W .any b0 36 cs := by
    simpa [Value.okWide, Try.underlying36] using hv
  obtain ⟨fuel, hf⟩ := h
  obtain ⟨k, h1, h2, h3⟩ := open_dig hf
  exact ⟨k, h2, h3, by rw [← h1]; rfl⟩
set_option maxRecDepth 100000 in
theorem open_path {H : Type} {enc : TypeId × Value → H} {W : World} {v : Value} {d : DataW H} {p : List MemPlace} {b0 : Nat}
    (hv : Value.okWide Try.prog W .any b0 37 v) (h : DataW.Trod enc Try.prog W 0 (fun _ => true) true 37 v d p) : ∃ zs : List Int, zs.length = 32 ∧ Byts zs ∧ v = .agg (ints .u8 zs).toArray := by
  obtain ⟨cs, rfl, hsz, _⟩ : ∃ cs, v = .agg cs ∧ cs.size = Try.prog.cellsOf 37 ∧ Row.okWide Try.prog W .any b0 37 cs := by
    simpa [Value.okWide, Try.underlying37] using hv
  obtain ⟨fuel, hf⟩ := h
  obtain ⟨k, h1, h2, h3⟩ := open_key hf
  exact ⟨k, h2, h3, by rw [← h1]; rfl⟩
section
variable {H : Type} {enc : TypeId × Value → H} {W : World}
set_option maxRecDepth 100000 in
theorem open_bytesN {fuel : Nat} {v : Value} {d : DataW H} {p : List MemPlace} (hw : WS 23 d) (hf : DataW.trod enc Try.prog W 0 (fun _ => true) true fuel 23 [v] = some (d, p)) :
    ∃ (zs : List Int) (sp : Option Addr) (cap : Nat), v = .slice sp zs.length cap ∧ Byts zs ∧ Src W sp cap zs ∧ (sp = none → cap = 0) ∧ zs.length ≤ 140737488351232 := by
  rcases open_ints Try.underlying23 Try.underlying5 cells5 hf with ⟨hcs, hx⟩ | ⟨a, len, cap, zs, hcs, _, hl, hm, hz, hx, hcell, hwz⟩
  · simp at hcs
    subst hcs
    exact ⟨[], none, 0, rfl, fun x hx => by simp at hx, Src.nil W, fun _ => rfl, by simp⟩
  · simp at hcs
    subst hcs
    have hzl : zs.length = cap := by simpa using hz
    have hll : (zs.take len).length = len := by rw [List.length_take]; omega
    refine ⟨zs.take len, some a, cap, by rw [hll], fun x hx => ?_, ⟨by rw [hll]; exact hl, hm, ?_⟩, (fun h => by cases h), ?_⟩
    · have := bounds_u8 (hwz x (List.mem_of_mem_take hx))
      omega
    · rw [hll]
      by_cases hL : 0 < len
      · have hc0 := hcell 0 (by omega)
        have hsp : a.spot = none := by have := World.cell?_spot hc0; unfold Addr.add at this; split at this <;> simp_all
        obtain ⟨b, o, spot⟩ := a
        obtain rfl : spot = none := hsp
        refine ⟨b, o, fun _ => by have := block_lt_of_cell hc0; rwa [Addr.add_mid] at this, fun _ => rfl, fun j hj => ?_⟩
        have := hcell j (by omega)
        rw [Addr.add_mid] at this
        rw [this]
        congr 2
        simp [List.getElem?_take, hj]
      · exact ⟨0, 0, fun h => by omega, fun h => by omega, fun j hj => by omega⟩
    · rw [hll]
      simp only [Prod.mk.injEq] at hx
      rw [hx.1] at hw
      have := (hw.slice Try.underlying23).1
      rw [Try.bytes5] at this
      simp [lits, reachBytes] at this
      omega
end
theorem cut_at (l : List Value) (n m : Nat) : l.drop n = (l.drop n).take m ++ l.drop (n + m) := by
  have := (List.take_append_drop m (l.drop n)).symm
  rwa [List.drop_drop] at this
theorem trod_one {H : Type} {enc : TypeId × Value → H} {W : World} {l : List Value} {n : Nat} (h : n < l.length) : ∃ sv, (l.drop n).take 1 = [sv] := by
  rw [List.take_one, List.head?_drop, List.getElem?_eq_getElem h]; exact ⟨_, rfl⟩
set_option maxRecDepth 100000 in
theorem open_node {H : Type} {enc : TypeId × Value → H} {W : World} {fuel : Nat} {nd : List Value} {x : DataW H × List MemPlace} (hd : WS 39 x.1) (hnl : nd.length = 102) (g8 : DataW.trod enc Try.prog W 0 (fun _ => true) true fuel 39 nd = some x) :
    ∃ (n : Nd) (sp : Option Addr) (cap : Nat), nd = ndC n (.slice sp n.vs.length cap) ∧ NdOk n ∧ NdY n ∧ Src W sp cap n.vs ∧ (sp = none → cap = 0) ∧ n.vs.length ≤ 140737488351232 := by
  obtain ⟨ys, kn, _, hxy, _, hyl, hfn⟩ := DataW.trod_struct (x := x) Try.underlying39 g8
  have hyl' : ys.length = 9 := hyl
  rw [hxy] at hd
  have n0 : DataW.trod enc Try.prog W 0 (fun _ => true) true kn 3 ((nd.drop 0).take 1) = some ys[0] := by
    have := hfn 0 _ rfl
    rw [List.getElem?_eq_getElem (by omega)] at this
    change DataW.trod enc Try.prog W 0 (fun _ => true) true kn 3 ((nd.drop 0).take (Try.prog.cellsOf 3)) = _ at this
    rw [show Try.prog.cellsOf 3 = 1 by kernel_rfl] at this; exact this
  have n1 : DataW.trod enc Try.prog W 0 (fun _ => true) true kn 3 ((nd.drop 1).take 1) = some ys[1] := by
    have := hfn 1 _ rfl
    rw [List.getElem?_eq_getElem (by omega)] at this
    change DataW.trod enc Try.prog W 0 (fun _ => true) true kn 3 ((nd.drop 1).take (Try.prog.cellsOf 3)) = _ at this
    rw [show Try.prog.cellsOf 3 = 1 by kernel_rfl] at this; exact this
  have n2 : DataW.trod enc Try.prog W 0 (fun _ => true) true kn 3 ((nd.drop 2).take 1) = some ys[2] := by
    have := hfn 2 _ rfl
    rw [List.getElem?_eq_getElem (by omega)] at this
    change DataW.trod enc Try.prog W 0 (fun _ => true) true kn 3 ((nd.drop 2).take (Try.prog.cellsOf 3)) = _ at this
    rw [show Try.prog.cellsOf 3 = 1 by kernel_rfl] at this; exact this
  have n3 : DataW.trod enc Try.prog W 0 (fun _ => true) true kn 3 ((nd.drop 3).take 1) = some ys[3] := by
    have := hfn 3 _ rfl
    rw [List.getElem?_eq_getElem (by omega)] at this
    change DataW.trod enc Try.prog W 0 (fun _ => true) true kn 3 ((nd.drop 3).take (Try.prog.cellsOf 3)) = _ at this
    rw [show Try.prog.cellsOf 3 = 1 by kernel_rfl] at this; exact this
  have n4 : DataW.trod enc Try.prog W 0 (fun _ => true) true kn 3 ((nd.drop 4).take 1) = some ys[4] := by
    have := hfn 4 _ rfl
    rw [List.getElem?_eq_getElem (by omega)] at this
    change DataW.trod enc Try.prog W 0 (fun _ => true) true kn 3 ((nd.drop 4).take (Try.prog.cellsOf 3)) = _ at this
    rw [show Try.prog.cellsOf 3 = 1 by kernel_rfl] at this; exact this
  have n5 : DataW.trod enc Try.prog W 0 (fun _ => true) true kn 36 ((nd.drop 5).take 32) = some ys[5] := by
    have := hfn 5 _ rfl
    rw [List.getElem?_eq_getElem (by omega)] at this
    change DataW.trod enc Try.prog W 0 (fun _ => true) true kn 36 ((nd.drop 5).take (Try.prog.cellsOf 36)) = _ at this
    rw [show Try.prog.cellsOf 36 = 32 by kernel_rfl] at this; exact this
  have n6 : DataW.trod enc Try.prog W 0 (fun _ => true) true kn 36 ((nd.drop 37).take 32) = some ys[6] := by
    have := hfn 6 _ rfl
    rw [List.getElem?_eq_getElem (by omega)] at this
    change DataW.trod enc Try.prog W 0 (fun _ => true) true kn 36 ((nd.drop 37).take (Try.prog.cellsOf 36)) = _ at this
    rw [show Try.prog.cellsOf 36 = 32 by kernel_rfl] at this; exact this
  have n7 : DataW.trod enc Try.prog W 0 (fun _ => true) true kn 37 ((nd.drop 69).take 32) = some ys[7] := by
    have := hfn 7 _ rfl
    rw [List.getElem?_eq_getElem (by omega)] at this
    change DataW.trod enc Try.prog W 0 (fun _ => true) true kn 37 ((nd.drop 69).take (Try.prog.cellsOf 37)) = _ at this
    rw [show Try.prog.cellsOf 37 = 32 by kernel_rfl] at this; exact this
  have n8 : DataW.trod enc Try.prog W 0 (fun _ => true) true kn 23 ((nd.drop 101).take 1) = some ys[8] := by
    have := hfn 8 _ rfl
    rw [List.getElem?_eq_getElem (by omega)] at this
    change DataW.trod enc Try.prog W 0 (fun _ => true) true kn 23 ((nd.drop 101).take (Try.prog.cellsOf 23)) = _ at this
    rw [show Try.prog.cellsOf 23 = 1 by kernel_rfl] at this; exact this
  obtain ⟨y0, f0, _, _⟩ := DataW.trod_int Try.underlying3 n0
  obtain ⟨y1, f1, _, _⟩ := DataW.trod_int Try.underlying3 n1
  obtain ⟨y2, f2, _, _⟩ := DataW.trod_int Try.underlying3 n2
  obtain ⟨y3, f3, _, _⟩ := DataW.trod_int Try.underlying3 n3
  obtain ⟨y4, f4, _, _⟩ := DataW.trod_int Try.underlying3 n4
  obtain ⟨u5, f5, l5, b5⟩ := open_dig n5
  obtain ⟨u6, f6, l6, b6⟩ := open_dig n6
  obtain ⟨u7, f7, l7, b7⟩ := open_key n7
  obtain ⟨sn, f8⟩ := trod_one (enc := enc) (W := W) (l := nd) (n := 101) (by omega)
  rw [f8] at n8
  have hws : WS 23 (ys[8]).1 := hd.field Try.underlying39 (j := 8) rfl (by rw [List.getElem?_map, List.getElem?_eq_getElem (by omega)]; rfl)
  obtain ⟨val, sp, cap, e8, yv, hS, hnil, hvl⟩ := open_bytesN (d := (ys[8]).1) (p := (ys[8]).2) hws n8
  subst e8
  have hne : nd = [.int .i64 y0] ++ ([.int .i64 y1] ++ ([.int .i64 y2] ++ ([.int .i64 y3] ++ ([.int .i64 y4] ++ (ints .u8 u5 ++ (ints .u8 u6 ++ (ints .u8 u7 ++ ([.slice sp val.length cap] ++ nd.drop 102)))))))) := by
    rw [← f0, ← f1, ← f2, ← f3, ← f4, ← f5, ← f6, ← f7, ← f8, ← cut_at nd 101 1, ← cut_at nd 69 32, ← cut_at nd 37 32, ← cut_at nd 5 32, ← cut_at nd 4 1, ← cut_at nd 3 1, ← cut_at nd 2 1, ← cut_at nd 1 1, ← cut_at nd 0 1]; rfl
  rw [List.drop_of_length_le (by omega : nd.length ≤ 102)] at hne
  exact ⟨⟨y0, y1, y2, y3, y4, u5, u6, u7, val⟩, sp, cap, hne, ⟨l5, l6, l7⟩, ⟨b5, b6, b7, yv⟩, hS, hnil, hvl⟩
set_option maxRecDepth 100000 in
theorem open_nodes {H : Type} {enc : TypeId × Value → H} {W : World} {fuel : Nat} {v : Value} {d : DataW H} {p : List MemPlace} (hw : WS 22 d) (hf : DataW.trod enc Try.prog W 0 (fun _ => true) true fuel 22 [v] = some (d, p)) :
    ∃ (m : Nat) (sp : Option Addr) (cap : Nat) (f : Nat → Nd) (fs : Nat → Option Addr) (fc : Nat → Nat), v = .slice sp m cap ∧ NSf W sp m f fs fc ∧ m ≤ 140737488351232 := by
  rcases Deep.open_slice Try.underlying22 hf with ⟨hcs, hx⟩ | ⟨a, len, cap, m, n, D, Pl, hcs, _, hl, hm, hmm, hx, hrow⟩
  · simp at hcs
    subst hcs
    exact ⟨0, none, 0, fun _ => nd0, fun _ => none, fun _ => 0, rfl, ⟨0, 0, fun h => by omega, fun i hi => by omega⟩, by omega⟩
  · simp at hcs
    subst hcs
    simp only [Prod.mk.injEq] at hx
    obtain ⟨rfl, _⟩ := hx
    simp only [if_true] at hmm
    subst hmm
    obtain ⟨w1, w2⟩ := hw.slice Try.underlying22
    have each : ∀ i, i < len → ∃ (q : Nd) (s : Option Addr) (c : Nat), (∀ j u, (ndC q (.slice s q.vs.length c))[j]? = some u → W.cell? (a.add (i * 102 + j)) = some u) ∧ NdOk q ∧ NdY q ∧ Src W s c q.vs ∧ (s = none → c = 0) ∧ q.vs.length ≤ 140737488351232 := by
      intro i hi
      obtain ⟨cs', h1, h2⟩ := hrow i (by omega)
      rw [show Try.prog.cellsOf 39 = 102 by kernel_rfl] at h1
      obtain ⟨_, hlen, hcell⟩ := World.cells?_some h1
      have hd := w2 (D i) (List.mem_map.2 ⟨i, List.mem_range.2 hi, rfl⟩)
      obtain ⟨q, s, c, hq, q1, q2, q3, q4, q5⟩ := open_node (x := (D i, Pl i)) hd hlen h2
      refine ⟨q, s, c, fun j u hu => ?_, q1, q2, q3, q4, q5⟩
      rw [← hq] at hu
      have hj := (List.getElem?_eq_some_iff.1 hu).1
      have := hcell j (by omega)
      rw [Deep.add_add] at this
      rw [this, hu]
    have hmx : len ≤ 140737488351232 := by
      have := w1
      rw [show Try.prog.bytesOf 39 = 160 by kernel_rfl] at this
      simp [reachBytes] at this
      omega
    have each' : ∀ i, ∃ y : Nd × Option Addr × Nat, i < len → (∀ j u, (ndC y.1 (.slice y.2.1 y.1.vs.length y.2.2))[j]? = some u → W.cell? (a.add (i * 102 + j)) = some u) ∧ NdOk y.1 ∧ NdY y.1 ∧ Src W y.2.1 y.2.2 y.1.vs ∧ (y.2.1 = none → y.2.2 = 0) ∧ y.1.vs.length ≤ 140737488351232 := fun i => by
      by_cases hi : i < len
      · obtain ⟨q, s, c, r⟩ := each i hi
        exact ⟨(q, s, c), fun _ => r⟩
      · exact ⟨(nd0, none, 0), fun h => absurd h hi⟩
    let Y : Nat → Nd × Option Addr × Nat := fun i => Classical.choose (each' i)
    have hY : ∀ i, i < len → (∀ j u, (ndC (Y i).1 (.slice (Y i).2.1 (Y i).1.vs.length (Y i).2.2))[j]? = some u → W.cell? (a.add (i * 102 + j)) = some u) ∧ NdOk (Y i).1 ∧ NdY (Y i).1 ∧ Src W (Y i).2.1 (Y i).2.2 (Y i).1.vs ∧ ((Y i).2.1 = none → (Y i).2.2 = 0) ∧ (Y i).1.vs.length ≤ 140737488351232 := fun i hi => Classical.choose_spec (each' i) hi
    by_cases hz : 0 < len
    · have c00 := (hY 0 hz).1 0 _ rfl
      have hsp : a.spot = none := by
        have := World.cell?_spot c00
        unfold Addr.add at this; split at this <;> simp_all
      obtain ⟨b, o, spot⟩ := a
      obtain rfl : spot = none := hsp
      have hblk : b < W.heap.size := by
        have := block_lt_of_cell c00; rwa [Addr.add_mid] at this
      refine ⟨len, some ⟨b, o, none⟩, m, fun i => (Y i).1, fun i => (Y i).2.1, fun i => (Y i).2.2, rfl, ⟨b, o, fun _ => ⟨hblk, rfl⟩, fun i hi => ?_⟩, hmx⟩
      obtain ⟨e, r⟩ := hY i hi
      refine ⟨fun j u hu => ?_, r⟩
      have := e j u hu
      rw [Addr.add_mid, ← Nat.add_assoc] at this
      exact this
    · exact ⟨len, some a, m, fun _ => nd0, fun _ => none, fun _ => 0, rfl, ⟨0, 0, fun h => by omega, fun i hi => by omega⟩, hmx⟩
set_option maxRecDepth 100000 in
set_option maxHeartbeats 1000000 in
theorem lands_any (w : World) (wd : Int) (m1 m2 : Nat) (hm1 : m1 ≤ 140737488351232) (hm2 : m2 ≤ 140737488351232) (sp1 sp2 : Option Addr) (cap1 cap2 : Nat) (f1 f2 : Nat → Nd) (fs1 fs2 : Nat → Option Addr) (fc1 fc2 : Nat → Nat) (h1 : NSf w sp1 m1 f1 fs1 fc1) (h2 : NSf w sp2 m2 f2 fs2 fc2) (fa : List Int) (hfa : Bts fa) (spf : Option Addr) (capf : Nat) (hS : Src w spf capf fa) :
    Calls Try.prog 3 #[.int .i64 wd, .slice sp1 m1 cap1, .slice sp2 m2 cap2, .slice spf fa.length capf] w fun e w' => e = .returned (.bool true) ∧ Below w.heap.size w w' := by
  by_cases hf : m1 + m2 ≤ 64 ∧ 1 ≤ wd ∧ wd ≤ 32
  · exact lands_in w wd hf.2 m1 m2 hf.1 sp1 sp2 cap1 cap2 f1 f2 fs1 fs2 fc1 fc2 h1 h2 fa hfa spf capf hS
  · have HNW := hid (show Calls Try.prog 4 #[.int .i64 (3 + (m1 : Int) + (m2 : Int))] w fun e w' => (∃ p x, e = .returned (.tuple #[.pointer p, .int .i64 x])) ∧ Below w.heap.size w w' by
      by_cases h4 : 3 + m1 + m2 ≤ 4096
      · have := New_ok w (3 + m1 + m2) (by omega) h4
        rw [show ((3 + m1 + m2 : Nat) : Int) = 3 + (m1 : Int) + (m2 : Int) by omega] at this
        exact this.mono fun e w' ⟨p, F, he, _, hb⟩ => ⟨⟨_, _, he⟩, hb⟩
      · exact (New_no w (3 + (m1 : Int) + (m2 : Int)) (Or.inr (by omega))).mono fun e w' ⟨he, hw⟩ => ⟨⟨_, _, he⟩, by subst hw; exact Below.refl _ _⟩)
    have i1 : (m1 : Int) ≤ 140737488351232 := by omega
    have i2 : (m2 : Int) ≤ 140737488351232 := by omega
    have hc : 64 < (m1 : Int) + (m2 : Int) ∨ ((m1 : Int) + (m2 : Int) ≤ 64 ∧ wd < 1) ∨ ((m1 : Int) + (m2 : Int) ≤ 64 ∧ 1 ≤ wd ∧ 32 < wd) := by omega
    clear h1 h2 hS hf hm1 hm2
    rcases hc with c1 | ⟨c1, c2⟩ | ⟨c1, c2, c3⟩
    all_goals
      go_enter Try.func3, Try.ntmps3
      go_wp2_with fail
      refine HNW.out.mono ?_
      rintro e w1 ⟨⟨p, x, rfl⟩, hb⟩
      go_wp2
      go_ret
      exact ⟨rfl, hb⟩

set_option maxRecDepth 100000 in
theorem nodeLands_contract (H : Type) (enc : TypeId × Value → H) (W : World) (base : Nat) (args : Array Value) (ds gs : List (DataW H)) (before : List MemPlace)
    (hval : ∀ (j : Nat) t v, Try.f3.params[j]? = some t → args[j]? = some v → Value.okWide Try.prog W .any base t v)
    (hW : DataW.Whole enc Try.prog Try.f3.params.toList Rows.nodeLandsSpec.vars false W args.toList ds gs before)
    (hsz : (DataW.weightsEach Try.prog (Try.f3.params.toList ++ Rows.nodeLandsSpec.plain.varTypes Try.prog) (ds ++ gs)).all (· ≤ reachBytes) = true) :
    Calls Try.prog 3 args W fun e W' => ∃ v, e = .returned v ∧ Rows.nodeLandsSpec.post enc Try.prog Try.f3 false true false false W args v W' := by
  have hW' := hW
  obtain ⟨p, q, hA0, hV, rfl, hfz, hnd⟩ := hW
  have hA : DataW.TrodAll enc Try.prog W 0 (fun _ => true) true Try.f3.params.toList args.toList ds p := hA0
  rw [Try.params3] at hA hval hsz
  obtain ⟨v0, vs0, d0, ds0, p0, q0, hargs, rfl, rfl, h0, r0⟩ := trodAll_cons hA
  obtain ⟨v1, vs1, d1, ds1, p1, q1, rfl, rfl, rfl, h1, r1⟩ := trodAll_cons r0
  obtain ⟨v2, vs2, d2, ds2, p2, q2, rfl, rfl, rfl, h2, r2⟩ := trodAll_cons r1
  obtain ⟨v3, vs3, d3, ds3, p3, q3, rfl, rfl, rfl, h3, r3⟩ := trodAll_cons r2
  obtain ⟨rfl, rfl, rfl⟩ := trodAll_nil r3
  obtain rfl : args = #[v0, v1, v2, v3] := by cases args; simp_all
  obtain ⟨rfl, rfl⟩ := trodVars_none hV
  obtain ⟨a0, rfl, rfl, rfl, w0⟩ := open_int Try.underlying3 (hval 0 3 v0 rfl rfl) h0
  have k1 := h1
  have lt1 : ∀ x ∈ p1, x.block < W.heap.size := by obtain ⟨m, hm⟩ := k1; exact DataW.trod_lt m _ _ _ hm
  have ws1 : WS 22 d1 := fun n hn => by
    have := List.all_eq_true.1 hsz n (DataW.weights_mem_each (j := 1) rfl rfl n hn)
    simpa using this
  obtain ⟨a1x, len1x, cap1x, rfl⟩ := okWide_slice Try.underlying22 (hval 1 22 v1 rfl rfl)
  obtain ⟨fuel1, hf1⟩ := h1
  change DataW.trod enc Try.prog W 0 (fun _ => true) true fuel1 22 [Value.slice a1x len1x cap1x] = some (d1, p1) at hf1
  obtain ⟨vv1, hvv1⟩ : ∃ vv, vv = Value.slice a1x len1x cap1x := ⟨_, rfl⟩
  rw [← hvv1] at hf1 k1 hval hA0 hW' ⊢
  clear hvv1
  obtain ⟨m1, sp1, cap1, f1, fs1, fc1, rfl, hS1, hlen1⟩ := open_nodes ws1 hf1
  have k2 := h2
  have lt2 : ∀ x ∈ p2, x.block < W.heap.size := by obtain ⟨m, hm⟩ := k2; exact DataW.trod_lt m _ _ _ hm
  have ws2 : WS 22 d2 := fun n hn => by
    have := List.all_eq_true.1 hsz n (DataW.weights_mem_each (j := 2) rfl rfl n hn)
    simpa using this
  obtain ⟨a2x, len2x, cap2x, rfl⟩ := okWide_slice Try.underlying22 (hval 2 22 v2 rfl rfl)
  obtain ⟨fuel2, hf2⟩ := h2
  change DataW.trod enc Try.prog W 0 (fun _ => true) true fuel2 22 [Value.slice a2x len2x cap2x] = some (d2, p2) at hf2
  obtain ⟨vv2, hvv2⟩ : ∃ vv, vv = Value.slice a2x len2x cap2x := ⟨_, rfl⟩
  rw [← hvv2] at hf2 k2 hval hA0 hW' ⊢
  clear hvv2
  obtain ⟨m2, sp2, cap2, f2, fs2, fc2, rfl, hS2, hlen2⟩ := open_nodes ws2 hf2
  have k3 := h3
  have lt3 : ∀ x ∈ p3, x.block < W.heap.size := by obtain ⟨m, hm⟩ := k3; exact DataW.trod_lt m _ _ _ hm
  obtain ⟨zs3, sp3, cap3, rfl, y3, hS3, hn3, hb3⟩ := open_bytesD (hval 3 23 v3 rfl rfl) h3
  clear hA0
  have hlen3 : zs3.length ≤ 140737488351232 := by
    rcases hb3 with h | ⟨el, spare, rfl, he⟩
    · omega
    · have := sized_slice hsz (j := 3) (t := 23) (e := 5) rfl rfl Try.underlying23
      rw [Try.bytes5] at this
      simp only [reachBytes] at this
      omega
  refine (lands_any W a0 m1 m2 hlen1 hlen2 sp1 sp2 cap1 cap2 f1 f2 fs1 fs2 fc1 fc2 hS1 hS2 zs3 y3 sp3 cap3 hS3).mono fun e W' ⟨he, bel⟩ => ?_
  subst he
  exact ⟨_, rfl, _, _, _, [], _, [], hW', trodAll_mk1 (shut_bool Try.underlying4 _), (trodAll_cons_mk (shut_int Try.underlying3 w0) (trodAll_cons_mk (Below.trod Try.laidOut (by kernel_rfl) (of_decide_eq_true (by kernel_rfl)) k1 bel lt1) (trodAll_cons_mk (Below.trod Try.laidOut (by kernel_rfl) (of_decide_eq_true (by kernel_rfl)) k2 bel lt2) (trodAll_cons_mk (Below.trod Try.laidOut (by kernel_rfl) (of_decide_eq_true (by kernel_rfl)) k3 bel lt3) trodAll_mk0)))), rfl, bel.frame _, fun h => by cases h⟩

def nodeLands_xs {H : Type} : List (DataW H) := [.lit (.int .i64 0), .nil, .nil, .nil]
theorem nodeLands_reads (os : Os) {H : Type} (enc : TypeId × Value → H) : ∃ places, DataW.whole enc Try.prog ((World.holding Try.prog os ⟨#[], #[], []⟩).forCall (fun _ _ => 0) ⟨#[], #[.int .i64 0, .slice none 0 0, .slice none 0 0, .slice none 0 0], []⟩).memory Try.f3.params.toList Rows.nodeLandsSpec.vars false (#[.int .i64 0, .slice none 0 0, .slice none 0 0, .slice none 0 0] : Array Value).toList 8 = some (nodeLands_xs, [], places) :=
  ⟨[], by kernel_rfl⟩
set_option maxRecDepth 100000 in
theorem nodeLands_lifted (os : Os) (started : os.Started) (H : Type) (enc : TypeId × Value → H) (F : Stop.Interp) :
    ReturnsInHanded {} Try.checked os 3 .any ((OpenSpec.ofChange Rows.nodeLandsSpec).preRow enc Try.prog Try.f3 Rows.nodeLandsRow.domain false Rows.nodeLandsRow.laid) (((OpenSpec.ofChange Rows.nodeLandsSpec).at F).post enc Try.prog Try.f3 false true false false) := by
  obtain ⟨places, hx⟩ := nodeLands_reads os enc
  refine returnsInHanded_of_row (C := Try.checked) (s := OpenSpec.ofChange Rows.nodeLandsSpec) own_knob started (by kernel_rfl) Try.func3
    (witness_row_at (enc := enc) (C := Try.checked) false (World.holding Try.prog os ⟨#[], #[], []⟩) #[.int .i64 0, .slice none 0 0, .slice none 0 0, .slice none 0 0] rfl (by kernel_rfl) (by kernel_rfl) (by kernel_rfl)
      (OpenSpec.preRow_of_cond 8 hx (by kernel_rfl) (fun k hk => by cases hk) (by kernel_rfl) (laidMet_of_run' 8 (by kernel_rfl) (by kernel_rfl)))) ?_
  intro W base args ds gs before hval hW _ _ hsz hL _ _
  exact nodeLands_contract H enc W base args ds gs before hval hW hsz

theorem nodeLands_said : Rows.NodeLandsSaid :=
  OpenClaim.holds_of_cond 3 Try.f3 rfl rfl rfl rfl rfl rfl rfl ⟨rfl, rfl, rfl, rfl, rfl⟩ rfl rfl rfl rfl rfl (by kernel_rfl) Try.func3 (by kernel_rfl)
    (of_decide_eq_true (by kernel_rfl)) (by unfold Func.isWrapper; first | (rw [if_pos (by decide +kernel)]; kernel_rfl) | (rw [if_neg (by decide +kernel)]; exact ⟨rfl, rfl⟩))
    (fun os started H enc _ F => by rw [OpenClaim.pre_eq_preRow]; exact nodeLands_lifted os started H enc F)

#print axioms nodeLands_said
end Go.Proofs.Ytbcadiecpcngdaa
