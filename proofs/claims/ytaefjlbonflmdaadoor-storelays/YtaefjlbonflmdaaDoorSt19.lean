import Derived.Test.YtaefjlbonflmdaaDoorLa5
import Derived.Test.YtaefjlbonflmdaaDoorSf
import Derived.Deep.Slices
namespace Go.Proofs.YtaefjlbonflmdaaDoor
set_option linter.unusedVariables false
set_option linter.unusedSimpArgs false
open Go.ChangeShapes Go.WideShapes Go.ChangeAt Go.RowKit

/-- No slice in it is beyond the reach. -/
def WS {H : Type} (t : TypeId) (d : DataW H) : Prop := ∀ n ∈ d.weights Tryd.prog t, n ≤ reachBytes
theorem weightsAll_mem {H : Type} {P : Program} {e : TypeId} : ∀ {l : List (DataW H)} {d : DataW H}, d ∈ l → ∀ n ∈ d.weights P e, n ∈ DataW.weightsAll P e l
  | x :: l, d, hd, n, hn => by
    simp only [DataW.weightsAll, List.mem_append]
    rcases List.mem_cons.1 hd with rfl | h
    · exact Or.inl hn
    · exact Or.inr (weightsAll_mem h n hn)
theorem WS.slice {H : Type} {t e : TypeId} {el sp : List (DataW H)} (hu : Tryd.prog.underlying t = some (.slice e)) (h : WS t (.slice el sp)) : (el.length + sp.length) * Tryd.prog.bytesOf e ≤ reachBytes ∧ ∀ d ∈ el, WS e d :=
  ⟨h _ (by simp [DataW.weights, hu]), fun d hd n hn => h n (by
    simp only [DataW.weights, hu, List.mem_cons, List.mem_append]
    exact Or.inr (Or.inl (weightsAll_mem hd n hn)))⟩
theorem WS.field {H : Type} {t : TypeId} {fs : Array Field} {ds : List (DataW H)} (hu : Tryd.prog.underlying t = some (.struct fs)) (h : WS t (.agg ds)) {j : Nat} {f : Field} {d : DataW H} (hf : fs[j]? = some f) (hd : ds[j]? = some d) : WS f.type d :=
  fun n hn => h n (by
    simp only [DataW.weights, hu]
    exact DataW.weights_mem_each (by rw [List.getElem?_map]; simp [hf]) hd n hn)
section
variable {H : Type} {enc : TypeId × Value → H} {W : World}
set_option maxRecDepth 100000 in
theorem open_bytesN {fuel : Nat} {v : Value} {d : DataW H} {p : List MemPlace} (hw : WS 29 d) (hf : DataW.trod enc Tryd.prog W 0 (fun _ => true) true fuel 29 [v] = some (d, p)) :
    ∃ (zs : List Int) (sp : Option Addr) (cap : Nat), v = .slice sp zs.length cap ∧ Byts zs ∧ Src W sp cap zs ∧ (sp = none → cap = 0) ∧ zs.length ≤ 140737488351232 := by
  rcases open_ints Tryd.underlying29 Tryd.underlying5 cells5 hf with ⟨hcs, hx⟩ | ⟨a, len, cap, zs, hcs, _, hl, hm, hz, hx, hcell, hwz⟩
  · simp at hcs
    subst hcs
    exact ⟨[], none, 0, rfl, fun x hx => by simp at hx, Src.nil W, fun _ => rfl, by simp⟩
  · simp at hcs
    subst hcs
    have hzl : zs.length = cap := by simpa using hz
    have hll : (zs.take len).length = len := by rw [List.length_take]; omega
    refine ⟨zs.take len, some a, cap, by rw [hll], fun x hx => ?_, ⟨by rw [hll]; exact hl, hm, ?_⟩, (fun h => by cases h), ?_⟩
    · have := bounds_u8 (hwz x (List.mem_of_mem_take hx))
      omega
    · rw [hll]
      by_cases hL : 0 < len
      · have hc0 := hcell 0 (by omega)
        have hsp : a.spot = none := by have := World.cell?_spot hc0; unfold Addr.add at this; split at this <;> simp_all
        obtain ⟨b, o, spot⟩ := a
        obtain rfl : spot = none := hsp
        refine ⟨b, o, fun _ => by have := block_lt_of_cell hc0; rwa [Addr.add_mid] at this, fun _ => rfl, fun j hj => ?_⟩
        have := hcell j (by omega)
        rw [Addr.add_mid] at this
        rw [this]
        congr 2
        simp [List.getElem?_take, hj]
      · exact ⟨0, 0, fun h => by omega, fun h => by omega, fun j hj => by omega⟩
    · rw [hll]
      simp only [Prod.mk.injEq] at hx
      rw [hx.1] at hw
      have := (hw.slice Tryd.underlying29).1
      rw [Tryd.bytes5] at this
      simp [lits, reachBytes] at this
      omega
theorem cellsF : Tryd.prog.cellsOf 40 = 2 := by kernel_rfl
theorem cellsBy : Tryd.prog.cellsOf 29 = 1 := by kernel_rfl
theorem cells3 : Tryd.prog.cellsOf 3 = 1 := by kernel_rfl
set_option maxRecDepth 100000 in
theorem open_mades {fuel : Nat} {v : Value} {d : DataW H} {p : List MemPlace} (hw : WS 35 d) (hf : DataW.trod enc Tryd.prog W 0 (fun _ => true) true fuel 35 [v] = some (d, p)) :
    ∃ (ac : List MD) (sp : Option Addr) (cap : Nat), v = .slice sp ac.length cap ∧ Mds W W.heap.size sp ac ∧ (∀ c ∈ ac, MdOk c) ∧ ac.length ≤ cap ∧ cap ≤ 9223372036854775807 := by
  rcases Deep.open_slice Tryd.underlying35 hf with ⟨hcs, hx⟩ | ⟨a, len, cap, m, n, D, Pl, hcs, _, hl, hm, hmm, hx, hrow⟩
  · simp at hcs
    subst hcs
    exact ⟨[], none, 0, rfl, ⟨0, 0, fun h => by simp at h, fun i hi => by simp at hi⟩, fun c hc => by simp at hc, by decide, by decide⟩
  · simp at hcs
    subst hcs
    simp only [Prod.mk.injEq] at hx
    obtain ⟨rfl, _⟩ := hx
    simp only [if_true] at hmm
    subst hmm
    obtain ⟨w1, w2⟩ := hw.slice Tryd.underlying35
    have each : ∀ i, i < len → ∃ q : MD, (∃ tp tc, (∀ j u, (mdL q tp tc)[j]? = some u → W.cell? (a.add (i * 2 + j)) = some u) ∧ Src W tp tc q.load ∧ (0 < q.load.length → ∀ x, tp = some x → x.block < W.heap.size)) ∧ MdOk q := by
      intro i hi
      obtain ⟨cs', h1, h2⟩ := hrow i (by omega)
      rw [cellsF] at h1
      obtain ⟨_, hlen, hcell⟩ := World.cells?_some h1
      obtain ⟨xs, k, hk, hxy, _, hxl, hfd⟩ := DataW.trod_struct Tryd.underlying40 h2
      have hd := w2 (D i) (List.mem_map.2 ⟨i, List.mem_range.2 hi, rfl⟩)
      have hxl' : xs.length = 2 := hxl
      simp only [Prod.mk.injEq] at hxy
      rw [hxy.1] at hd
      have g0 : DataW.trod enc Tryd.prog W 0 (fun _ => true) true k 3 ((cs'.drop 0).take 1) = some xs[0] := by
        have := hfd 0 _ rfl
        rw [List.getElem?_eq_getElem (by omega)] at this
        change DataW.trod enc Tryd.prog W 0 (fun _ => true) true k 3 ((cs'.drop 0).take (Tryd.prog.cellsOf 3)) = _ at this
        rw [cells3] at this; exact this
      have g2 : DataW.trod enc Tryd.prog W 0 (fun _ => true) true k 29 ((cs'.drop 1).take 1) = some xs[1] := by
        have := hfd 1 _ rfl
        rw [List.getElem?_eq_getElem (by omega)] at this
        change DataW.trod enc Tryd.prog W 0 (fun _ => true) true k 29 ((cs'.drop 1).take (Tryd.prog.cellsOf 29)) = _ at this
        rw [cellsBy] at this; exact this
      obtain ⟨z0, e0, _, b0⟩ := DataW.trod_int Tryd.underlying3 g0
      have e2 : ∃ sv, (cs'.drop 1).take 1 = [sv] := by
        rw [List.take_one, List.head?_drop, List.getElem?_eq_getElem (by omega)]; exact ⟨_, rfl⟩
      obtain ⟨sv, e2⟩ := e2
      rw [e2] at g2
      have hws : WS 29 (xs[1]).1 := hd.field Tryd.underlying40 (j := 1) rfl (by rw [List.getElem?_map, List.getElem?_eq_getElem (by omega)]; rfl)
      obtain ⟨val, sp, cap', e3, yv, hS, hnil, hvl⟩ := open_bytesN (d := (xs[1]).1) (p := (xs[1]).2) hws g2
      subst e3
      have hcs : cs' = [.int .i64 z0, .slice sp val.length cap'] := by
        have key : ∀ c : List Value, c.length = 2 → (c.drop 0).take 1 = [.int .i64 z0] → (c.drop 1).take 1 = [.slice sp val.length cap'] → c = [.int .i64 z0, .slice sp val.length cap'] := by
          intro c hc q0 q2
          match c, hc with
          | [x0, x2], _ =>
            simp at q0 q2
            rw [q0, q2]
        exact key cs' hlen e0 e2
      refine ⟨⟨z0, val⟩, ⟨sp, cap', fun j u hu => ?_, hS, fun hp x hx => ?_⟩, yv, by show val.length ≤ _; omega⟩
      · have hu2 : cs'[j]? = some u := by rw [hcs]; exact hu
        have hj := (List.getElem?_eq_some_iff.1 hu2).1
        have := hcell j (by omega)
        rw [Deep.add_add] at this
        rw [this, hu2]
      · obtain ⟨_, _, b, o, h3, h4, _⟩ := hS
        rw [h4 hp] at hx; cases hx; exact h3 hp
    haveI : Inhabited MD := ⟨dM⟩
    obtain ⟨q, hq⟩ := Deep.choose_lt (α := MD) each
    have gm : ∀ i, i < len → ((List.range len).map q).getD i dM = q i := fun i hi => by simp [hi]
    have hlen : ((List.range len).map q).length = len := by simp
    have okc : ∀ c ∈ (List.range len).map q, MdOk c := fun c hc => by
      obtain ⟨i, hi, rfl⟩ := List.mem_map.1 hc
      exact (hq i (List.mem_range.1 hi)).2
    have hmx : (len : Int) ≤ 9223372036854775807 := by unfold maxLen at hm; omega
    by_cases hz : 0 < len
    · obtain ⟨tp, tc, c0, _⟩ := (hq 0 hz).1
      have c00 := c0 0 _ rfl
      have hsp : a.spot = none := by
        have := World.cell?_spot c00
        unfold Addr.add at this; split at this <;> simp_all
      obtain ⟨b, o, spot⟩ := a
      obtain rfl : spot = none := hsp
      have hblk : b < W.heap.size := by
        have := block_lt_of_cell c00; rwa [Addr.add_mid] at this
      refine ⟨(List.range len).map q, some ⟨b, o, none⟩, m, by rw [hlen], ⟨b, o, fun _ => ⟨hblk, rfl⟩, fun i hi => ?_⟩, okc, by rw [hlen]; exact hl, by unfold maxLen at hm; omega⟩
      rw [hlen] at hi
      rw [gm i hi]
      obtain ⟨tp, tc, e1, e2, e3⟩ := (hq i hi).1
      refine ⟨tp, tc, fun j u hu => ?_, e2, e3⟩
      have := e1 j u hu
      rw [Addr.add_mid, ← Nat.add_assoc] at this
      exact this
    · exact ⟨(List.range len).map q, some a, m, by rw [hlen], ⟨0, 0, fun h => by rw [hlen] at h; omega, fun i hi => by rw [hlen] at hi; omega⟩, okc, by rw [hlen]; exact hl, by unfold maxLen at hm; omega⟩
end
end Go.Proofs.YtaefjlbonflmdaaDoor
