import Derived.Test.YtlhmhpkgdcdjkaaZb2
import Derived.ProofKit
import Derived.OpenShut
import Derived.SizedLaws
import Derived.Deep.DeepHandedRow
import Derived.Deep.Slices
import Derived.Lib.LaidTab
namespace Go.Proofs.Ytlhmhpkgdcdjkaa
set_option linter.unusedVariables false
set_option linter.unusedSimpArgs false
open Go.ChangeShapes Go.WideShapes Go.ChangeAt Go.RowKit

theorem own_knob : ownKnob Try.prog.godebug = none := by kernel_rfl
theorem Try.laidOut : laidOutB Try.prog = true := by kernel_rfl
theorem cells5 : Try.prog.cellsOf 5 = 1 := by kernel_rfl
theorem Try.bytes5 : Try.prog.bytesOf 5 = 1 := by kernel_rfl
theorem cellsD : Try.prog.cellsOf 43 = 32 := by kernel_rfl
theorem cellsA : Try.prog.cellsOf 23 = 32 := by kernel_rfl
/-- No slice in it is beyond the reach. -/
def WS {H : Type} (t : TypeId) (d : DataW H) : Prop := ∀ n ∈ d.weights Try.prog t, n ≤ reachBytes
theorem weightsAll_mem {H : Type} {P : Program} {e : TypeId} : ∀ {l : List (DataW H)} {d : DataW H}, d ∈ l → ∀ n ∈ d.weights P e, n ∈ DataW.weightsAll P e l
  | x :: l, d, hd, n, hn => by
    simp only [DataW.weightsAll, List.mem_append]
    rcases List.mem_cons.1 hd with rfl | h
    · exact Or.inl hn
    · exact Or.inr (weightsAll_mem h n hn)
theorem WS.slice {H : Type} {t e : TypeId} {el sp : List (DataW H)} (hu : Try.prog.underlying t = some (.slice e)) (h : WS t (.slice el sp)) : (el.length + sp.length) * Try.prog.bytesOf e ≤ reachBytes ∧ ∀ d ∈ el, WS e d :=
  ⟨h _ (by simp [DataW.weights, hu]), fun d hd n hn => h n (by
    simp only [DataW.weights, hu, List.mem_cons, List.mem_append]
    exact Or.inr (Or.inl (weightsAll_mem hd n hn)))⟩
theorem WS.field {H : Type} {t : TypeId} {fs : Array Field} {ds : List (DataW H)} (hu : Try.prog.underlying t = some (.struct fs)) (h : WS t (.agg ds)) {j : Nat} {f : Field} {d : DataW H} (hf : fs[j]? = some f) (hd : ds[j]? = some d) : WS f.type d :=
  fun n hn => h n (by
    simp only [DataW.weights, hu]
    exact DataW.weights_mem_each (by rw [List.getElem?_map]; simp [hf]) hd n hn)
section
variable {H : Type} {enc : TypeId × Value → H} {W : World}
theorem open_dig {fuel : Nat} {cs : List Value} {x : DataW H × List MemPlace} (h : DataW.trod enc Try.prog W 0 (fun _ => true) true fuel 43 cs = some x) : ∃ k : List Int, cs = ints .u8 k ∧ k.length = 32 ∧ Bys k := by
  cases fuel with
  | zero => simp [DataW.trod] at h
  | succ n =>
    rw [DataW.trod_step] at h
    unfold DataW.trodStep at h
    simp only [Try.underlying43, cellsD, cells5] at h
    split at h
    · rename_i hl
      obtain ⟨xs, hm, _⟩ := Option.map_eq_some_iff.1 h
      have each : ∀ i, i < 32 → ∃ z, cs[i]? = some (.int .u8 z) ∧ 0 ≤ z ∧ z < 256 := fun i hi => by
        have := mapM_some_get hm i i (by simp [hi])
        have hxl := mapM_some_length hm
        simp at hxl
        rw [List.getElem?_eq_getElem (by omega)] at this
        obtain ⟨z, hz, _, hw⟩ := DataW.trod_int Try.underlying5 this
        have hb := bounds_u8 hw
        refine ⟨z, ?_, by omega, by omega⟩
        have e : ((cs.drop (i * 1)).take 1)[0]? = cs[i]? := by simp
        rw [← e, hz]; rfl
      refine ⟨cs.map intOf, ?_, by simp [hl], ?_⟩
      · apply List.ext_getElem?
        intro i
        by_cases hi : i < 32
        · obtain ⟨z, hz, _⟩ := each i hi
          simp [ints, hz, intOf]
        · rw [List.getElem?_eq_none (by omega), List.getElem?_eq_none (by simp [ints]; omega)]
      · intro y hy
        obtain ⟨v, hv, rfl⟩ := List.mem_map.1 hy
        obtain ⟨i, hi, rfl⟩ := List.mem_iff_getElem.1 hv
        obtain ⟨z, hz, h1, h2⟩ := each i (by omega)
        rw [List.getElem?_eq_getElem hi] at hz
        rw [Option.some.inj hz]; exact ⟨h1, h2⟩
    · cases h
theorem open_a32 {fuel : Nat} {cs : List Value} {x : DataW H × List MemPlace} (h : DataW.trod enc Try.prog W 0 (fun _ => true) true fuel 23 cs = some x) : ∃ k : List Int, cs = ints .u8 k ∧ k.length = 32 ∧ Bys k := by
  cases fuel with
  | zero => simp [DataW.trod] at h
  | succ n =>
    rw [DataW.trod_step] at h
    unfold DataW.trodStep at h
    simp only [Try.underlying23, cellsA, cells5] at h
    split at h
    · rename_i hl
      obtain ⟨xs, hm, _⟩ := Option.map_eq_some_iff.1 h
      have each : ∀ i, i < 32 → ∃ z, cs[i]? = some (.int .u8 z) ∧ 0 ≤ z ∧ z < 256 := fun i hi => by
        have := mapM_some_get hm i i (by simp [hi])
        have hxl := mapM_some_length hm
        simp at hxl
        rw [List.getElem?_eq_getElem (by omega)] at this
        obtain ⟨z, hz, _, hw⟩ := DataW.trod_int Try.underlying5 this
        have hb := bounds_u8 hw
        refine ⟨z, ?_, by omega, by omega⟩
        have e : ((cs.drop (i * 1)).take 1)[0]? = cs[i]? := by simp
        rw [← e, hz]; rfl
      refine ⟨cs.map intOf, ?_, by simp [hl], ?_⟩
      · apply List.ext_getElem?
        intro i
        by_cases hi : i < 32
        · obtain ⟨z, hz, _⟩ := each i hi
          simp [ints, hz, intOf]
        · rw [List.getElem?_eq_none (by omega), List.getElem?_eq_none (by simp [ints]; omega)]
      · intro y hy
        obtain ⟨v, hv, rfl⟩ := List.mem_map.1 hy
        obtain ⟨i, hi, rfl⟩ := List.mem_iff_getElem.1 hv
        obtain ⟨z, hz, h1, h2⟩ := each i (by omega)
        rw [List.getElem?_eq_getElem hi] at hz
        rw [Option.some.inj hz]; exact ⟨h1, h2⟩
    · cases h
theorem open_bytesN {fuel : Nat} {v : Value} {d : DataW H} {p : List MemPlace} (hw : WS 22 d) (hf : DataW.trod enc Try.prog W 0 (fun _ => true) true fuel 22 [v] = some (d, p)) :
    ∃ (zs : List Int) (sp : Option Addr) (cap : Nat), v = .slice sp zs.length cap ∧ Bys zs ∧ Src W sp cap zs ∧ (sp = none → cap = 0) ∧ zs.length ≤ 140737488351232 := by
  rcases open_ints Try.underlying22 Try.underlying5 cells5 hf with ⟨hcs, hx⟩ | ⟨a, len, cap, zs, hcs, _, hl, hm, hz, hx, hcell, hwz⟩
  · simp at hcs
    subst hcs
    exact ⟨[], none, 0, rfl, fun x hx => by simp at hx, Src.nil W, fun _ => rfl, by simp⟩
  · simp at hcs
    subst hcs
    have hzl : zs.length = cap := by simpa using hz
    have hll : (zs.take len).length = len := by rw [List.length_take]; omega
    refine ⟨zs.take len, some a, cap, by rw [hll], fun x hx => ?_, ⟨by rw [hll]; exact hl, hm, ?_⟩, (fun h => by cases h), ?_⟩
    · have := bounds_u8 (hwz x (List.mem_of_mem_take hx))
      omega
    · rw [hll]
      by_cases hL : 0 < len
      · have hc0 := hcell 0 (by omega)
        have hsp : a.spot = none := by have := World.cell?_spot hc0; unfold Addr.add at this; split at this <;> simp_all
        obtain ⟨b, o, spot⟩ := a
        obtain rfl : spot = none := hsp
        refine ⟨b, o, fun _ => by have := block_lt_of_cell hc0; rwa [Addr.add_mid] at this, fun _ => rfl, fun j hj => ?_⟩
        have := hcell j (by omega)
        rw [Addr.add_mid] at this
        rw [this]
        congr 2
        simp [List.getElem?_take, hj]
      · exact ⟨0, 0, fun h => by omega, fun h => by omega, fun j hj => by omega⟩
    · rw [hll]
      simp only [Prod.mk.injEq] at hx
      rw [hx.1] at hw
      have := (hw.slice Try.underlying22).1
      rw [Try.bytes5] at this
      simp [lits, reachBytes] at this
      omega
end
theorem cut_at (l : List Value) (n m : Nat) : l.drop n = (l.drop n).take m ++ l.drop (n + m) := by
  have := (List.take_append_drop m (l.drop n)).symm
  rwa [List.drop_drop] at this
theorem trod_one {H : Type} {enc : TypeId × Value → H} {W : World} {l : List Value} {n : Nat} (h : n < l.length) : ∃ sv, (l.drop n).take 1 = [sv] := by
  rw [List.take_one, List.head?_drop, List.getElem?_eq_getElem h]; exact ⟨_, rfl⟩
theorem open_digs {H : Type} {enc : TypeId × Value → H} {W : World} {fuel : Nat} {v : Value} {d : DataW H} {p : List MemPlace} (hw : WS 24 d) (hf : DataW.trod enc Try.prog W 0 (fun _ => true) true fuel 24 [v] = some (d, p)) :
    ∃ (ks : List (List Int)) (sp : Option Addr) (cap : Nat), v = .slice sp ks.length cap ∧ (∀ k ∈ ks, k.length = 32 ∧ Bys k) ∧ (ks.length * 32 ≤ 140737488351232 ∧ ks.length ≤ cap ∧ (sp = none → cap = 0)) ∧ cap ≤ maxLen ∧ (0 < ks.length → ∃ b o, b < W.heap.size ∧ sp = some ⟨b, o, none⟩ ∧ ∀ i, i < ks.length → W.rangeAt b (o + i * 32) (ints .u8 (ks.getD i []))) := by
  rcases Deep.open_slice Try.underlying24 hf with ⟨hcs, hx⟩ | ⟨a, len, cap, m, n, D, Pl, hcs, _, hl, hm, hmm, hx, hrow⟩
  · simp at hcs
    subst hcs
    exact ⟨[], none, 0, rfl, fun k hk => by simp at hk, ⟨by simp, by simp, fun _ => rfl⟩, by simp [maxLen], fun h => by simp at h⟩
  · simp at hcs
    subst hcs
    simp only [Prod.mk.injEq] at hx
    obtain ⟨rfl, _⟩ := hx
    simp only [if_true] at hmm
    subst hmm
    obtain ⟨w1, w2⟩ := hw.slice Try.underlying24
    rw [show Try.prog.bytesOf 43 = 32 by kernel_rfl] at w1
    simp [reachBytes] at w1
    have each : ∀ i, i < len → ∃ q : List Int, (∀ j u, (ints .u8 q)[j]? = some u → W.cell? (a.add (i * 32 + j)) = some u) ∧ q.length = 32 ∧ Bys q := by
      intro i hi
      obtain ⟨cs', h1, h2⟩ := hrow i (by omega)
      rw [cellsD] at h1
      obtain ⟨_, hlen, hcell⟩ := World.cells?_some h1
      obtain ⟨k, rfl, lk, yk⟩ := open_dig h2
      refine ⟨k, fun j u hu => ?_, lk, yk⟩
      have hj := (List.getElem?_eq_some_iff.1 hu).1
      have := hcell j (by omega)
      rw [Deep.add_add] at this
      rw [this, hu]
    obtain ⟨q, hq⟩ := Deep.choose_lt (α := List Int) each
    have gm : ∀ i, i < len → ((List.range len).map q).getD i [] = q i := fun i hi => by simp [hi]
    have hlen : ((List.range len).map q).length = len := by simp
    have okc : ∀ k ∈ (List.range len).map q, k.length = 32 ∧ Bys k := fun c hc => by
      obtain ⟨i, hi, rfl⟩ := List.mem_map.1 hc
      exact (hq i (List.mem_range.1 hi)).2
    by_cases hz : 0 < len
    · have c0 := (hq 0 hz).1 0 ((ints .u8 (q 0))[0]'(by rw [ints_len, (hq 0 hz).2.1]; omega)) (List.getElem?_eq_getElem _)
      have hsp : a.spot = none := by
        have := World.cell?_spot c0
        unfold Addr.add at this; split at this <;> simp_all
      obtain ⟨b, o, spot⟩ := a
      obtain rfl : spot = none := hsp
      have hblk : b < W.heap.size := by
        have := block_lt_of_cell c0; rwa [Addr.add_mid] at this
      refine ⟨(List.range len).map q, some ⟨b, o, none⟩, m, by rw [hlen], okc, ⟨by rw [hlen]; omega, by rw [hlen]; exact hl, fun h => by cases h⟩, hm, fun _ => ⟨b, o, hblk, rfl, fun i hi j u hu => ?_⟩⟩
      rw [hlen] at hi
      rw [gm i hi] at hu
      have := (hq i hi).1 j u hu
      rw [Addr.add_mid, ← Nat.add_assoc] at this
      exact this
    · exact ⟨(List.range len).map q, some a, m, by rw [hlen], okc, ⟨by rw [hlen]; omega, by rw [hlen]; exact hl, fun h => by cases h⟩, hm, fun h => by rw [hlen] at h; omega⟩
theorem srcD_of {W : World} {ks : List (List Int)} {sp : Option Addr} {cap : Nat} (h1 : ∀ k ∈ ks, k.length = 32 ∧ Bys k) (h2 : ks.length ≤ cap) (h3 : cap ≤ maxLen) (h4 : 0 < ks.length → ∃ b o, b < W.heap.size ∧ sp = some ⟨b, o, none⟩ ∧ ∀ i, i < ks.length → W.rangeAt b (o + i * 32) (ints .u8 (ks.getD i []))) : SrcD W sp cap ks := by
  by_cases hp : 0 < ks.length
  · obtain ⟨b, o, q1, q2, q3⟩ := h4 hp
    exact ⟨h2, h3, fun d hd => (h1 d hd).1, b, o, fun _ => q1, fun _ => q2, q3⟩
  · obtain rfl : ks = [] := List.eq_nil_of_length_eq_zero (by omega)
    exact SrcD.empty _ _ _ h3
set_option maxRecDepth 100000 in
theorem open_proof {H : Type} {enc : TypeId × Value → H} {W : World} {fuel : Nat} {nd : List Value} {x : DataW H × List MemPlace} (hd : WS 26 x.1) (hnl : nd.length = 35) (g8 : DataW.trod enc Try.prog W 0 (fun _ => true) true fuel 26 nd = some x) :
    ∃ (p : Pf) (s1 s2 : Option Addr) (c1 c2 : Nat), nd = pfC p (.slice s1 p.vs.length c1) (.slice s2 p.ss.length c2) ∧ PfOk p ∧ PfY p ∧ Src W s1 c1 p.vs ∧ ((s1 = none → c1 = 0) ∧ (s2 = none → c2 = 0)) ∧ SrcD W s2 c2 p.ss ∧ p.vs.length ≤ 140737488351232 ∧ p.ss.length * 32 ≤ 140737488351232 := by
  obtain ⟨ys, kn, _, hxy, _, hyl, hfn⟩ := DataW.trod_struct (x := x) Try.underlying26 g8
  have hyl' : ys.length = 4 := hyl
  rw [hxy] at hd
  have n0 : DataW.trod enc Try.prog W 0 (fun _ => true) true kn 4 ((nd.drop 0).take 1) = some ys[0] := by
    have := hfn 0 _ rfl
    rw [List.getElem?_eq_getElem (by omega)] at this
    change DataW.trod enc Try.prog W 0 (fun _ => true) true kn 4 ((nd.drop 0).take (Try.prog.cellsOf 4)) = _ at this
    rw [show Try.prog.cellsOf 4 = 1 by kernel_rfl] at this; exact this
  have n1 : DataW.trod enc Try.prog W 0 (fun _ => true) true kn 22 ((nd.drop 1).take 1) = some ys[1] := by
    have := hfn 1 _ rfl
    rw [List.getElem?_eq_getElem (by omega)] at this
    change DataW.trod enc Try.prog W 0 (fun _ => true) true kn 22 ((nd.drop 1).take (Try.prog.cellsOf 22)) = _ at this
    rw [show Try.prog.cellsOf 22 = 1 by kernel_rfl] at this; exact this
  have n2 : DataW.trod enc Try.prog W 0 (fun _ => true) true kn 23 ((nd.drop 2).take 32) = some ys[2] := by
    have := hfn 2 _ rfl
    rw [List.getElem?_eq_getElem (by omega)] at this
    change DataW.trod enc Try.prog W 0 (fun _ => true) true kn 23 ((nd.drop 2).take (Try.prog.cellsOf 23)) = _ at this
    rw [show Try.prog.cellsOf 23 = 32 by kernel_rfl] at this; exact this
  have n3 : DataW.trod enc Try.prog W 0 (fun _ => true) true kn 24 ((nd.drop 34).take 1) = some ys[3] := by
    have := hfn 3 _ rfl
    rw [List.getElem?_eq_getElem (by omega)] at this
    change DataW.trod enc Try.prog W 0 (fun _ => true) true kn 24 ((nd.drop 34).take (Try.prog.cellsOf 24)) = _ at this
    rw [show Try.prog.cellsOf 24 = 1 by kernel_rfl] at this; exact this
  obtain ⟨y0, f0, _⟩ := DataW.trod_bool Try.underlying4 n0
  obtain ⟨u2, f2, l2, b2⟩ := open_a32 n2
  obtain ⟨sn, f1⟩ := trod_one (enc := enc) (W := W) (l := nd) (n := 1) (by omega)
  rw [f1] at n1
  have hws : WS 22 (ys[1]).1 := hd.field Try.underlying26 (j := 1) rfl (by rw [List.getElem?_map, List.getElem?_eq_getElem (by omega)]; rfl)
  obtain ⟨val, sp, cap, e8, yv, hS, hnil, hvl⟩ := open_bytesN (d := (ys[1]).1) (p := (ys[1]).2) hws n1
  subst e8
  obtain ⟨sm, f3⟩ := trod_one (enc := enc) (W := W) (l := nd) (n := 34) (by omega)
  rw [f3] at n3
  have hwd : WS 24 (ys[3]).1 := hd.field Try.underlying26 (j := 3) rfl (by rw [List.getElem?_map, List.getElem?_eq_getElem (by omega)]; rfl)
  obtain ⟨ks, sp2, cap2, e9, hk, ⟨hkl, hkc, hkn⟩, hkm, hkr⟩ := open_digs (d := (ys[3]).1) (p := (ys[3]).2) hwd n3
  subst e9
  have hne : nd = [.bool y0] ++ ([.slice sp val.length cap] ++ (ints .u8 u2 ++ ([.slice sp2 ks.length cap2] ++ nd.drop 35))) := by
    rw [← f0, ← f1, ← f2, ← f3, ← cut_at nd 34 1, ← cut_at nd 2 32, ← cut_at nd 1 1, ← cut_at nd 0 1]; rfl
  rw [List.drop_of_length_le (by omega : nd.length ≤ 35)] at hne
  exact ⟨⟨y0, val, u2, ks⟩, sp, sp2, cap, cap2, hne, ⟨l2, fun d hd => (hk d hd).1⟩, ⟨yv, b2, fun d hd => (hk d hd).2⟩, hS, ⟨hnil, hkn⟩, srcD_of hk hkc hkm hkr, hvl, hkl⟩
theorem open_proofV {H : Type} {enc : TypeId × Value → H} {W : World} {v : Value} {d : DataW H} {p : List MemPlace} {b0 : Nat}
    (hw : WS 26 d) (hv : Value.okWide Try.prog W .any b0 26 v) (h : DataW.Trod enc Try.prog W 0 (fun _ => true) true 26 v d p) : ∃ (p : Pf) (s1 s2 : Option Addr) (c1 c2 : Nat), v = .agg (pfC p (.slice s1 p.vs.length c1) (.slice s2 p.ss.length c2)).toArray ∧ PfOk p ∧ PfY p ∧ Src W s1 c1 p.vs ∧ ((s1 = none → c1 = 0) ∧ (s2 = none → c2 = 0)) ∧ SrcD W s2 c2 p.ss ∧ p.vs.length ≤ 140737488351232 ∧ p.ss.length * 32 ≤ 140737488351232 := by
  obtain ⟨cs, rfl, hsz, _⟩ : ∃ cs, v = .agg cs ∧ cs.size = Try.prog.cellsOf 26 ∧ Row.okWide Try.prog W .any b0 26 cs := by
    simpa [Value.okWide, Try.underlying26] using hv
  obtain ⟨fuel, hf⟩ := h
  rw [show Try.prog.cellsOf 26 = 35 by kernel_rfl] at hsz
  obtain ⟨n, s1, s2, c1, c2, h1, h2⟩ := open_proof (x := (d, p)) hw (nd := cs.toList) (by simpa using hsz) hf
  exact ⟨n, s1, s2, c1, c2, by rw [← h1], h2⟩
end Go.Proofs.Ytlhmhpkgdcdjkaa
