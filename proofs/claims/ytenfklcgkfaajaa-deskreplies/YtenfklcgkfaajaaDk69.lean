import Derived.Test.YtenfklcgkfaajaaDk13
import Derived.Test.YtenfklcgkfaajaaDk68
namespace Go.Proofs.Ytenfklcgkfaajaa
set_option linter.unusedVariables false
set_option linter.unusedSimpArgs false
open Go.ChangeShapes Go.WideShapes Go.ChangeAt Go.RowKit

theorem open_dg {H : Type} {enc : TypeId × Value → H} {W : World} {fuel : Nat} {cs : List Value} {x : DataW H × List MemPlace} (h : DataW.trod enc Try.prog W 0 (fun _ => true) true fuel 26 cs = some x) : ∃ k : List Int, cs = ints .u8 k ∧ k.length = 32 ∧ Bys k := by
  cases fuel with
  | zero => simp [DataW.trod] at h
  | succ n =>
    rw [DataW.trod_step] at h
    unfold DataW.trodStep at h
    simp only [Try.underlying26, (show Try.prog.cellsOf 26 = 32 by kernel_rfl), cells5] at h
    split at h
    · rename_i hl
      obtain ⟨xs, hm, _⟩ := Option.map_eq_some_iff.1 h
      have each : ∀ i, i < 32 → ∃ z, cs[i]? = some (.int .u8 z) ∧ 0 ≤ z ∧ z < 256 := fun i hi => by
        have := mapM_some_get hm i i (by simp [hi])
        have hxl := mapM_some_length hm
        simp at hxl
        rw [List.getElem?_eq_getElem (by omega)] at this
        obtain ⟨z, hz, _, hw⟩ := DataW.trod_int Try.underlying5 this
        have hb := bounds_u8 hw
        refine ⟨z, ?_, by omega, by omega⟩
        have e : ((cs.drop (i * 1)).take 1)[0]? = cs[i]? := by simp
        rw [← e, hz]; rfl
      refine ⟨cs.map intOf, ?_, by simp [hl], ?_⟩
      · apply List.ext_getElem?
        intro i
        by_cases hi : i < 32
        · obtain ⟨z, hz, _⟩ := each i hi
          simp [ints, hz, intOf]
        · rw [List.getElem?_eq_none (by omega), List.getElem?_eq_none (by simp [ints]; omega)]
      · intro y hy
        obtain ⟨v, hv, rfl⟩ := List.mem_map.1 hy
        obtain ⟨i, hi, rfl⟩ := List.mem_iff_getElem.1 hv
        obtain ⟨z, hz, h1, h2⟩ := each i (by omega)
        rw [List.getElem?_eq_getElem hi] at hz
        rw [Option.some.inj hz]; exact ⟨h1, h2⟩
    · cases h
theorem open_ky {H : Type} {enc : TypeId × Value → H} {W : World} {fuel : Nat} {cs : List Value} {x : DataW H × List MemPlace} (h : DataW.trod enc Try.prog W 0 (fun _ => true) true fuel 50 cs = some x) : ∃ k : List Int, cs = ints .u8 k ∧ k.length = 32 ∧ Bys k := by
  cases fuel with
  | zero => simp [DataW.trod] at h
  | succ n =>
    rw [DataW.trod_step] at h
    unfold DataW.trodStep at h
    simp only [Try.underlying50, (show Try.prog.cellsOf 50 = 32 by kernel_rfl), cells5] at h
    split at h
    · rename_i hl
      obtain ⟨xs, hm, _⟩ := Option.map_eq_some_iff.1 h
      have each : ∀ i, i < 32 → ∃ z, cs[i]? = some (.int .u8 z) ∧ 0 ≤ z ∧ z < 256 := fun i hi => by
        have := mapM_some_get hm i i (by simp [hi])
        have hxl := mapM_some_length hm
        simp at hxl
        rw [List.getElem?_eq_getElem (by omega)] at this
        obtain ⟨z, hz, _, hw⟩ := DataW.trod_int Try.underlying5 this
        have hb := bounds_u8 hw
        refine ⟨z, ?_, by omega, by omega⟩
        have e : ((cs.drop (i * 1)).take 1)[0]? = cs[i]? := by simp
        rw [← e, hz]; rfl
      refine ⟨cs.map intOf, ?_, by simp [hl], ?_⟩
      · apply List.ext_getElem?
        intro i
        by_cases hi : i < 32
        · obtain ⟨z, hz, _⟩ := each i hi
          simp [ints, hz, intOf]
        · rw [List.getElem?_eq_none (by omega), List.getElem?_eq_none (by simp [ints]; omega)]
      · intro y hy
        obtain ⟨v, hv, rfl⟩ := List.mem_map.1 hy
        obtain ⟨i, hi, rfl⟩ := List.mem_iff_getElem.1 hv
        obtain ⟨z, hz, h1, h2⟩ := each i (by omega)
        rw [List.getElem?_eq_getElem hi] at hz
        rw [Option.some.inj hz]; exact ⟨h1, h2⟩
    · cases h
theorem open_el_false {H : Type} {enc : TypeId × Value → H} {W : World} {fuel : Nat} {nd : List Value} {x : DataW H × List MemPlace} (hd : WS 52 x.1) (hnl : nd.length = 33) (g8 : DataW.trod enc Try.prog W 0 (fun _ => true) true fuel 52 nd = some x) :
    ∃ (q : Cg) (s : Option Addr) (p : Nat), nd = elC false q.key q.del (.slice s q.val.length p) ∧ q.key.length = 32 ∧ Bys q.key ∧ Bys q.val ∧ Src W s p q.val ∧ (s = none → p = 0) ∧ q.val.length ≤ 140737488351232 := by
  obtain ⟨ys, kn, _, hxy, _, hyl, hfn⟩ := DataW.trod_struct (x := x) Try.underlying52 g8
  have hyl' : ys.length = 2 := hyl
  rw [hxy] at hd
  have n0 : DataW.trod enc Try.prog W 0 (fun _ => true) true kn 50 ((nd.drop 0).take 32) = some ys[0] := by
    have := hfn 0 _ rfl
    rw [List.getElem?_eq_getElem (by omega)] at this
    change DataW.trod enc Try.prog W 0 (fun _ => true) true kn 50 ((nd.drop 0).take (Try.prog.cellsOf 50)) = _ at this
    rw [show Try.prog.cellsOf 50 = 32 by kernel_rfl] at this; exact this
  have n1 : DataW.trod enc Try.prog W 0 (fun _ => true) true kn 22 ((nd.drop 32).take 1) = some ys[1] := by
    have := hfn 1 _ rfl
    rw [List.getElem?_eq_getElem (by omega)] at this
    change DataW.trod enc Try.prog W 0 (fun _ => true) true kn 22 ((nd.drop 32).take (Try.prog.cellsOf 22)) = _ at this
    rw [show Try.prog.cellsOf 22 = 1 by kernel_rfl] at this; exact this
  obtain ⟨k0, f0, l0, y0⟩ := open_ky n0
  obtain ⟨sn, fv⟩ := trod_one (enc := enc) (W := W) (l := nd) (n := 32) (by omega)
  rw [fv] at n1
  have hws : WS 22 (ys[1]).1 := hd.field Try.underlying52 (j := 1) rfl (by rw [List.getElem?_map, List.getElem?_eq_getElem (by omega)]; rfl)
  obtain ⟨z, sp, cap, ez, yz, hS, hnil, hvl⟩ := open_bytesN (d := (ys[1]).1) (p := (ys[1]).2) hws n1
  subst ez
  have hne : nd = ints .u8 k0 ++ ([.slice sp z.length cap] ++ nd.drop 33) := by
    rw [← f0, ← fv, ← cut_at nd 32 1, ← cut_at nd 0 32]; rfl
  rw [List.drop_of_length_le (by omega : nd.length ≤ 33), List.append_nil] at hne
  exact ⟨⟨k0, false, z⟩, sp, cap, hne, l0, y0, yz, hS, hnil, hvl⟩
theorem open_els_false {H : Type} {enc : TypeId × Value → H} {W : World} {fuel : Nat} {v : Value} {d : DataW H} {p : List MemPlace} (hw : WS 27 d) (hf : DataW.trod enc Try.prog W 0 (fun _ => true) true fuel 27 [v] = some (d, p)) :
    ∃ (xs : List Cg) (sp : Option Addr) (cap : Nat), v = .slice sp xs.length cap ∧ ElI false W sp cap xs ∧ (∀ x ∈ xs, x.key.length = 32 ∧ Bys x.key ∧ Bys x.val ∧ x.val.length ≤ 140737488351232) ∧ xs.length * 56 ≤ 140737488351232 := by
  rcases Deep.open_slice Try.underlying27 hf with ⟨hcs, hx⟩ | ⟨a, len, cap, m, n, D, Pl, hcs, _, hl, hm, hmm, hx, hrow⟩
  · simp at hcs
    subst hcs
    exact ⟨[], none, 0, rfl, ⟨fun _ => rfl, Nat.le_refl _, by simp [maxLen], 0, 0, fun h => by simp at h, fun k hk => by simp at hk⟩, fun x hx => by simp at hx, by simp⟩
  · simp at hcs
    subst hcs
    simp only [Prod.mk.injEq] at hx
    obtain ⟨rfl, _⟩ := hx
    simp only [if_true] at hmm
    subst hmm
    obtain ⟨w1, w2⟩ := hw.slice Try.underlying27
    rw [show Try.prog.bytesOf 52 = 56 by kernel_rfl] at w1
    simp [reachBytes] at w1
    have each : ∀ i, i < len → ∃ q : Cg × Option Addr × Nat, (∀ j u, (elC false q.1.key q.1.del (.slice q.2.1 q.1.val.length q.2.2))[j]? = some u → W.cell? (a.add (i * 33 + j)) = some u) ∧ q.1.key.length = 32 ∧ Bys q.1.key ∧ Bys q.1.val ∧ Src W q.2.1 q.2.2 q.1.val ∧ (q.2.1 = none → q.2.2 = 0) ∧ q.1.val.length ≤ 140737488351232 := by
      intro i hi
      obtain ⟨cs', h1, h2⟩ := hrow i (by omega)
      rw [show Try.prog.cellsOf 52 = 33 by kernel_rfl] at h1
      obtain ⟨_, hlen, hcell⟩ := World.cells?_some h1
      have hd := w2 (D i) (List.mem_map.2 ⟨i, List.mem_range.2 hi, rfl⟩)
      obtain ⟨q, s, pp, e, r1, r2, r3, r4, r5, r6⟩ := open_el_false hd hlen h2
      refine ⟨(q, s, pp), fun j u hu => ?_, r1, r2, r3, r4, r5, r6⟩
      rw [← e] at hu
      have hj := (List.getElem?_eq_some_iff.1 hu).1
      have := hcell j (by omega)
      rw [Deep.add_add] at this
      rw [this, hu]
    haveI : Inhabited (Cg × Option Addr × Nat) := ⟨(dX, none, 0)⟩
    obtain ⟨q, hq⟩ := Deep.choose_lt (α := Cg × Option Addr × Nat) each
    have gc : ∀ i, i < len → ((List.range len).map fun i => (q i).1).getD i dX = (q i).1 := fun i hi => by simp [hi]
    have hlen : ((List.range len).map fun i => (q i).1).length = len := by simp
    have oks : ∀ x ∈ (List.range len).map fun i => (q i).1, x.key.length = 32 ∧ Bys x.key ∧ Bys x.val ∧ x.val.length ≤ 140737488351232 := fun x hx => by
      obtain ⟨i, hi, rfl⟩ := List.mem_map.1 hx
      obtain ⟨_, r1, r2, r3, _, _, r6⟩ := hq i (List.mem_range.1 hi)
      exact ⟨r1, r2, r3, r6⟩
    by_cases hz : 0 < len
    · have hc0 : ∃ u, W.cell? (a.add (0 * 33 + 0)) = some u := by
        have hl0 : 0 < (elC false (q 0).1.key (q 0).1.del (.slice (q 0).2.1 (q 0).1.val.length (q 0).2.2)).length := by rw [elC_len (hq 0 hz).2.1]; decide
        exact ⟨_, (hq 0 hz).1 0 _ (List.getElem?_eq_getElem hl0)⟩
      obtain ⟨u0, hc0⟩ := hc0
      have hsp : a.spot = none := by
        have := World.cell?_spot hc0
        unfold Addr.add at this; split at this <;> simp_all
      obtain ⟨b, o, spot⟩ := a
      obtain rfl : spot = none := hsp
      have hblk : b < W.heap.size := by
        have := block_lt_of_cell hc0; rwa [Addr.add_mid] at this
      refine ⟨(List.range len).map fun i => (q i).1, some ⟨b, o, none⟩, m, by rw [hlen], ⟨(fun h => by cases h), by rw [hlen]; exact hl, hm, b, o, fun _ => ⟨rfl, hblk⟩, fun k hk => ?_⟩, oks, by rw [hlen]; omega⟩
      rw [hlen] at hk
      rw [gc k hk]
      obtain ⟨r0, r1, _, _, r4, r5, _⟩ := hq k hk
      refine ⟨(q k).2.1, (q k).2.2, fun j u hu => ?_, r1, r4, r5⟩
      have := r0 j u hu
      rw [Addr.add_mid, ← Nat.add_assoc] at this
      exact this
    · obtain rfl : len = 0 := by omega
      exact ⟨[], some a, m, rfl, ⟨(fun h => by cases h), Nat.zero_le _, hm, 0, 0, fun h => by simp at h, fun k hk => by simp at hk⟩, fun x hx => by simp at hx, by simp⟩
theorem open_el_true {H : Type} {enc : TypeId × Value → H} {W : World} {fuel : Nat} {nd : List Value} {x : DataW H × List MemPlace} (hd : WS 54 x.1) (hnl : nd.length = 34) (g8 : DataW.trod enc Try.prog W 0 (fun _ => true) true fuel 54 nd = some x) :
    ∃ (q : Cg) (s : Option Addr) (p : Nat), nd = elC true q.key q.del (.slice s q.val.length p) ∧ q.key.length = 32 ∧ Bys q.key ∧ Bys q.val ∧ Src W s p q.val ∧ (s = none → p = 0) ∧ q.val.length ≤ 140737488351232 := by
  obtain ⟨ys, kn, _, hxy, _, hyl, hfn⟩ := DataW.trod_struct (x := x) Try.underlying54 g8
  have hyl' : ys.length = 3 := hyl
  rw [hxy] at hd
  have n0 : DataW.trod enc Try.prog W 0 (fun _ => true) true kn 50 ((nd.drop 0).take 32) = some ys[0] := by
    have := hfn 0 _ rfl
    rw [List.getElem?_eq_getElem (by omega)] at this
    change DataW.trod enc Try.prog W 0 (fun _ => true) true kn 50 ((nd.drop 0).take (Try.prog.cellsOf 50)) = _ at this
    rw [show Try.prog.cellsOf 50 = 32 by kernel_rfl] at this; exact this
  have n1 : DataW.trod enc Try.prog W 0 (fun _ => true) true kn 4 ((nd.drop 32).take 1) = some ys[1] := by
    have := hfn 1 _ rfl
    rw [List.getElem?_eq_getElem (by omega)] at this
    change DataW.trod enc Try.prog W 0 (fun _ => true) true kn 4 ((nd.drop 32).take (Try.prog.cellsOf 4)) = _ at this
    rw [show Try.prog.cellsOf 4 = 1 by kernel_rfl] at this; exact this
  have n2 : DataW.trod enc Try.prog W 0 (fun _ => true) true kn 22 ((nd.drop 33).take 1) = some ys[2] := by
    have := hfn 2 _ rfl
    rw [List.getElem?_eq_getElem (by omega)] at this
    change DataW.trod enc Try.prog W 0 (fun _ => true) true kn 22 ((nd.drop 33).take (Try.prog.cellsOf 22)) = _ at this
    rw [show Try.prog.cellsOf 22 = 1 by kernel_rfl] at this; exact this
  obtain ⟨k0, f0, l0, y0⟩ := open_ky n0
  obtain ⟨b1, f1, _⟩ := DataW.trod_bool Try.underlying4 n1
  obtain ⟨sn, fv⟩ := trod_one (enc := enc) (W := W) (l := nd) (n := 33) (by omega)
  rw [fv] at n2
  have hws : WS 22 (ys[2]).1 := hd.field Try.underlying54 (j := 2) rfl (by rw [List.getElem?_map, List.getElem?_eq_getElem (by omega)]; rfl)
  obtain ⟨z, sp, cap, ez, yz, hS, hnil, hvl⟩ := open_bytesN (d := (ys[2]).1) (p := (ys[2]).2) hws n2
  subst ez
  have hne : nd = ints .u8 k0 ++ ([.bool b1] ++ ([.slice sp z.length cap] ++ nd.drop 34)) := by
    rw [← f0, ← f1, ← fv, ← cut_at nd 33 1, ← cut_at nd 32 1, ← cut_at nd 0 32]; rfl
  rw [List.drop_of_length_le (by omega : nd.length ≤ 34), List.append_nil] at hne
  exact ⟨⟨k0, b1, z⟩, sp, cap, hne, l0, y0, yz, hS, hnil, hvl⟩
theorem open_els_true {H : Type} {enc : TypeId × Value → H} {W : World} {fuel : Nat} {v : Value} {d : DataW H} {p : List MemPlace} (hw : WS 28 d) (hf : DataW.trod enc Try.prog W 0 (fun _ => true) true fuel 28 [v] = some (d, p)) :
    ∃ (xs : List Cg) (sp : Option Addr) (cap : Nat), v = .slice sp xs.length cap ∧ ElI true W sp cap xs ∧ (∀ x ∈ xs, x.key.length = 32 ∧ Bys x.key ∧ Bys x.val ∧ x.val.length ≤ 140737488351232) ∧ xs.length * 64 ≤ 140737488351232 := by
  rcases Deep.open_slice Try.underlying28 hf with ⟨hcs, hx⟩ | ⟨a, len, cap, m, n, D, Pl, hcs, _, hl, hm, hmm, hx, hrow⟩
  · simp at hcs
    subst hcs
    exact ⟨[], none, 0, rfl, ⟨fun _ => rfl, Nat.le_refl _, by simp [maxLen], 0, 0, fun h => by simp at h, fun k hk => by simp at hk⟩, fun x hx => by simp at hx, by simp⟩
  · simp at hcs
    subst hcs
    simp only [Prod.mk.injEq] at hx
    obtain ⟨rfl, _⟩ := hx
    simp only [if_true] at hmm
    subst hmm
    obtain ⟨w1, w2⟩ := hw.slice Try.underlying28
    rw [show Try.prog.bytesOf 54 = 64 by kernel_rfl] at w1
    simp [reachBytes] at w1
    have each : ∀ i, i < len → ∃ q : Cg × Option Addr × Nat, (∀ j u, (elC true q.1.key q.1.del (.slice q.2.1 q.1.val.length q.2.2))[j]? = some u → W.cell? (a.add (i * 34 + j)) = some u) ∧ q.1.key.length = 32 ∧ Bys q.1.key ∧ Bys q.1.val ∧ Src W q.2.1 q.2.2 q.1.val ∧ (q.2.1 = none → q.2.2 = 0) ∧ q.1.val.length ≤ 140737488351232 := by
      intro i hi
      obtain ⟨cs', h1, h2⟩ := hrow i (by omega)
      rw [show Try.prog.cellsOf 54 = 34 by kernel_rfl] at h1
      obtain ⟨_, hlen, hcell⟩ := World.cells?_some h1
      have hd := w2 (D i) (List.mem_map.2 ⟨i, List.mem_range.2 hi, rfl⟩)
      obtain ⟨q, s, pp, e, r1, r2, r3, r4, r5, r6⟩ := open_el_true hd hlen h2
      refine ⟨(q, s, pp), fun j u hu => ?_, r1, r2, r3, r4, r5, r6⟩
      rw [← e] at hu
      have hj := (List.getElem?_eq_some_iff.1 hu).1
      have := hcell j (by omega)
      rw [Deep.add_add] at this
      rw [this, hu]
    haveI : Inhabited (Cg × Option Addr × Nat) := ⟨(dX, none, 0)⟩
    obtain ⟨q, hq⟩ := Deep.choose_lt (α := Cg × Option Addr × Nat) each
    have gc : ∀ i, i < len → ((List.range len).map fun i => (q i).1).getD i dX = (q i).1 := fun i hi => by simp [hi]
    have hlen : ((List.range len).map fun i => (q i).1).length = len := by simp
    have oks : ∀ x ∈ (List.range len).map fun i => (q i).1, x.key.length = 32 ∧ Bys x.key ∧ Bys x.val ∧ x.val.length ≤ 140737488351232 := fun x hx => by
      obtain ⟨i, hi, rfl⟩ := List.mem_map.1 hx
      obtain ⟨_, r1, r2, r3, _, _, r6⟩ := hq i (List.mem_range.1 hi)
      exact ⟨r1, r2, r3, r6⟩
    by_cases hz : 0 < len
    · have hc0 : ∃ u, W.cell? (a.add (0 * 34 + 0)) = some u := by
        have hl0 : 0 < (elC true (q 0).1.key (q 0).1.del (.slice (q 0).2.1 (q 0).1.val.length (q 0).2.2)).length := by rw [elC_len (hq 0 hz).2.1]; decide
        exact ⟨_, (hq 0 hz).1 0 _ (List.getElem?_eq_getElem hl0)⟩
      obtain ⟨u0, hc0⟩ := hc0
      have hsp : a.spot = none := by
        have := World.cell?_spot hc0
        unfold Addr.add at this; split at this <;> simp_all
      obtain ⟨b, o, spot⟩ := a
      obtain rfl : spot = none := hsp
      have hblk : b < W.heap.size := by
        have := block_lt_of_cell hc0; rwa [Addr.add_mid] at this
      refine ⟨(List.range len).map fun i => (q i).1, some ⟨b, o, none⟩, m, by rw [hlen], ⟨(fun h => by cases h), by rw [hlen]; exact hl, hm, b, o, fun _ => ⟨rfl, hblk⟩, fun k hk => ?_⟩, oks, by rw [hlen]; omega⟩
      rw [hlen] at hk
      rw [gc k hk]
      obtain ⟨r0, r1, _, _, r4, r5, _⟩ := hq k hk
      refine ⟨(q k).2.1, (q k).2.2, fun j u hu => ?_, r1, r4, r5⟩
      have := r0 j u hu
      rw [Addr.add_mid, ← Nat.add_assoc] at this
      exact this
    · obtain rfl : len = 0 := by omega
      exact ⟨[], some a, m, rfl, ⟨(fun h => by cases h), Nat.zero_le _, hm, 0, 0, fun h => by simp at h, fun k hk => by simp at hk⟩, fun x hx => by simp at hx, by simp⟩
theorem open_inf {H : Type} {enc : TypeId × Value → H} {W : World} {fuel : Nat} {nd : List Value} {x : DataW H × List MemPlace} (hnl : nd.length = 38) (g8 : DataW.trod enc Try.prog W 0 (fun _ => true) true fuel 30 nd = some x) :
    ∃ (i : Nf), nd = inC i ∧ NfB i ∧ i.sum.length = 32 ∧ Bys i.sum := by
  obtain ⟨ys, kn, _, hxy, _, hyl, hfn⟩ := DataW.trod_struct (x := x) Try.underlying30 g8
  have hyl' : ys.length = 7 := hyl
  have n0 : DataW.trod enc Try.prog W 0 (fun _ => true) true kn 3 ((nd.drop 0).take 1) = some ys[0] := by
    have := hfn 0 _ rfl
    rw [List.getElem?_eq_getElem (by omega)] at this
    change DataW.trod enc Try.prog W 0 (fun _ => true) true kn 3 ((nd.drop 0).take (Try.prog.cellsOf 3)) = _ at this
    rw [show Try.prog.cellsOf 3 = 1 by kernel_rfl] at this; exact this
  have n1 : DataW.trod enc Try.prog W 0 (fun _ => true) true kn 3 ((nd.drop 1).take 1) = some ys[1] := by
    have := hfn 1 _ rfl
    rw [List.getElem?_eq_getElem (by omega)] at this
    change DataW.trod enc Try.prog W 0 (fun _ => true) true kn 3 ((nd.drop 1).take (Try.prog.cellsOf 3)) = _ at this
    rw [show Try.prog.cellsOf 3 = 1 by kernel_rfl] at this; exact this
  have n2 : DataW.trod enc Try.prog W 0 (fun _ => true) true kn 3 ((nd.drop 2).take 1) = some ys[2] := by
    have := hfn 2 _ rfl
    rw [List.getElem?_eq_getElem (by omega)] at this
    change DataW.trod enc Try.prog W 0 (fun _ => true) true kn 3 ((nd.drop 2).take (Try.prog.cellsOf 3)) = _ at this
    rw [show Try.prog.cellsOf 3 = 1 by kernel_rfl] at this; exact this
  have n3 : DataW.trod enc Try.prog W 0 (fun _ => true) true kn 3 ((nd.drop 3).take 1) = some ys[3] := by
    have := hfn 3 _ rfl
    rw [List.getElem?_eq_getElem (by omega)] at this
    change DataW.trod enc Try.prog W 0 (fun _ => true) true kn 3 ((nd.drop 3).take (Try.prog.cellsOf 3)) = _ at this
    rw [show Try.prog.cellsOf 3 = 1 by kernel_rfl] at this; exact this
  have n4 : DataW.trod enc Try.prog W 0 (fun _ => true) true kn 3 ((nd.drop 4).take 1) = some ys[4] := by
    have := hfn 4 _ rfl
    rw [List.getElem?_eq_getElem (by omega)] at this
    change DataW.trod enc Try.prog W 0 (fun _ => true) true kn 3 ((nd.drop 4).take (Try.prog.cellsOf 3)) = _ at this
    rw [show Try.prog.cellsOf 3 = 1 by kernel_rfl] at this; exact this
  have n5 : DataW.trod enc Try.prog W 0 (fun _ => true) true kn 3 ((nd.drop 5).take 1) = some ys[5] := by
    have := hfn 5 _ rfl
    rw [List.getElem?_eq_getElem (by omega)] at this
    change DataW.trod enc Try.prog W 0 (fun _ => true) true kn 3 ((nd.drop 5).take (Try.prog.cellsOf 3)) = _ at this
    rw [show Try.prog.cellsOf 3 = 1 by kernel_rfl] at this; exact this
  have n6 : DataW.trod enc Try.prog W 0 (fun _ => true) true kn 26 ((nd.drop 6).take 32) = some ys[6] := by
    have := hfn 6 _ rfl
    rw [List.getElem?_eq_getElem (by omega)] at this
    change DataW.trod enc Try.prog W 0 (fun _ => true) true kn 26 ((nd.drop 6).take (Try.prog.cellsOf 26)) = _ at this
    rw [show Try.prog.cellsOf 26 = 32 by kernel_rfl] at this; exact this
  obtain ⟨y0, f0, _, w0⟩ := DataW.trod_int Try.underlying3 n0
  obtain ⟨y1, f1, _, w1⟩ := DataW.trod_int Try.underlying3 n1
  obtain ⟨y2, f2, _, w2⟩ := DataW.trod_int Try.underlying3 n2
  obtain ⟨y3, f3, _, w3⟩ := DataW.trod_int Try.underlying3 n3
  obtain ⟨y4, f4, _, w4⟩ := DataW.trod_int Try.underlying3 n4
  obtain ⟨y5, f5, _, w5⟩ := DataW.trod_int Try.underlying3 n5
  obtain ⟨u6, f6, l6, b6⟩ := open_dg n6
  have hne : nd = [.int .i64 y0] ++ ([.int .i64 y1] ++ ([.int .i64 y2] ++ ([.int .i64 y3] ++ ([.int .i64 y4] ++ ([.int .i64 y5] ++ (ints .u8 u6 ++ nd.drop 38)))))) := by
    rw [← f0, ← f1, ← f2, ← f3, ← f4, ← f5, ← f6, ← cut_at nd 6 32, ← cut_at nd 5 1, ← cut_at nd 4 1, ← cut_at nd 3 1, ← cut_at nd 2 1, ← cut_at nd 1 1, ← cut_at nd 0 1]; rfl
  rw [List.drop_of_length_le (by omega : nd.length ≤ 38), List.append_nil] at hne
  exact ⟨⟨y0, y1, y2, y3, y4, y5, u6⟩, hne, ⟨bounds_i64 w0, bounds_i64 w1, bounds_i64 w2, bounds_i64 w3, bounds_i64 w4, bounds_i64 w5⟩, l6, b6⟩
set_option maxRecDepth 100000 in
theorem open_reply {H : Type} {enc : TypeId × Value → H} {W : World} {fuel : Nat} {nd : List Value} {x : DataW H × List MemPlace} (hd : WS 32 x.1) (hnl : nd.length = 78) (g8 : DataW.trod enc Try.prog W 0 (fun _ => true) true fuel 32 nd = some x) :
    ∃ (r : Rp) (vs rs ls cs : Option Addr) (vc rc lc cc : Nat), nd = rpV r vs rs ls cs vc rc lc cc ∧ RpB r ∧ RpY r ∧ RpM r ∧ RpK r ∧ RpZ r ∧ RpI W r vs rs ls cs vc rc lc cc := by
  obtain ⟨ys, kn, _, hxy, _, hyl, hfn⟩ := DataW.trod_struct (x := x) Try.underlying32 g8
  have hyl' : ys.length = 10 := hyl
  rw [hxy] at hd
  have n0 : DataW.trod enc Try.prog W 0 (fun _ => true) true kn 24 ((nd.drop 0).take 1) = some ys[0] := by
    have := hfn 0 _ rfl
    rw [List.getElem?_eq_getElem (by omega)] at this
    change DataW.trod enc Try.prog W 0 (fun _ => true) true kn 24 ((nd.drop 0).take (Try.prog.cellsOf 24)) = _ at this
    rw [show Try.prog.cellsOf 24 = 1 by kernel_rfl] at this; exact this
  have n1 : DataW.trod enc Try.prog W 0 (fun _ => true) true kn 3 ((nd.drop 1).take 1) = some ys[1] := by
    have := hfn 1 _ rfl
    rw [List.getElem?_eq_getElem (by omega)] at this
    change DataW.trod enc Try.prog W 0 (fun _ => true) true kn 3 ((nd.drop 1).take (Try.prog.cellsOf 3)) = _ at this
    rw [show Try.prog.cellsOf 3 = 1 by kernel_rfl] at this; exact this
  have n2 : DataW.trod enc Try.prog W 0 (fun _ => true) true kn 4 ((nd.drop 2).take 1) = some ys[2] := by
    have := hfn 2 _ rfl
    rw [List.getElem?_eq_getElem (by omega)] at this
    change DataW.trod enc Try.prog W 0 (fun _ => true) true kn 4 ((nd.drop 2).take (Try.prog.cellsOf 4)) = _ at this
    rw [show Try.prog.cellsOf 4 = 1 by kernel_rfl] at this; exact this
  have n3 : DataW.trod enc Try.prog W 0 (fun _ => true) true kn 4 ((nd.drop 3).take 1) = some ys[3] := by
    have := hfn 3 _ rfl
    rw [List.getElem?_eq_getElem (by omega)] at this
    change DataW.trod enc Try.prog W 0 (fun _ => true) true kn 4 ((nd.drop 3).take (Try.prog.cellsOf 4)) = _ at this
    rw [show Try.prog.cellsOf 4 = 1 by kernel_rfl] at this; exact this
  have n4 : DataW.trod enc Try.prog W 0 (fun _ => true) true kn 22 ((nd.drop 4).take 1) = some ys[4] := by
    have := hfn 4 _ rfl
    rw [List.getElem?_eq_getElem (by omega)] at this
    change DataW.trod enc Try.prog W 0 (fun _ => true) true kn 22 ((nd.drop 4).take (Try.prog.cellsOf 22)) = _ at this
    rw [show Try.prog.cellsOf 22 = 1 by kernel_rfl] at this; exact this
  have n5 : DataW.trod enc Try.prog W 0 (fun _ => true) true kn 26 ((nd.drop 5).take 32) = some ys[5] := by
    have := hfn 5 _ rfl
    rw [List.getElem?_eq_getElem (by omega)] at this
    change DataW.trod enc Try.prog W 0 (fun _ => true) true kn 26 ((nd.drop 5).take (Try.prog.cellsOf 26)) = _ at this
    rw [show Try.prog.cellsOf 26 = 32 by kernel_rfl] at this; exact this
  have n6 : DataW.trod enc Try.prog W 0 (fun _ => true) true kn 22 ((nd.drop 37).take 1) = some ys[6] := by
    have := hfn 6 _ rfl
    rw [List.getElem?_eq_getElem (by omega)] at this
    change DataW.trod enc Try.prog W 0 (fun _ => true) true kn 22 ((nd.drop 37).take (Try.prog.cellsOf 22)) = _ at this
    rw [show Try.prog.cellsOf 22 = 1 by kernel_rfl] at this; exact this
  have n7 : DataW.trod enc Try.prog W 0 (fun _ => true) true kn 27 ((nd.drop 38).take 1) = some ys[7] := by
    have := hfn 7 _ rfl
    rw [List.getElem?_eq_getElem (by omega)] at this
    change DataW.trod enc Try.prog W 0 (fun _ => true) true kn 27 ((nd.drop 38).take (Try.prog.cellsOf 27)) = _ at this
    rw [show Try.prog.cellsOf 27 = 1 by kernel_rfl] at this; exact this
  have n8 : DataW.trod enc Try.prog W 0 (fun _ => true) true kn 28 ((nd.drop 39).take 1) = some ys[8] := by
    have := hfn 8 _ rfl
    rw [List.getElem?_eq_getElem (by omega)] at this
    change DataW.trod enc Try.prog W 0 (fun _ => true) true kn 28 ((nd.drop 39).take (Try.prog.cellsOf 28)) = _ at this
    rw [show Try.prog.cellsOf 28 = 1 by kernel_rfl] at this; exact this
  have n9 : DataW.trod enc Try.prog W 0 (fun _ => true) true kn 30 ((nd.drop 40).take 38) = some ys[9] := by
    have := hfn 9 _ rfl
    rw [List.getElem?_eq_getElem (by omega)] at this
    change DataW.trod enc Try.prog W 0 (fun _ => true) true kn 30 ((nd.drop 40).take (Try.prog.cellsOf 30)) = _ at this
    rw [show Try.prog.cellsOf 30 = 38 by kernel_rfl] at this; exact this
  obtain ⟨y0, f0, _, w0⟩ := DataW.trod_int Try.underlying24 n0
  obtain ⟨y1, f1, _, w1⟩ := DataW.trod_int Try.underlying3 n1
  obtain ⟨y2, f2, _⟩ := DataW.trod_bool Try.underlying4 n2
  obtain ⟨y3, f3, _⟩ := DataW.trod_bool Try.underlying4 n3
  obtain ⟨u5, f5, l5, b5⟩ := open_dg n5
  obtain ⟨sn4, f4⟩ := trod_one (enc := enc) (W := W) (l := nd) (n := 4) (by omega)
  rw [f4] at n4
  have hws4 : WS 22 (ys[4]).1 := hd.field Try.underlying32 (j := 4) rfl (by rw [List.getElem?_map, List.getElem?_eq_getElem (by omega)]; rfl)
  obtain ⟨z4, sp4, cap4, e4, yv4, hS4, hnil4, hvl4⟩ := open_bytesN (d := (ys[4]).1) (p := (ys[4]).2) hws4 n4
  subst e4
  obtain ⟨sn6, f6⟩ := trod_one (enc := enc) (W := W) (l := nd) (n := 37) (by omega)
  rw [f6] at n6
  have hws6 : WS 22 (ys[6]).1 := hd.field Try.underlying32 (j := 6) rfl (by rw [List.getElem?_map, List.getElem?_eq_getElem (by omega)]; rfl)
  obtain ⟨z6, sp6, cap6, e6, yv6, hS6, hnil6, hvl6⟩ := open_bytesN (d := (ys[6]).1) (p := (ys[6]).2) hws6 n6
  subst e6
  obtain ⟨sn7, f7⟩ := trod_one (enc := enc) (W := W) (l := nd) (n := 38) (by omega)
  rw [f7] at n7
  have hws7 : WS 27 (ys[7]).1 := hd.field Try.underlying32 (j := 7) rfl (by rw [List.getElem?_map, List.getElem?_eq_getElem (by omega)]; rfl)
  obtain ⟨z7, sp7, cap7, e7, I7, ok7, hn7⟩ := open_els_false (d := (ys[7]).1) (p := (ys[7]).2) hws7 n7
  subst e7
  obtain ⟨sn8, f8⟩ := trod_one (enc := enc) (W := W) (l := nd) (n := 39) (by omega)
  rw [f8] at n8
  have hws8 : WS 28 (ys[8]).1 := hd.field Try.underlying32 (j := 8) rfl (by rw [List.getElem?_map, List.getElem?_eq_getElem (by omega)]; rfl)
  obtain ⟨z8, sp8, cap8, e8, I8, ok8, hn8⟩ := open_els_true (d := (ys[8]).1) (p := (ys[8]).2) hws8 n8
  subst e8
  obtain ⟨i9, f9, bn9, l9, b9⟩ := open_inf (by simp [hnl]) n9
  have hne : nd = [.int .i64 y0] ++ ([.int .i64 y1] ++ ([.bool y2] ++ ([.bool y3] ++ ([.slice sp4 z4.length cap4] ++ (ints .u8 u5 ++ ([.slice sp6 z6.length cap6] ++ ([.slice sp7 z7.length cap7] ++ ([.slice sp8 z8.length cap8] ++ (inC i9 ++ nd.drop 78))))))))) := by
    rw [← f0, ← f1, ← f2, ← f3, ← f4, ← f5, ← f6, ← f7, ← f8, ← f9, ← cut_at nd 40 38, ← cut_at nd 39 1, ← cut_at nd 38 1, ← cut_at nd 37 1, ← cut_at nd 5 32, ← cut_at nd 4 1, ← cut_at nd 3 1, ← cut_at nd 2 1, ← cut_at nd 1 1, ← cut_at nd 0 1]; rfl
  rw [List.drop_of_length_le (by omega : nd.length ≤ 78), List.append_nil] at hne
  have g : ∀ {l : List Cg} {k : Nat}, k < l.length → l.getD k dX ∈ l := fun h => getD_mem h
  exact ⟨⟨y0, y1, y2, y3, z4, u5, z6, z7, z8, i9⟩, sp4, sp6, sp7, sp8, cap4, cap6, cap7, cap8, hne, ⟨bounds_i64 w0, bounds_i64 w1, bn9, hvl6⟩, ⟨yv4, yv6, fun k hk => (ok7 _ (g hk)).2.2.1, fun k hk => (ok8 _ (g hk)).2.2.1⟩, ⟨hvl4, hvl6, hn7, hn8, fun k hk => (ok7 _ (g hk)).2.2.2, fun k hk => (ok8 _ (g hk)).2.2.2⟩, ⟨fun x hx => (ok7 x hx).1, fun x hx => (ok8 x hx).1⟩, ⟨b5, b9, fun x hx => ⟨(ok7 x hx).2.1, (ok7 x hx).2.2.1⟩, fun x hx => ⟨(ok8 x hx).2.1, (ok8 x hx).2.2.1⟩⟩, ⟨⟨l5, l9⟩, hS4, hS6, hnil4, hnil6, I7, I8⟩⟩
set_option maxRecDepth 100000 in
theorem open_replyV {H : Type} {enc : TypeId × Value → H} {W : World} {v : Value} {d : DataW H} {p : List MemPlace} {b0 : Nat}
    (hw : WS 32 d) (hv : Value.okWide Try.prog W .any b0 32 v) (h : DataW.Trod enc Try.prog W 0 (fun _ => true) true 32 v d p) : ∃ (r : Rp) (vs rs ls cs : Option Addr) (vc rc lc cc : Nat), v = .agg (rpV r vs rs ls cs vc rc lc cc).toArray ∧ RpB r ∧ RpY r ∧ RpM r ∧ RpK r ∧ RpZ r ∧ RpI W r vs rs ls cs vc rc lc cc := by
  obtain ⟨cs, rfl, hsz, _⟩ : ∃ cs, v = .agg cs ∧ cs.size = Try.prog.cellsOf 32 ∧ Row.okWide Try.prog W .any b0 32 cs := by
    simpa [Value.okWide, Try.underlying32] using hv
  obtain ⟨fuel, hf⟩ := h
  rw [show Try.prog.cellsOf 32 = 78 by kernel_rfl] at hsz
  obtain ⟨r, vs, rs, ls, c2, vc, rc, lc, cc, h1, h2⟩ := open_reply (x := (d, p)) hw (nd := cs.toList) (by simpa using hsz) hf
  exact ⟨r, vs, rs, ls, c2, vc, rc, lc, cc, by rw [← h1], h2⟩

set_option maxRecDepth 100000 in
theorem deskReplies_contract (H : Type) (enc : TypeId × Value → H) (W : World) (base : Nat) (args : Array Value) (ds gs : List (DataW H)) (before : List MemPlace)
    (hval : ∀ (j : Nat) t v, Try.f5.params[j]? = some t → args[j]? = some v → Value.okWide Try.prog W .any base t v)
    (hW : DataW.Whole enc Try.prog Try.f5.params.toList Rows.deskRepliesSpec.vars false W args.toList ds gs before)
    (hsz : (DataW.weightsEach Try.prog (Try.f5.params.toList ++ Rows.deskRepliesSpec.plain.varTypes Try.prog) (ds ++ gs)).all (· ≤ reachBytes) = true) :
    Calls Try.prog 5 args W fun e W' => ∃ v, e = .returned v ∧ Rows.deskRepliesSpec.post enc Try.prog Try.f5 false true false false W args v W' := by
  have hW' := hW
  obtain ⟨p, q, hA0, hV, rfl, hfz, hnd⟩ := hW
  have hA : DataW.TrodAll enc Try.prog W 0 (fun _ => true) true Try.f5.params.toList args.toList ds p := hA0
  rw [Try.params5] at hA hval hsz
  obtain ⟨v0, vs0, d0, ds0, p0, q0, hargs, rfl, rfl, h0, r0⟩ := trodAll_cons hA
  obtain ⟨v1, vs1, d1, ds1, p1, q1, rfl, rfl, rfl, h1, r1⟩ := trodAll_cons r0
  obtain ⟨rfl, rfl, rfl⟩ := trodAll_nil r1
  obtain rfl : args = #[v0, v1] := by cases args; simp_all
  obtain ⟨rfl, rfl⟩ := trodVars_none hV
  obtain ⟨a0, rfl, rfl, rfl, w0⟩ := open_int Try.underlying3 (hval 0 3 v0 rfl rfl) h0
  have b0 := bounds_i64 w0
  have k1 := h1
  have lt1 : ∀ x ∈ p1, x.block < W.heap.size := by obtain ⟨m, hm⟩ := k1; exact DataW.trod_lt m _ _ _ hm
  have ws1 : WS 32 d1 := fun n hn => by
    have := List.all_eq_true.1 hsz n (DataW.weights_mem_each (j := 1) rfl rfl n hn)
    simpa using this
  obtain ⟨r1, vs1, rs1, ls1, cs1, vc1, rc1, lc1, cc1, rfl, B1, Y1, M1, K1, Z1, I1⟩ := open_replyV ws1 (hval 1 32 v1 rfl rfl) h1
  clear hA0
  refine (deskReplies_any W a0 b0.1 b0.2 r1 B1 Y1 M1 K1 Z1 vs1 rs1 ls1 cs1 vc1 rc1 lc1 cc1 I1).mono fun e W' ⟨he, bel⟩ => ?_
  subst he
  exact ⟨_, rfl, _, _, _, [], _, [], hW', trodAll_mk1 (shut_bool Try.underlying4 _), (trodAll_cons_mk (shut_int Try.underlying3 w0) (trodAll_cons_mk (Below.trod Try.laidOut (by kernel_rfl) (of_decide_eq_true (by kernel_rfl)) k1 bel lt1) trodAll_mk0)), rfl, bel.frame _, fun h => by cases h⟩

def deskReplies_xs {H : Type} : List (DataW H) := [.lit (.int .i64 0), .agg [.lit (.int .i64 0), .lit (.int .i64 0), .lit (.bool false), .lit (.bool false), .nil, .agg [.lit (.int .u8 0), .lit (.int .u8 0), .lit (.int .u8 0), .lit (.int .u8 0), .lit (.int .u8 0), .lit (.int .u8 0), .lit (.int .u8 0), .lit (.int .u8 0), .lit (.int .u8 0), .lit (.int .u8 0), .lit (.int .u8 0), .lit (.int .u8 0), .lit (.int .u8 0), .lit (.int .u8 0), .lit (.int .u8 0), .lit (.int .u8 0), .lit (.int .u8 0), .lit (.int .u8 0), .lit (.int .u8 0), .lit (.int .u8 0), .lit (.int .u8 0), .lit (.int .u8 0), .lit (.int .u8 0), .lit (.int .u8 0), .lit (.int .u8 0), .lit (.int .u8 0), .lit (.int .u8 0), .lit (.int .u8 0), .lit (.int .u8 0), .lit (.int .u8 0), .lit (.int .u8 0), .lit (.int .u8 0)], .nil, .nil, .nil, .agg [.lit (.int .i64 0), .lit (.int .i64 0), .lit (.int .i64 0), .lit (.int .i64 0), .lit (.int .i64 0), .lit (.int .i64 0), .agg [.lit (.int .u8 0), .lit (.int .u8 0), .lit (.int .u8 0), .lit (.int .u8 0), .lit (.int .u8 0), .lit (.int .u8 0), .lit (.int .u8 0), .lit (.int .u8 0), .lit (.int .u8 0), .lit (.int .u8 0), .lit (.int .u8 0), .lit (.int .u8 0), .lit (.int .u8 0), .lit (.int .u8 0), .lit (.int .u8 0), .lit (.int .u8 0), .lit (.int .u8 0), .lit (.int .u8 0), .lit (.int .u8 0), .lit (.int .u8 0), .lit (.int .u8 0), .lit (.int .u8 0), .lit (.int .u8 0), .lit (.int .u8 0), .lit (.int .u8 0), .lit (.int .u8 0), .lit (.int .u8 0), .lit (.int .u8 0), .lit (.int .u8 0), .lit (.int .u8 0), .lit (.int .u8 0), .lit (.int .u8 0)]]]]
theorem deskReplies_reads (os : Os) {H : Type} (enc : TypeId × Value → H) : ∃ places, DataW.whole enc Try.prog ((World.holding Try.prog os ⟨#[], #[], []⟩).forCall (fun _ _ => 0) ⟨#[], #[.int .i64 0, .agg (rpV rp0 none none none none 0 0 0 0).toArray], []⟩).memory Try.f5.params.toList Rows.deskRepliesSpec.vars false (#[.int .i64 0, .agg (rpV rp0 none none none none 0 0 0 0).toArray] : Array Value).toList 8 = some (deskReplies_xs, [], places) :=
  ⟨[], by kernel_rfl⟩
set_option maxRecDepth 100000 in
theorem deskReplies_lifted (os : Os) (started : os.Started) (H : Type) (enc : TypeId × Value → H) (F : Stop.Interp) :
    ReturnsInHanded {} Try.checked os 5 .any ((OpenSpec.ofChange Rows.deskRepliesSpec).preRow enc Try.prog Try.f5 Rows.deskRepliesRow.domain false Rows.deskRepliesRow.laid) (((OpenSpec.ofChange Rows.deskRepliesSpec).at F).post enc Try.prog Try.f5 false true false false) := by
  obtain ⟨places, hx⟩ := deskReplies_reads os enc
  refine returnsInHanded_of_row (C := Try.checked) (s := OpenSpec.ofChange Rows.deskRepliesSpec) own_knob started (by kernel_rfl) Try.func5
    (witness_row_at (enc := enc) (C := Try.checked) false (World.holding Try.prog os ⟨#[], #[], []⟩) #[.int .i64 0, .agg (rpV rp0 none none none none 0 0 0 0).toArray] rfl (by kernel_rfl) (by kernel_rfl) (by kernel_rfl)
      (OpenSpec.preRow_of_cond 8 hx (by kernel_rfl) (fun k hk => by cases hk) (by kernel_rfl) (laidMet_of_run' 8 (by kernel_rfl) (by kernel_rfl)))) ?_
  intro W base args ds gs before hval hW _ _ hsz hL _ _
  exact deskReplies_contract H enc W base args ds gs before hval hW hsz

theorem deskReplies_said : Rows.DeskRepliesSaid :=
  OpenClaim.holds_of_cond 5 Try.f5 rfl rfl rfl rfl rfl rfl rfl ⟨rfl, rfl, rfl, rfl, rfl⟩ rfl rfl rfl rfl rfl (by kernel_rfl) Try.func5 (by kernel_rfl)
    (of_decide_eq_true (by kernel_rfl)) (by unfold Func.isWrapper; first | (rw [if_pos (by decide +kernel)]; kernel_rfl) | (rw [if_neg (by decide +kernel)]; exact ⟨rfl, rfl⟩))
    (fun os started H enc _ F => by rw [OpenClaim.pre_eq_preRow]; exact deskReplies_lifted os started H enc F)

#print axioms deskReplies_said
end Go.Proofs.Ytenfklcgkfaajaa
