import Derived.Test.YtipbbmbkjcpjbaaDoorPe9
import Derived.Test.YtipbbmbkjcpjbaaDoorXg9
namespace Go.Proofs.YtipbbmbkjcpjbaaDoor
set_option linter.unusedVariables false
set_option linter.unusedSimpArgs false
open Go.ChangeShapes Go.WideShapes Go.ChangeAt Go.RowKit

structure NdY (n : Nd) : Prop where
  ls : Bys n.ls
  rs : Bys n.rs
  k : Bys n.k
  vs : Bys n.vs
set_option maxRecDepth 100000 in
theorem open_node {H : Type} {enc : TypeId × Value → H} {W : World} {fuel : Nat} {nd : List Value} {x : DataW H × List MemPlace} (hd : WS 30 x.1) (hnl : nd.length = 102) (g8 : DataW.trod enc Tryd.prog W 0 (fun _ => true) true fuel 30 nd = some x) :
    ∃ (n : Nd) (sp : Option Addr) (cap : Nat), nd = ndC n (.slice sp n.vs.length cap) ∧ NdOk n ∧ NdY n ∧ Src W sp cap n.vs ∧ (sp = none → cap = 0) ∧ n.vs.length ≤ 140737488351232 := by
  obtain ⟨ys, kn, _, hxy, _, hyl, hfn⟩ := DataW.trod_struct (x := x) Tryd.underlying30 g8
  have hyl' : ys.length = 9 := hyl
  rw [hxy] at hd
  have n0 : DataW.trod enc Tryd.prog W 0 (fun _ => true) true kn 3 ((nd.drop 0).take 1) = some ys[0] := by
    have := hfn 0 _ rfl
    rw [List.getElem?_eq_getElem (by omega)] at this
    change DataW.trod enc Tryd.prog W 0 (fun _ => true) true kn 3 ((nd.drop 0).take (Tryd.prog.cellsOf 3)) = _ at this
    rw [show Tryd.prog.cellsOf 3 = 1 by kernel_rfl] at this; exact this
  have n1 : DataW.trod enc Tryd.prog W 0 (fun _ => true) true kn 3 ((nd.drop 1).take 1) = some ys[1] := by
    have := hfn 1 _ rfl
    rw [List.getElem?_eq_getElem (by omega)] at this
    change DataW.trod enc Tryd.prog W 0 (fun _ => true) true kn 3 ((nd.drop 1).take (Tryd.prog.cellsOf 3)) = _ at this
    rw [show Tryd.prog.cellsOf 3 = 1 by kernel_rfl] at this; exact this
  have n2 : DataW.trod enc Tryd.prog W 0 (fun _ => true) true kn 3 ((nd.drop 2).take 1) = some ys[2] := by
    have := hfn 2 _ rfl
    rw [List.getElem?_eq_getElem (by omega)] at this
    change DataW.trod enc Tryd.prog W 0 (fun _ => true) true kn 3 ((nd.drop 2).take (Tryd.prog.cellsOf 3)) = _ at this
    rw [show Tryd.prog.cellsOf 3 = 1 by kernel_rfl] at this; exact this
  have n3 : DataW.trod enc Tryd.prog W 0 (fun _ => true) true kn 3 ((nd.drop 3).take 1) = some ys[3] := by
    have := hfn 3 _ rfl
    rw [List.getElem?_eq_getElem (by omega)] at this
    change DataW.trod enc Tryd.prog W 0 (fun _ => true) true kn 3 ((nd.drop 3).take (Tryd.prog.cellsOf 3)) = _ at this
    rw [show Tryd.prog.cellsOf 3 = 1 by kernel_rfl] at this; exact this
  have n4 : DataW.trod enc Tryd.prog W 0 (fun _ => true) true kn 3 ((nd.drop 4).take 1) = some ys[4] := by
    have := hfn 4 _ rfl
    rw [List.getElem?_eq_getElem (by omega)] at this
    change DataW.trod enc Tryd.prog W 0 (fun _ => true) true kn 3 ((nd.drop 4).take (Tryd.prog.cellsOf 3)) = _ at this
    rw [show Tryd.prog.cellsOf 3 = 1 by kernel_rfl] at this; exact this
  have n5 : DataW.trod enc Tryd.prog W 0 (fun _ => true) true kn 27 ((nd.drop 5).take 32) = some ys[5] := by
    have := hfn 5 _ rfl
    rw [List.getElem?_eq_getElem (by omega)] at this
    change DataW.trod enc Tryd.prog W 0 (fun _ => true) true kn 27 ((nd.drop 5).take (Tryd.prog.cellsOf 27)) = _ at this
    rw [show Tryd.prog.cellsOf 27 = 32 by kernel_rfl] at this; exact this
  have n6 : DataW.trod enc Tryd.prog W 0 (fun _ => true) true kn 27 ((nd.drop 37).take 32) = some ys[6] := by
    have := hfn 6 _ rfl
    rw [List.getElem?_eq_getElem (by omega)] at this
    change DataW.trod enc Tryd.prog W 0 (fun _ => true) true kn 27 ((nd.drop 37).take (Tryd.prog.cellsOf 27)) = _ at this
    rw [show Tryd.prog.cellsOf 27 = 32 by kernel_rfl] at this; exact this
  have n7 : DataW.trod enc Tryd.prog W 0 (fun _ => true) true kn 26 ((nd.drop 69).take 32) = some ys[7] := by
    have := hfn 7 _ rfl
    rw [List.getElem?_eq_getElem (by omega)] at this
    change DataW.trod enc Tryd.prog W 0 (fun _ => true) true kn 26 ((nd.drop 69).take (Tryd.prog.cellsOf 26)) = _ at this
    rw [show Tryd.prog.cellsOf 26 = 32 by kernel_rfl] at this; exact this
  have n8 : DataW.trod enc Tryd.prog W 0 (fun _ => true) true kn 28 ((nd.drop 101).take 1) = some ys[8] := by
    have := hfn 8 _ rfl
    rw [List.getElem?_eq_getElem (by omega)] at this
    change DataW.trod enc Tryd.prog W 0 (fun _ => true) true kn 28 ((nd.drop 101).take (Tryd.prog.cellsOf 28)) = _ at this
    rw [show Tryd.prog.cellsOf 28 = 1 by kernel_rfl] at this; exact this
  obtain ⟨y0, f0, _, _⟩ := DataW.trod_int Tryd.underlying3 n0
  obtain ⟨y1, f1, _, _⟩ := DataW.trod_int Tryd.underlying3 n1
  obtain ⟨y2, f2, _, _⟩ := DataW.trod_int Tryd.underlying3 n2
  obtain ⟨y3, f3, _, _⟩ := DataW.trod_int Tryd.underlying3 n3
  obtain ⟨y4, f4, _, _⟩ := DataW.trod_int Tryd.underlying3 n4
  obtain ⟨u5, f5, l5, b5⟩ := open_dig n5
  obtain ⟨u6, f6, l6, b6⟩ := open_dig n6
  obtain ⟨u7, f7, l7, b7⟩ := open_key n7
  obtain ⟨sn, f8⟩ := trod_one (enc := enc) (W := W) (l := nd) (n := 101) (by omega)
  rw [f8] at n8
  have hws : WS 28 (ys[8]).1 := hd.field Tryd.underlying30 (j := 8) rfl (by rw [List.getElem?_map, List.getElem?_eq_getElem (by omega)]; rfl)
  obtain ⟨val, sp, cap, e8, yv, hS, hnil, hvl⟩ := open_bytesN (d := (ys[8]).1) (p := (ys[8]).2) hws n8
  subst e8
  have hne : nd = [.int .i64 y0] ++ ([.int .i64 y1] ++ ([.int .i64 y2] ++ ([.int .i64 y3] ++ ([.int .i64 y4] ++ (ints .u8 u5 ++ (ints .u8 u6 ++ (ints .u8 u7 ++ ([.slice sp val.length cap] ++ nd.drop 102)))))))) := by
    rw [← f0, ← f1, ← f2, ← f3, ← f4, ← f5, ← f6, ← f7, ← f8, ← cut_at nd 101 1, ← cut_at nd 69 32, ← cut_at nd 37 32, ← cut_at nd 5 32, ← cut_at nd 4 1, ← cut_at nd 3 1, ← cut_at nd 2 1, ← cut_at nd 1 1, ← cut_at nd 0 1]; rfl
  rw [List.drop_of_length_le (by omega : nd.length ≤ 102)] at hne
  exact ⟨⟨y0, y1, y2, y3, y4, u5, u6, u7, val⟩, sp, cap, hne, ⟨l5, l6, l7⟩, ⟨b5, b6, b7, yv⟩, hS, hnil, hvl⟩
set_option maxRecDepth 100000 in
theorem open_scriptY {H : Type} {enc : TypeId × Value → H} {W : World} {fuel : Nat} {v : Value} {d : DataW H} {p : List MemPlace} (hw : WS 22 d) (hf : DataW.trod enc Tryd.prog W 0 (fun _ => true) true fuel 22 [v] = some (d, p)) :
    ∃ (ops : List NOp) (sp : Option Addr) (cap : Nat), v = .slice sp ops.length cap ∧ SC W sp ops ∧ (∀ o ∈ ops, NOk o ∧ VYk W o) ∧ (ops.length : Int) ≤ 9223372036854775807 := by
  rcases Deep.open_slice Tryd.underlying22 hf with ⟨hcs, hx⟩ | ⟨a, len, cap, m, n, D, Pl, hcs, _, hl, hm, hmm, hx, hrow⟩
  · simp at hcs
    subst hcs
    exact ⟨[], none, 0, rfl, ⟨0, 0, fun h => by simp at h, fun i hi => by simp at hi⟩, fun c hc => by simp at hc, by decide⟩
  · simp at hcs
    subst hcs
    simp only [Prod.mk.injEq] at hx
    obtain ⟨rfl, _⟩ := hx
    simp only [if_true] at hmm
    subst hmm
    obtain ⟨w1, w2⟩ := hw.slice Tryd.underlying22
    have each : ∀ i, i < len → ∃ q : NOp, (∀ j u, (opC q)[j]? = some u → W.cell? (a.add (i * 203 + j)) = some u) ∧ NOk q ∧ VYk W q := by
      intro i hi
      obtain ⟨cs', h1, h2⟩ := hrow i (by omega)
      rw [show Tryd.prog.cellsOf 32 = 203 by kernel_rfl] at h1
      obtain ⟨_, hlen, hcell⟩ := World.cells?_some h1
      obtain ⟨xs, k, hk, hxy, _, hxl, hfd⟩ := DataW.trod_struct Tryd.underlying32 h2
      have hd := w2 (D i) (List.mem_map.2 ⟨i, List.mem_range.2 hi, rfl⟩)
      have hxl' : xs.length = 9 := hxl
      simp only [Prod.mk.injEq] at hxy
      rw [hxy.1] at hd
      have g0 : DataW.trod enc Tryd.prog W 0 (fun _ => true) true k 3 ((cs'.drop 0).take 1) = some xs[0] := by
        have := hfd 0 _ rfl
        rw [List.getElem?_eq_getElem (by omega)] at this
        change DataW.trod enc Tryd.prog W 0 (fun _ => true) true k 3 ((cs'.drop 0).take (Tryd.prog.cellsOf 3)) = _ at this
        rw [show Tryd.prog.cellsOf 3 = 1 by kernel_rfl] at this; exact this
      have g1 : DataW.trod enc Tryd.prog W 0 (fun _ => true) true k 3 ((cs'.drop 1).take 1) = some xs[1] := by
        have := hfd 1 _ rfl
        rw [List.getElem?_eq_getElem (by omega)] at this
        change DataW.trod enc Tryd.prog W 0 (fun _ => true) true k 3 ((cs'.drop 1).take (Tryd.prog.cellsOf 3)) = _ at this
        rw [show Tryd.prog.cellsOf 3 = 1 by kernel_rfl] at this; exact this
      have g2 : DataW.trod enc Tryd.prog W 0 (fun _ => true) true k 3 ((cs'.drop 2).take 1) = some xs[2] := by
        have := hfd 2 _ rfl
        rw [List.getElem?_eq_getElem (by omega)] at this
        change DataW.trod enc Tryd.prog W 0 (fun _ => true) true k 3 ((cs'.drop 2).take (Tryd.prog.cellsOf 3)) = _ at this
        rw [show Tryd.prog.cellsOf 3 = 1 by kernel_rfl] at this; exact this
      have g3 : DataW.trod enc Tryd.prog W 0 (fun _ => true) true k 3 ((cs'.drop 3).take 1) = some xs[3] := by
        have := hfd 3 _ rfl
        rw [List.getElem?_eq_getElem (by omega)] at this
        change DataW.trod enc Tryd.prog W 0 (fun _ => true) true k 3 ((cs'.drop 3).take (Tryd.prog.cellsOf 3)) = _ at this
        rw [show Tryd.prog.cellsOf 3 = 1 by kernel_rfl] at this; exact this
      have g4 : DataW.trod enc Tryd.prog W 0 (fun _ => true) true k 26 ((cs'.drop 4).take 32) = some xs[4] := by
        have := hfd 4 _ rfl
        rw [List.getElem?_eq_getElem (by omega)] at this
        change DataW.trod enc Tryd.prog W 0 (fun _ => true) true k 26 ((cs'.drop 4).take (Tryd.prog.cellsOf 26)) = _ at this
        rw [show Tryd.prog.cellsOf 26 = 32 by kernel_rfl] at this; exact this
      have g5 : DataW.trod enc Tryd.prog W 0 (fun _ => true) true k 27 ((cs'.drop 36).take 32) = some xs[5] := by
        have := hfd 5 _ rfl
        rw [List.getElem?_eq_getElem (by omega)] at this
        change DataW.trod enc Tryd.prog W 0 (fun _ => true) true k 27 ((cs'.drop 36).take (Tryd.prog.cellsOf 27)) = _ at this
        rw [show Tryd.prog.cellsOf 27 = 32 by kernel_rfl] at this; exact this
      have g6 : DataW.trod enc Tryd.prog W 0 (fun _ => true) true k 27 ((cs'.drop 68).take 32) = some xs[6] := by
        have := hfd 6 _ rfl
        rw [List.getElem?_eq_getElem (by omega)] at this
        change DataW.trod enc Tryd.prog W 0 (fun _ => true) true k 27 ((cs'.drop 68).take (Tryd.prog.cellsOf 27)) = _ at this
        rw [show Tryd.prog.cellsOf 27 = 32 by kernel_rfl] at this; exact this
      have g7 : DataW.trod enc Tryd.prog W 0 (fun _ => true) true k 28 ((cs'.drop 100).take 1) = some xs[7] := by
        have := hfd 7 _ rfl
        rw [List.getElem?_eq_getElem (by omega)] at this
        change DataW.trod enc Tryd.prog W 0 (fun _ => true) true k 28 ((cs'.drop 100).take (Tryd.prog.cellsOf 28)) = _ at this
        rw [show Tryd.prog.cellsOf 28 = 1 by kernel_rfl] at this; exact this
      have g8 : DataW.trod enc Tryd.prog W 0 (fun _ => true) true k 30 ((cs'.drop 101).take 102) = some xs[8] := by
        have := hfd 8 _ rfl
        rw [List.getElem?_eq_getElem (by omega)] at this
        change DataW.trod enc Tryd.prog W 0 (fun _ => true) true k 30 ((cs'.drop 101).take (Tryd.prog.cellsOf 30)) = _ at this
        rw [show Tryd.prog.cellsOf 30 = 102 by kernel_rfl] at this; exact this
      obtain ⟨z0, e0, _, b0⟩ := DataW.trod_int Tryd.underlying3 g0
      obtain ⟨z1, e1, _, b1⟩ := DataW.trod_int Tryd.underlying3 g1
      obtain ⟨z2, e2, _, b2⟩ := DataW.trod_int Tryd.underlying3 g2
      obtain ⟨z3, e3, _, b3⟩ := DataW.trod_int Tryd.underlying3 g3
      obtain ⟨k4, e4, l4, y4⟩ := open_key g4
      obtain ⟨k5, e5, l5, y5⟩ := open_dig g5
      obtain ⟨k6, e6, l6, y6⟩ := open_dig g6
      obtain ⟨sv, e7⟩ := trod_one (enc := enc) (W := W) (l := cs') (n := 100) (by omega)
      rw [e7] at g7
      have hws : WS 28 (xs[7]).1 := hd.field Tryd.underlying32 (j := 7) rfl (by rw [List.getElem?_map, List.getElem?_eq_getElem (by omega)]; rfl)
      obtain ⟨val, sp, cap', e8, yv, hS, hnil, hvl⟩ := open_bytesN (d := (xs[7]).1) (p := (xs[7]).2) hws g7
      subst e8
      obtain ⟨nd, hnd⟩ : ∃ nd, nd = (cs'.drop 101).take 102 := ⟨_, rfl⟩
      have hnl : nd.length = 102 := by rw [hnd]; simp; omega
      have hd8 : WS 30 (xs[8]).1 := hd.field Tryd.underlying32 (j := 8) rfl (by rw [List.getElem?_map, List.getElem?_eq_getElem (by omega)]; rfl)
      rw [← hnd] at g8
      obtain ⟨mm, spn, capn, hnE, hmok, hmy, hmS, hmn, hml⟩ := open_node (x := xs[8]) hd8 hnl g8
      have hn1 : ∀ x ∈ nd, x.oneCell' = true := by rw [hnE]; exact ndC_one mm _ rfl
      have hcs : cs' = opC ⟨z0, z1, z2, z3, k4, k5, k6, .slice sp val.length cap', nd⟩ := by
        have : cs' = [.int .i64 z0] ++ ([.int .i64 z1] ++ ([.int .i64 z2] ++ ([.int .i64 z3] ++ (ints .u8 k4 ++ (ints .u8 k5 ++ (ints .u8 k6 ++ ([.slice sp val.length cap'] ++ (nd ++ cs'.drop 203)))))))) := by
          rw [← e0, ← e1, ← e2, ← e3, ← e4, ← e5, ← e6, ← e7, hnd, ← cut_at cs' 101 102, ← cut_at cs' 100 1, ← cut_at cs' 68 32, ← cut_at cs' 36 32, ← cut_at cs' 4 32, ← cut_at cs' 3 1, ← cut_at cs' 2 1, ← cut_at cs' 1 1, ← cut_at cs' 0 1]; rfl
        rw [List.drop_of_length_le (by omega : cs'.length ≤ 203), List.append_nil] at this
        exact this
      refine ⟨⟨z0, z1, z2, z3, k4, k5, k6, .slice sp val.length cap', nd⟩, fun j u hu => ?_, ⟨l4, l5, l6, hnl, y4, rfl, hn1⟩, ⟨⟨val, sp, cap', rfl, hS, hnil, hvl, yv⟩, ⟨mm, spn, capn, hnE, hmok, hmS, hmn, hml, hmy.vs⟩⟩⟩
      rw [← hcs] at hu
      have hj := (List.getElem?_eq_some_iff.1 hu).1
      have := hcell j (by omega)
      rw [Deep.add_add] at this
      rw [this, hu]
    haveI : Inhabited NOp := ⟨zOp⟩
    obtain ⟨q, hq⟩ := Deep.choose_lt (α := NOp) each
    have gm : ∀ i, i < len → ((List.range len).map q).getD i zOp = q i := fun i hi => by simp [hi]
    have hlen : ((List.range len).map q).length = len := by simp
    have okc : ∀ c ∈ (List.range len).map q, NOk c ∧ VYk W c := fun c hc => by
      obtain ⟨i, hi, rfl⟩ := List.mem_map.1 hc
      exact (hq i (List.mem_range.1 hi)).2
    have hmx : (len : Int) ≤ 9223372036854775807 := by unfold maxLen at hm; omega
    by_cases hz : 0 < len
    · have c00 := (hq 0 hz).1 0 _ rfl
      have hsp : a.spot = none := by
        have := World.cell?_spot c00
        unfold Addr.add at this; split at this <;> simp_all
      obtain ⟨b, o, spot⟩ := a
      obtain rfl : spot = none := hsp
      have hblk : b < W.heap.size := by
        have := block_lt_of_cell c00; rwa [Addr.add_mid] at this
      refine ⟨(List.range len).map q, some ⟨b, o, none⟩, m, by rw [hlen], ⟨b, o, fun _ => ⟨hblk, rfl⟩, fun i hi => ?_⟩, okc, by rw [hlen]; exact hmx⟩
      rw [hlen] at hi
      rw [gm i hi]
      intro j u hu
      have := (hq i hi).1 j u hu
      rw [Addr.add_mid, ← Nat.add_assoc] at this
      exact this
    · exact ⟨(List.range len).map q, some a, m, by rw [hlen], ⟨0, 0, fun h => by rw [hlen] at h; omega, fun i hi => by rw [hlen] at hi; omega⟩, okc, by rw [hlen]; exact hmx⟩

set_option maxRecDepth 100000 in
theorem nodeDecodes_contract (H : Type) (enc : TypeId × Value → H) (W : World) (base : Nat) (args : Array Value) (ds gs : List (DataW H)) (before : List MemPlace)
    (hval : ∀ (j : Nat) t v, Tryd.f4.params[j]? = some t → args[j]? = some v → Value.okWide Tryd.prog W .any base t v)
    (hW : DataW.Whole enc Tryd.prog Tryd.f4.params.toList Rows.nodeDecodesSpec.vars false W args.toList ds gs before) (hL : laidMetH Tryd.prog Rows.nodeDecodesRow.laid W)
    (hsz : (DataW.weightsEach Tryd.prog (Tryd.f4.params.toList ++ Rows.nodeDecodesSpec.plain.varTypes Tryd.prog) (ds ++ gs)).all (· ≤ reachBytes) = true) :
    Calls Tryd.prog 4 args W fun e W' => ∃ v, e = .returned v ∧ Rows.nodeDecodesSpec.post enc Tryd.prog Tryd.f4 false true false false W args v W' := by
  have hW' := hW
  obtain ⟨p, q, hA0, hV, rfl, hfz, hnd⟩ := hW
  have hA : DataW.TrodAll enc Tryd.prog W 0 (fun _ => true) true Tryd.f4.params.toList args.toList ds p := hA0
  rw [Tryd.params4] at hA hval hsz
  obtain ⟨v0, vs0, d0, ds0, p0, q0, hargs, rfl, rfl, h0, r0⟩ := trodAll_cons hA
  obtain ⟨rfl, rfl, rfl⟩ := trodAll_nil r0
  obtain rfl : args = #[v0] := by cases args; simp_all
  obtain ⟨rfl, rfl⟩ := trodVars_none hV
  have hG : Gb W := tab4 hL
  have k0 := h0
  have lt0 : ∀ x ∈ p0, x.block < W.heap.size := by obtain ⟨m, hm⟩ := k0; exact DataW.trod_lt m _ _ _ hm
  have ws0 : WS 22 d0 := fun n hn => by
    have := List.all_eq_true.1 hsz n (DataW.weights_mem_each (j := 0) rfl rfl n hn)
    simpa using this
  obtain ⟨a0x, len0x, cap0x, rfl⟩ := okWide_slice Tryd.underlying22 (hval 0 22 v0 rfl rfl)
  obtain ⟨fuel0, hf0⟩ := h0
  change DataW.trod enc Tryd.prog W 0 (fun _ => true) true fuel0 22 [Value.slice a0x len0x cap0x] = some (d0, p0) at hf0
  obtain ⟨vv0, hvv0⟩ : ∃ vv, vv = Value.slice a0x len0x cap0x := ⟨_, rfl⟩
  rw [← hvv0] at hf0 k0 hval hA0 hW' ⊢
  clear hvv0
  obtain ⟨ops0, sp0, cap0, rfl, hS0, ok0, hlen0⟩ := open_scriptY ws0 hf0
  clear hA0
  refine (nodeDecodes_any W hG ops0 sp0 cap0 hS0 ok0 hlen0).mono fun e W' ⟨he, bel⟩ => ?_
  subst he
  exact ⟨_, rfl, _, _, _, [], _, [], hW', trodAll_mk1 (shut_bool Tryd.underlying4 _), (trodAll_cons_mk (Below.trod Tryd.laidOut (by kernel_rfl) (of_decide_eq_true (by kernel_rfl)) k0 bel lt0) trodAll_mk0), rfl, bel.frame _, fun h => by cases h⟩

theorem nodeDecodes_laid (os : Os) : laidMet Tryd.prog Rows.nodeDecodesRow.laid ((laidWorld os).forCall (fun _ _ => 0) ⟨#[], #[.slice none 0 0], []⟩).memory :=
  laidMet_of_run' 8 (by kernel_rfl) (by kernel_rfl)
def nodeDecodes_xs {H : Type} : List (DataW H) := [.nil]
theorem nodeDecodes_reads (os : Os) {H : Type} (enc : TypeId × Value → H) : ∃ places, DataW.whole enc Tryd.prog ((laidWorld os).forCall (fun _ _ => 0) ⟨#[], #[.slice none 0 0], []⟩).memory Tryd.f4.params.toList Rows.nodeDecodesSpec.vars false (#[.slice none 0 0] : Array Value).toList 8 = some (nodeDecodes_xs, [], places) :=
  ⟨[], by kernel_rfl⟩
set_option maxRecDepth 100000 in
theorem nodeDecodes_lifted (os : Os) (started : os.Started) (H : Type) (enc : TypeId × Value → H) (F : Stop.Interp) :
    ReturnsInHanded {} Tryd.checked os 4 .any ((OpenSpec.ofChange Rows.nodeDecodesSpec).preRow enc Tryd.prog Tryd.f4 Rows.nodeDecodesRow.domain false Rows.nodeDecodesRow.laid) (((OpenSpec.ofChange Rows.nodeDecodesSpec).at F).post enc Tryd.prog Tryd.f4 false true false false) := by
  obtain ⟨places, hx⟩ := nodeDecodes_reads os enc
  refine returnsInHanded_of_row (C := Tryd.checked) (s := OpenSpec.ofChange Rows.nodeDecodesSpec) own_knob started (by kernel_rfl) Tryd.func4
    (witness_row_at (enc := enc) (C := Tryd.checked) false (laidWorld os) #[.slice none 0 0] rfl (by kernel_rfl) (by kernel_rfl) (by kernel_rfl)
      (OpenSpec.preRow_of_cond 8 hx (by kernel_rfl) (fun k hk => by cases hk) (by kernel_rfl) (nodeDecodes_laid os))) ?_
  intro W base args ds gs before hval hW _ _ hsz hL _ _
  exact nodeDecodes_contract H enc W base args ds gs before hval hW hL hsz

theorem nodeDecodes_said : Rows.NodeDecodesSaid :=
  OpenClaim.holds_of_cond 4 Tryd.f4 rfl rfl rfl rfl rfl rfl rfl ⟨rfl, rfl, rfl, rfl, rfl⟩ rfl rfl rfl rfl rfl (by kernel_rfl) Tryd.func4 (by kernel_rfl)
    (of_decide_eq_true (by kernel_rfl)) (by unfold Func.isWrapper; first | (rw [if_pos (by decide +kernel)]; kernel_rfl) | (rw [if_neg (by decide +kernel)]; exact ⟨rfl, rfl⟩))
    (fun os started H enc _ F => by rw [OpenClaim.pre_eq_preRow]; exact nodeDecodes_lifted os started H enc F)

theorem nodeDecodes_plain (f : FuncId) (fn : Func) (hf : Tryd.pinned.checked.prog.funcNamed "ledger/ledgerlaw9.NodeDecodes" = some f) (hfn : Tryd.pinned.checked.prog.funcs[f]? = some fn) :
    true = Tryd.pinned.checked.prog.looks [] ∧ ∀ (j : Nat) t, fn.params[j]? = some t → Tryd.pinned.checked.prog.wantsStandIn t = false := by
  obtain rfl : f = 4 := Option.some.inj ((show Tryd.prog.funcNamed "ledger/ledgerlaw9.NodeDecodes" = some 4 by kernel_rfl).symm.trans hf) |>.symm
  obtain rfl : fn = Tryd.f4 := (Option.some.inj (Tryd.func4.symm.trans hfn)).symm
  refine ⟨by kernel_rfl, fun j t ht => ?_⟩
  rw [Tryd.params4] at ht
  have hm := Array.mem_of_getElem? ht
  have hall : ([22] : List Nat).all (fun t => !(Tryd.prog.wantsStandIn t)) = true := by kernel_rfl
  have hq := List.all_eq_true.1 hall t (by simpa using hm)
  show Tryd.prog.wantsStandIn t = false
  simpa using hq

theorem nodeDecodes_card : Rows.NodeDecodesCardSaid :=
  Claim7.holds_tied_plain_at .later [] _ _ _ _ nodeDecodes_said (fun _ h => by cases h) (by kernel_rfl) (fun _ h => by cases h) nodeDecodes_row_tie rfl ⟨rfl, rfl⟩ (by kernel_rfl) rfl nodeDecodes_plain (by kernel_rfl)
#print axioms nodeDecodes_card
end Go.Proofs.YtipbbmbkjcpjbaaDoor
