import Derived.Test.YtbnghhgeoodphaaGreatDoorIwO
import Derived.Test.YtbnghhgeoodphaaGreatDoorCards
import Derived.Test.YtbnghhgeoodphaaGreatDoorTie
import Derived.ProofKit
import Derived.WalkKit
import Derived.OpenShut
import Derived.SizedLaws
import Derived.Deep.DeepHandedRow
import Derived.Deep.Slices
import Derived.Lib.LaidTab
namespace Go.Proofs.YtbnghhgeoodphaaGreatDoor
set_option linter.unusedVariables false
set_option linter.unusedSimpArgs false
open Go.RowKit
open Go.Proofs.YtbnghhgeoodphaaGreatDoor.Ca (Ct ct0 ctC argV AS)
attribute [local go_sem ↓] Go.wp_at_zero Go.wp_at_succ

set_option maxRecDepth 100000 in
set_option maxHeartbeats 8000000 in
theorem holds_yes (w : World) (hG : Glob w) (wd room : Int) (hf : 1 ≤ wd ∧ wd ≤ 32 ∧ 1 ≤ room ∧ room ≤ 4096) (first : Int) (T : Nat) (xs : List IR) (hok : ChOk first T xs) (hn1 : 1 ≤ xs.length) (sp : Option Addr) (cap : Nat) (hS : SrcR w.heap.size w sp xs) (sa : Option Addr) (ca : Nat) (asks : List Ak) (hA : SrcA w.heap.size w sa asks) (hak : ∀ x ∈ asks, AkOk x) (hal : asks.length ≤ 140737488351232) :
    Calls Tryz.prog 3 #[.int .i64 wd, .int .i64 room, .int .i64 first, .int .i64 T, .slice sp xs.length cap, .slice sa asks.length ca] w fun e w' => e = .returned (.bool true) ∧ Below w.heap.size w w' := by
  have hn4 := hok.n4
  have hni : (xs.length : Int) ≤ 4000 := by omega
  have KF := hid (fits_yes w wd room hf)
  have KB := hid (hbounded_yes w first T sp xs.length cap ⟨hok.f0, hok.f1, by omega, by have := hok.T8; omega, by omega, by omega⟩)
  have KR := hid (fresh_any w 4096 ⟨by omega, by omega⟩ wd room ⟨hf.1, hf.2.1⟩ ⟨hf.2.2.1, hf.2.2.2⟩)
  have HS := hid hS
  have HA := hid hA
  have HAK := hid hak
  have HAL := hid hal
  have HOK := hid hok
  have HN1 := hid hn1
  have HGL := hid hG
  clear hf hok hS hn1 hn4 hA hak hal hG
  go_enter Tryz.func3, Tryz.ntmps3
  go_wp2_with fail
  refine KF.out.mono ?_
  rintro e w' ⟨rfl, rfl⟩
  go_wp2_with fail
  refine KB.out.mono ?_
  rintro e w' ⟨rfl, rfl⟩
  go_wp2_with fail
  refine KR.out.mono ?_
  rintro e w1 ⟨S1, rfl, hQ, hb1, hw1⟩
  have KM := hid (made_any w1 w.heap.size S1 0 (hQ.ls ⟨by omega, by omega⟩) (by omega) S1.s ⟨hQ.np, rfl⟩ first T xs HOK.out sp cap (HS.out.below hb1))
  have HB1 := hid hb1
  have HW1 := hid hw1
  clear hQ hb1 hw1 KF KB KR
  obtain ⟨dp, hdp⟩ : ∃ dp, S1.p = dp := ⟨_, rfl⟩
  obtain ⟨st, hst⟩ : ∃ st, S1.st = st := ⟨_, rfl⟩
  rw [hdp, hst]
  rw [hst] at KM
  clear hdp hst
  go_wp2_with fail
  refine KM.out.mono ?_
  rintro e w2 ⟨S2, c, rv, pv, b2, rfl, hC2, hs2, hn2, hb2, hl2⟩
  have HB2 := hid (HB1.out.trans hb2)
  have KFI := hid (finds_any w2 w.heap.size S2 first T xs HOK.out HN1.out b2 c rv pv hC2 hl2 (HGL.out.below HB2.out HGL.out.1) HGL.out.1 wd (by rw [hn2.2]; exact HW1.out) sa ca asks (HA.out.below HB2.out) HAK.out HAL.out)
  clear hC2 hs2 hn2 hb2 hl2 KM HB1
  go_wp2_with fail
  refine KFI.out.mono ?_
  rintro e w3 ⟨rfl, hb3⟩
  have HB3 := hid (HB2.out.trans hb3)
  clear hb3 KFI HB2
  go_wp2_with fail
  go_ret
  exact ⟨rfl, HB3.out⟩
set_option maxRecDepth 100000 in
set_option maxHeartbeats 4000000 in
theorem holds_any (w : World) (hG : Glob w) (wd room first T : Int) (xs : List IR) (hx : ∀ x ∈ xs, IROk x) (sp : Option Addr) (cap : Nat) (hS : SrcR w.heap.size w sp xs) (hl : xs.length ≤ 140737488351232) (sa : Option Addr) (ca : Nat) (asks : List Ak) (hA : SrcA w.heap.size w sa asks) (hak : ∀ x ∈ asks, AkOk x) (hal : asks.length ≤ 140737488351232) :
    Calls Tryz.prog 3 #[.int .i64 wd, .int .i64 room, .int .i64 first, .int .i64 T, .slice sp xs.length cap, .slice sa asks.length ca] w fun e w' => e = .returned (.bool true) ∧ Below w.heap.size w w' := by
  by_cases hf : 1 ≤ wd ∧ wd ≤ 32 ∧ 1 ≤ room ∧ room ≤ 4096
  · by_cases hbd : 0 ≤ first ∧ first ≤ 536870912 ∧ 0 ≤ T ∧ T ≤ 8 ∧ 1 ≤ (xs.length : Int) ∧ (xs.length : Int) ≤ 4000
    · obtain ⟨b1, b2, b3, b4, b5, b6⟩ := hbd
      obtain ⟨n, rfl⟩ : ∃ n : Nat, T = n := ⟨T.toNat, by omega⟩
      exact holds_yes w hG wd room hf first n xs ⟨b1, b2, by omega, by omega, hx⟩ (by omega) sp cap hS sa ca asks hA hak hal
    · have KF := hid (fits_yes w wd room hf)
      have KB := hid (hbounded_no w first T sp xs.length cap (by omega) hbd)
      clear hf hbd hS hx hA hak hG
      go_enter Tryz.func3, Tryz.ntmps3
      go_wp2_with fail
      refine KF.out.mono ?_
      rintro e w' ⟨rfl, rfl⟩
      go_wp2_with fail
      refine KB.out.mono ?_
      rintro e w' ⟨rfl, rfl⟩
      go_wp2_with fail
      go_ret
      exact ⟨rfl, Below.refl _ _⟩
  · have KF := hid (fits_no w wd room hf)
    clear hf hS hx hA hak hG
    go_enter Tryz.func3, Tryz.ntmps3
    go_wp2_with fail
    refine KF.out.mono ?_
    rintro e w' ⟨rfl, rfl⟩
    go_wp2_with fail
    go_ret
    exact ⟨rfl, Below.refl _ _⟩
end Go.Proofs.YtbnghhgeoodphaaGreatDoor
namespace Go.Proofs.YtbnghhgeoodphaaGreatDoor
set_option linter.unusedVariables false
set_option linter.unusedSimpArgs false
open Go.ChangeShapes Go.WideShapes Go.ChangeAt Go.RowKit

theorem own_knob : ownKnob Tryz.prog.godebug = none := by kernel_rfl
theorem Tryz.laidOut : laidOutB Tryz.prog = true := by kernel_rfl
theorem cells5 : Tryz.prog.cellsOf 5 = 1 := by kernel_rfl
theorem gF : Tryz.prog.globalNamed "ledger/digest.firstState" = some 0 := by kernel_rfl
theorem gK : Tryz.prog.globalNamed "ledger/digest.roundConstants" = some 1 := by kernel_rfl
theorem gFt : (Tryz.prog.globals[0]?).map (·.type) = some 177 := by kernel_rfl
theorem gKt : (Tryz.prog.globals[1]?).map (·.type) = some 198 := by kernel_rfl
theorem cellsA8 : Tryz.prog.cellsOf 177 = 8 := by kernel_rfl
theorem cellsA64 : Tryz.prog.cellsOf 198 = 64 := by kernel_rfl
theorem cellsU : Tryz.prog.cellsOf 34 = 1 := by kernel_rfl
theorem glob_of {W : World} (hF : Lib.TabIs Tryz.prog W "ledger/digest.firstState" .u32 fTab) (hK : Lib.TabIs Tryz.prog W "ledger/digest.roundConstants" .u32 kTab) : Glob W := by
  have cK : ∀ j, j < 64 → W.cell? ⟨1, j, none⟩ = some (.int .u32 (kTab.getD j 0)) := fun j hj => hK.cell gK j hj
  have cF : ∀ j, j < 8 → W.cell? ⟨0, j, none⟩ = some (.int .u32 (fTab.getD j 0)) := fun j hj => hF.cell gF j hj
  refine ⟨by have h1 := block_lt_of_cell (cK 0 (by omega)); have h2 := block_lt_of_cell (cF 0 (by omega)); simp only at h1 h2; omega, fun j v hv => ?_, fun j v hv => ?_⟩
  · have hj : j < kTab.length := by have := (List.getElem?_eq_some_iff.1 hv).1; rwa [ints_len] at this
    rw [ints_get .u32 kTab j hj] at hv
    rw [Nat.zero_add, ← hv]; exact cK j hj
  · have hj : j < fTab.length := by have := (List.getElem?_eq_some_iff.1 hv).1; rwa [ints_len] at this
    rw [ints_get .u32 fTab j hj] at hv
    rw [Nat.zero_add, ← hv]; exact cF j hj
theorem tab2 {W : World} (h : laidMetH Tryz.prog Rows.indexHoldsRow.laid W) : Glob W := by
  have hF : Lib.TabIs Tryz.prog W "ledger/digest.firstState" .u32 fTab := Lib.tabIs_of_head (rest := [("ledger/digest.roundConstants", Rows.laid_ledger_digest_roundConstants)]) gF gFt Tryz.underlying177 Tryz.underlying34 cellsU cellsA8 h
  refine glob_of hF ?_
  obtain ⟨ps, ⟨g1, t1, cs1, f1, p1, q1, _, _, _, _, ⟨g2, t2, cs2, f2, p2, q2, hg2, ht2, hv2, hd2, _, _⟩, _⟩, _⟩ := h
  obtain rfl := Option.some.inj (gK.symm.trans hg2)
  obtain rfl := Option.some.inj (gKt.symm.trans ht2)
  unfold Lib.TabIs
  rw [hv2, ← Lib.cells_of_tab (zs := kTab) Tryz.underlying198 Tryz.underlying34 cellsU cellsA64 hd2]
def putTab (zs : List Int) : Obj → Obj
  | .cells _ t frozen => .cells (ints .u32 zs).toArray t frozen
  | o => o
/-- A world for the witness: the settled one, the two tables holding what their text lays. -/
noncomputable def laidWorld (os : Os) : World :=
  { World.holding Tryz.prog os ⟨#[], #[], []⟩ with heap := ((World.holding Tryz.prog os ⟨#[], #[], []⟩).heap.modify 0 (putTab fTab)).modify 1 (putTab kTab) }
theorem cellsD : Tryz.prog.cellsOf 47 = 32 := by kernel_rfl
/-- No slice in it is beyond the reach. -/
def WS {H : Type} (t : TypeId) (d : DataW H) : Prop := ∀ n ∈ d.weights Tryz.prog t, n ≤ reachBytes
theorem weightsAll_mem {H : Type} {P : Program} {e : TypeId} : ∀ {l : List (DataW H)} {d : DataW H}, d ∈ l → ∀ n ∈ d.weights P e, n ∈ DataW.weightsAll P e l
  | x :: l, d, hd, n, hn => by
    simp only [DataW.weightsAll, List.mem_append]
    rcases List.mem_cons.1 hd with rfl | h
    · exact Or.inl hn
    · exact Or.inr (weightsAll_mem h n hn)
theorem WS.slice {H : Type} {t e : TypeId} {el sp : List (DataW H)} (hu : Tryz.prog.underlying t = some (.slice e)) (h : WS t (.slice el sp)) : (el.length + sp.length) * Tryz.prog.bytesOf e ≤ reachBytes ∧ ∀ d ∈ el, WS e d :=
  ⟨h _ (by simp [DataW.weights, hu]), fun d hd n hn => h n (by
    simp only [DataW.weights, hu, List.mem_cons, List.mem_append]
    exact Or.inr (Or.inl (weightsAll_mem hd n hn)))⟩
theorem WS.field {H : Type} {t : TypeId} {fs : Array Field} {ds : List (DataW H)} (hu : Tryz.prog.underlying t = some (.struct fs)) (h : WS t (.agg ds)) {j : Nat} {f : Field} {d : DataW H} (hf : fs[j]? = some f) (hd : ds[j]? = some d) : WS f.type d :=
  fun n hn => h n (by
    simp only [DataW.weights, hu]
    exact DataW.weights_mem_each (by rw [List.getElem?_map]; simp [hf]) hd n hn)
section
variable {H : Type} {enc : TypeId × Value → H} {W : World}
theorem open_dig {fuel : Nat} {cs : List Value} {x : DataW H × List MemPlace} (h : DataW.trod enc Tryz.prog W 0 (fun _ => true) true fuel 47 cs = some x) : ∃ k : List Int, cs = ints .u8 k ∧ k.length = 32 ∧ Bys k := by
  cases fuel with
  | zero => simp [DataW.trod] at h
  | succ n =>
    rw [DataW.trod_step] at h
    unfold DataW.trodStep at h
    simp only [Tryz.underlying47, cellsD, cells5] at h
    split at h
    · rename_i hl
      obtain ⟨xs, hm, _⟩ := Option.map_eq_some_iff.1 h
      have each : ∀ i, i < 32 → ∃ z, cs[i]? = some (.int .u8 z) ∧ 0 ≤ z ∧ z < 256 := fun i hi => by
        have := mapM_some_get hm i i (by simp [hi])
        have hxl := mapM_some_length hm
        simp at hxl
        rw [List.getElem?_eq_getElem (by omega)] at this
        obtain ⟨z, hz, _, hw⟩ := DataW.trod_int Tryz.underlying5 this
        have hb := bounds_u8 hw
        refine ⟨z, ?_, by omega, by omega⟩
        have e : ((cs.drop (i * 1)).take 1)[0]? = cs[i]? := by simp
        rw [← e, hz]; rfl
      refine ⟨cs.map intOf, ?_, by simp [hl], ?_⟩
      · apply List.ext_getElem?
        intro i
        by_cases hi : i < 32
        · obtain ⟨z, hz, _⟩ := each i hi
          simp [ints, hz, intOf]
        · rw [List.getElem?_eq_none (by omega), List.getElem?_eq_none (by simp [ints]; omega)]
      · intro y hy
        obtain ⟨v, hv, rfl⟩ := List.mem_map.1 hy
        obtain ⟨i, hi, rfl⟩ := List.mem_iff_getElem.1 hv
        obtain ⟨z, hz, h1, h2⟩ := each i (by omega)
        rw [List.getElem?_eq_getElem hi] at hz
        rw [Option.some.inj hz]; exact ⟨h1, h2⟩
    · cases h
end
theorem cut_at (l : List Value) (n m : Nat) : l.drop n = (l.drop n).take m ++ l.drop (n + m) := by
  have := (List.take_append_drop m (l.drop n)).symm
  rwa [List.drop_drop] at this
set_option maxRecDepth 100000 in
theorem open_irow {H : Type} {enc : TypeId × Value → H} {W : World} {fuel : Nat} {nd : List Value} {x : DataW H × List MemPlace} (hnl : nd.length = 34) (g8 : DataW.trod enc Tryz.prog W 0 (fun _ => true) true fuel 61 nd = some x) :
    ∃ (r : IR), nd = irC r ∧ IROk r := by
  obtain ⟨ys, kn, _, hxy, _, hyl, hfn⟩ := DataW.trod_struct (x := x) Tryz.underlying61 g8
  have hyl' : ys.length = 3 := hyl
  have n0 : DataW.trod enc Tryz.prog W 0 (fun _ => true) true kn 3 ((nd.drop 0).take 1) = some ys[0] := by
    have := hfn 0 _ rfl
    rw [List.getElem?_eq_getElem (by omega)] at this
    change DataW.trod enc Tryz.prog W 0 (fun _ => true) true kn 3 ((nd.drop 0).take (Tryz.prog.cellsOf 3)) = _ at this
    rw [show Tryz.prog.cellsOf 3 = 1 by kernel_rfl] at this; exact this
  have n1 : DataW.trod enc Tryz.prog W 0 (fun _ => true) true kn 3 ((nd.drop 1).take 1) = some ys[1] := by
    have := hfn 1 _ rfl
    rw [List.getElem?_eq_getElem (by omega)] at this
    change DataW.trod enc Tryz.prog W 0 (fun _ => true) true kn 3 ((nd.drop 1).take (Tryz.prog.cellsOf 3)) = _ at this
    rw [show Tryz.prog.cellsOf 3 = 1 by kernel_rfl] at this; exact this
  have n2 : DataW.trod enc Tryz.prog W 0 (fun _ => true) true kn 47 ((nd.drop 2).take 32) = some ys[2] := by
    have := hfn 2 _ rfl
    rw [List.getElem?_eq_getElem (by omega)] at this
    change DataW.trod enc Tryz.prog W 0 (fun _ => true) true kn 47 ((nd.drop 2).take (Tryz.prog.cellsOf 47)) = _ at this
    rw [show Tryz.prog.cellsOf 47 = 32 by kernel_rfl] at this; exact this
  obtain ⟨y0, f0, _⟩ := DataW.trod_int (k := .i64) (by kernel_rfl) n0
  obtain ⟨y1, f1, _⟩ := DataW.trod_int (k := .i64) (by kernel_rfl) n1
  obtain ⟨u2, f2, l2, b2⟩ := open_dig n2
  have hne : nd = [.int .i64 y0] ++ ([.int .i64 y1] ++ (ints .u8 u2 ++ nd.drop 34)) := by
    rw [← f0, ← f1, ← f2, ← cut_at nd 2 32, ← cut_at nd 1 1, ← cut_at nd 0 1]; rfl
  rw [List.drop_of_length_le (by omega : nd.length ≤ 34), List.append_nil] at hne
  exact ⟨⟨y0, y1, u2⟩, hne, ⟨l2, b2⟩⟩
theorem cellsIr : Tryz.prog.cellsOf 61 = 34 := by kernel_rfl
theorem bytesIr : Tryz.prog.bytesOf 61 = 48 := by kernel_rfl
/-- What a slice of rows that came in reads as. -/
theorem open_irows {H : Type} {enc : TypeId × Value → H} {W : World} {fuel : Nat} {v : Value} {d : DataW H} {p : List MemPlace} (hw : WS 22 d) (hf : DataW.trod enc Tryz.prog W 0 (fun _ => true) true fuel 22 [v] = some (d, p)) :
    ∃ (xs : List IR) (sp : Option Addr) (cap : Nat), v = .slice sp xs.length cap ∧ SrcR W.heap.size W sp xs ∧ (∀ x ∈ xs, IROk x) ∧ xs.length ≤ 140737488351232 := by
  rcases Deep.open_slice Tryz.underlying22 hf with ⟨hcs, hx⟩ | ⟨a, len, cap, m, n, D, Pl, hcs, _, hl, hm, hmm, hx, hrow⟩
  · simp at hcs
    subst hcs
    exact ⟨[], none, 0, rfl, ⟨0, 0, fun h => by simp at h, fun h => by simp at h, fun i hi => by simp at hi⟩, fun c hc => by simp at hc, by simp⟩
  · simp at hcs
    subst hcs
    simp only [Prod.mk.injEq] at hx
    obtain ⟨rfl, _⟩ := hx
    simp only [if_true] at hmm
    subst hmm
    obtain ⟨w1, w2⟩ := hw.slice Tryz.underlying22
    rw [bytesIr] at w1
    simp [reachBytes] at w1
    have each : ∀ i, i < len → ∃ q : IR, (∀ j u, (irC q)[j]? = some u → W.cell? (a.add (i * 34 + j)) = some u) ∧ IROk q := by
      intro i hi
      obtain ⟨cs', h1, h2⟩ := hrow i (by omega)
      rw [cellsIr] at h1
      obtain ⟨_, hlen, hcell⟩ := World.cells?_some h1
      obtain ⟨q, hq, ok⟩ := open_irow (by omega) h2
      refine ⟨q, fun j u hu => ?_, ok⟩
      rw [← hq] at hu
      have hj := (List.getElem?_eq_some_iff.1 hu).1
      have := hcell j (by omega)
      rw [Deep.add_add] at this
      rw [this, hu]
    haveI : Inhabited IR := ⟨dIR⟩
    obtain ⟨q, hq⟩ := Deep.choose_lt (α := IR) each
    have gm : ∀ i, i < len → ((List.range len).map q).getD i dIR = q i := fun i hi => by simp [hi]
    have hlen : ((List.range len).map q).length = len := by simp
    have okc : ∀ c ∈ (List.range len).map q, IROk c := fun c hc => by
      obtain ⟨i, hi, rfl⟩ := List.mem_map.1 hc
      exact (hq i (List.mem_range.1 hi)).2
    refine ⟨(List.range len).map q, some a, _, by rw [hlen], ?_, okc, by rw [hlen]; omega⟩
    by_cases hz : 0 < len
    · have c0 := (hq 0 hz).1 0 (.int .i64 (q 0).root) rfl
      have hsp : a.spot = none := by
        have := World.cell?_spot c0
        unfold Addr.add at this; split at this <;> simp_all
      obtain ⟨b, o, spot⟩ := a
      obtain rfl : spot = none := hsp
      rw [Addr.add_mid] at c0
      refine ⟨b, o, fun _ => block_lt_of_cell c0, fun _ => rfl, fun j hj i v hv => ?_⟩
      rw [hlen] at hj
      rw [gm j hj] at hv
      have := (hq j hj).1 i v hv
      rw [Addr.add_mid] at this
      rw [← this]; congr 1; simp [Nat.add_assoc]
    · exact ⟨0, 0, fun h => by omega, fun h => by omega, fun j hj => by omega⟩
theorem cellsAk : Tryz.prog.cellsOf 45 = 2 := by kernel_rfl
theorem bytesAk : Tryz.prog.bytesOf 45 = 16 := by kernel_rfl
set_option maxRecDepth 100000 in
theorem open_ask {H : Type} {enc : TypeId × Value → H} {W : World} {fuel : Nat} {nd : List Value} {x : DataW H × List MemPlace} (hnl : nd.length = 2) (g8 : DataW.trod enc Tryz.prog W 0 (fun _ => true) true fuel 45 nd = some x) :
    ∃ (r : Ak), nd = akC r ∧ AkOk r := by
  obtain ⟨ys, kn, _, hxy, _, hyl, hfn⟩ := DataW.trod_struct (x := x) Tryz.underlying45 g8
  have hyl' : ys.length = 2 := hyl
  have n0 : DataW.trod enc Tryz.prog W 0 (fun _ => true) true kn 3 ((nd.drop 0).take 1) = some ys[0] := by
    have := hfn 0 _ rfl
    rw [List.getElem?_eq_getElem (by omega)] at this
    change DataW.trod enc Tryz.prog W 0 (fun _ => true) true kn 3 ((nd.drop 0).take (Tryz.prog.cellsOf 3)) = _ at this
    rw [show Tryz.prog.cellsOf 3 = 1 by kernel_rfl] at this; exact this
  have n1 : DataW.trod enc Tryz.prog W 0 (fun _ => true) true kn 3 ((nd.drop 1).take 1) = some ys[1] := by
    have := hfn 1 _ rfl
    rw [List.getElem?_eq_getElem (by omega)] at this
    change DataW.trod enc Tryz.prog W 0 (fun _ => true) true kn 3 ((nd.drop 1).take (Tryz.prog.cellsOf 3)) = _ at this
    rw [show Tryz.prog.cellsOf 3 = 1 by kernel_rfl] at this; exact this
  obtain ⟨y0, f0, _, w0⟩ := DataW.trod_int (k := .i64) (by kernel_rfl) n0
  obtain ⟨y1, f1, _, w1⟩ := DataW.trod_int (k := .i64) (by kernel_rfl) n1
  have hne : nd = [.int .i64 y0] ++ ([.int .i64 y1] ++ nd.drop 2) := by
    rw [← f0, ← f1, ← cut_at nd 1 1, ← cut_at nd 0 1]; rfl
  rw [List.drop_of_length_le (by omega : nd.length ≤ 2), List.append_nil] at hne
  have e0 := bounds_i64 w0
  have e1 := bounds_i64 w1
  exact ⟨⟨y0, y1⟩, hne, ⟨e0, e1⟩⟩
/-- What a slice of asks that came in reads as. -/
theorem open_asks {H : Type} {enc : TypeId × Value → H} {W : World} {fuel : Nat} {v : Value} {d : DataW H} {p : List MemPlace} (hw : WS 23 d) (hf : DataW.trod enc Tryz.prog W 0 (fun _ => true) true fuel 23 [v] = some (d, p)) :
    ∃ (xs : List Ak) (sp : Option Addr) (cap : Nat), v = .slice sp xs.length cap ∧ SrcA W.heap.size W sp xs ∧ (∀ x ∈ xs, AkOk x) ∧ xs.length ≤ 140737488351232 := by
  rcases Deep.open_slice Tryz.underlying23 hf with ⟨hcs, hx⟩ | ⟨a, len, cap, m, n, D, Pl, hcs, _, hl, hm, hmm, hx, hrow⟩
  · simp at hcs
    subst hcs
    exact ⟨[], none, 0, rfl, ⟨0, 0, fun h => by simp at h, fun h => by simp at h, fun i hi => by simp at hi⟩, fun c hc => by simp at hc, by simp⟩
  · simp at hcs
    subst hcs
    simp only [Prod.mk.injEq] at hx
    obtain ⟨rfl, _⟩ := hx
    simp only [if_true] at hmm
    subst hmm
    obtain ⟨w1, w2⟩ := hw.slice Tryz.underlying23
    rw [bytesAk] at w1
    simp [reachBytes] at w1
    have each : ∀ i, i < len → ∃ q   : Ak, (∀ j u, (akC q)[j]? = some u → W.cell? (a.add (i * 2 + j)) = some u) ∧ AkOk q := by
      intro i hi
      obtain ⟨cs', h1, h2⟩ := hrow i (by omega)
      rw [cellsAk] at h1
      obtain ⟨_, hlen, hcell⟩ := World.cells?_some h1
      obtain ⟨q, hq, ok⟩ := open_ask (by omega) h2
      refine ⟨q, fun j u hu => ?_, ok⟩
      rw [← hq] at hu
      have hj := (List.getElem?_eq_some_iff.1 hu).1
      have := hcell j (by omega)
      rw [Deep.add_add] at this
      rw [this, hu]
    haveI : Inhabited Ak := ⟨dAk⟩
    obtain ⟨q, hq⟩ := Deep.choose_lt (α := Ak) each
    have gm : ∀ i, i < len → ((List.range len).map q).getD i dAk = q i := fun i hi => by simp [hi]
    have hlen : ((List.range len).map q).length = len := by simp
    have okc : ∀ c ∈ (List.range len).map q, AkOk c := fun c hc => by
      obtain ⟨i, hi, rfl⟩ := List.mem_map.1 hc
      exact (hq i (List.mem_range.1 hi)).2
    refine ⟨(List.range len).map q, some a, _, by rw [hlen], ?_, okc, by rw [hlen]; omega⟩
    by_cases hz : 0 < len
    · have c0 := (hq 0 hz).1 0 (.int .i64 (q 0).h) rfl
      have hsp : a.spot = none := by
        have := World.cell?_spot c0
        unfold Addr.add at this; split at this <;> simp_all
      obtain ⟨b, o, spot⟩ := a
      obtain rfl : spot = none := hsp
      rw [Addr.add_mid] at c0
      refine ⟨b, o, fun _ => block_lt_of_cell c0, fun _ => rfl, fun j hj i v hv => ?_⟩
      rw [hlen] at hj
      rw [gm j hj] at hv
      have := (hq j hj).1 i v hv
      rw [Addr.add_mid] at this
      rw [← this]; congr 1; simp [Nat.add_assoc]
    · exact ⟨0, 0, fun h => by omega, fun h => by omega, fun j hj => by omega⟩

set_option maxRecDepth 100000 in
theorem indexHolds_contract (H : Type) (enc : TypeId × Value → H) (W : World) (base : Nat) (args : Array Value) (ds gs : List (DataW H)) (before : List MemPlace)
    (hval : ∀ (j : Nat) t v, Tryz.f3.params[j]? = some t → args[j]? = some v → Value.okWide Tryz.prog W .any base t v)
    (hW : DataW.Whole enc Tryz.prog Tryz.f3.params.toList Rows.indexHoldsSpec.vars false W args.toList ds gs before) (hL : laidMetH Tryz.prog Rows.indexHoldsRow.laid W)
    (hsz : (DataW.weightsEach Tryz.prog (Tryz.f3.params.toList ++ Rows.indexHoldsSpec.plain.varTypes Tryz.prog) (ds ++ gs)).all (· ≤ reachBytes) = true) :
    Calls Tryz.prog 3 args W fun e W' => ∃ v, e = .returned v ∧ Rows.indexHoldsSpec.post enc Tryz.prog Tryz.f3 false true false false W args v W' := by
  have hW' := hW
  obtain ⟨p, q, hA0, hV, rfl, hfz, hnd⟩ := hW
  have hA : DataW.TrodAll enc Tryz.prog W 0 (fun _ => true) true Tryz.f3.params.toList args.toList ds p := hA0
  rw [Tryz.params3] at hA hval hsz
  obtain ⟨v0, vs0, d0, ds0, p0, q0, hargs, rfl, rfl, h0, r0⟩ := trodAll_cons hA
  obtain ⟨v1, vs1, d1, ds1, p1, q1, rfl, rfl, rfl, h1, r1⟩ := trodAll_cons r0
  obtain ⟨v2, vs2, d2, ds2, p2, q2, rfl, rfl, rfl, h2, r2⟩ := trodAll_cons r1
  obtain ⟨v3, vs3, d3, ds3, p3, q3, rfl, rfl, rfl, h3, r3⟩ := trodAll_cons r2
  obtain ⟨v4, vs4, d4, ds4, p4, q4, rfl, rfl, rfl, h4, r4⟩ := trodAll_cons r3
  obtain ⟨v5, vs5, d5, ds5, p5, q5, rfl, rfl, rfl, h5, r5⟩ := trodAll_cons r4
  obtain ⟨rfl, rfl, rfl⟩ := trodAll_nil r5
  obtain rfl : args = #[v0, v1, v2, v3, v4, v5] := by cases args; simp_all
  obtain ⟨rfl, rfl⟩ := trodVars_none hV
  have hG : Glob W := tab2 hL
  obtain ⟨a0, rfl, rfl, rfl, w0⟩ := open_int Tryz.underlying3 (hval 0 3 v0 rfl rfl) h0
  obtain ⟨a1, rfl, rfl, rfl, w1⟩ := open_int Tryz.underlying3 (hval 1 3 v1 rfl rfl) h1
  obtain ⟨a2, rfl, rfl, rfl, w2⟩ := open_int Tryz.underlying3 (hval 2 3 v2 rfl rfl) h2
  obtain ⟨a3, rfl, rfl, rfl, w3⟩ := open_int Tryz.underlying3 (hval 3 3 v3 rfl rfl) h3
  have k4 := h4
  have lt4 : ∀ x ∈ p4, x.block < W.heap.size := by obtain ⟨m, hm⟩ := k4; exact DataW.trod_lt m _ _ _ hm
  have ws4 : WS 22 d4 := fun n hn => by
    have := List.all_eq_true.1 hsz n (DataW.weights_mem_each (j := 4) rfl rfl n hn)
    simpa using this
  obtain ⟨a4x, len4x, cap4x, rfl⟩ := okWide_slice Tryz.underlying22 (hval 4 22 v4 rfl rfl)
  obtain ⟨fuel4, hf4⟩ := h4
  change DataW.trod enc Tryz.prog W 0 (fun _ => true) true fuel4 22 [Value.slice a4x len4x cap4x] = some (d4, p4) at hf4
  obtain ⟨vv4, hvv4⟩ : ∃ vv, vv = Value.slice a4x len4x cap4x := ⟨_, rfl⟩
  rw [← hvv4] at hf4 k4 hval hA0 hW' ⊢
  clear hvv4
  obtain ⟨xs4, sp4, cap4, rfl, hS4, ok4, hl4⟩ := open_irows ws4 hf4
  have k5 := h5
  have lt5 : ∀ x ∈ p5, x.block < W.heap.size := by obtain ⟨m, hm⟩ := k5; exact DataW.trod_lt m _ _ _ hm
  have ws5 : WS 23 d5 := fun n hn => by
    have := List.all_eq_true.1 hsz n (DataW.weights_mem_each (j := 5) rfl rfl n hn)
    simpa using this
  obtain ⟨a5x, len5x, cap5x, rfl⟩ := okWide_slice Tryz.underlying23 (hval 5 23 v5 rfl rfl)
  obtain ⟨fuel5, hf5⟩ := h5
  change DataW.trod enc Tryz.prog W 0 (fun _ => true) true fuel5 23 [Value.slice a5x len5x cap5x] = some (d5, p5) at hf5
  obtain ⟨vv5, hvv5⟩ : ∃ vv, vv = Value.slice a5x len5x cap5x := ⟨_, rfl⟩
  rw [← hvv5] at hf5 k5 hval hA0 hW' ⊢
  clear hvv5
  obtain ⟨xs5, sp5, cap5, rfl, hS5, ok5, hl5⟩ := open_asks ws5 hf5
  clear hA0
  refine (holds_any W hG a0 a1 a2 a3 xs4 ok4 sp4 cap4 hS4 hl4 sp5 cap5 xs5 hS5 ok5 hl5).mono fun e W' ⟨he, bel⟩ => ?_
  subst he
  exact ⟨_, rfl, _, _, _, [], _, [], hW', trodAll_mk1 (shut_bool Tryz.underlying4 _), (trodAll_cons_mk (shut_int Tryz.underlying3 w0) (trodAll_cons_mk (shut_int Tryz.underlying3 w1) (trodAll_cons_mk (shut_int Tryz.underlying3 w2) (trodAll_cons_mk (shut_int Tryz.underlying3 w3) (trodAll_cons_mk (Below.trod Tryz.laidOut (by kernel_rfl) (of_decide_eq_true (by kernel_rfl)) k4 bel lt4) (trodAll_cons_mk (Below.trod Tryz.laidOut (by kernel_rfl) (of_decide_eq_true (by kernel_rfl)) k5 bel lt5) trodAll_mk0)))))), rfl, bel.frame _, fun h => by cases h⟩

theorem indexHolds_laid (os : Os) : laidMet Tryz.prog Rows.indexHoldsRow.laid ((laidWorld os).forCall (fun _ _ => 0) ⟨#[], #[.int .i64 0, .int .i64 0, .int .i64 0, .int .i64 0, .slice none 0 0, .slice none 0 0], []⟩).memory :=
  laidMet_of_run' 8 (by kernel_rfl) (by kernel_rfl)
def indexHolds_xs {H : Type} : List (DataW H) := [.lit (.int .i64 0), .lit (.int .i64 0), .lit (.int .i64 0), .lit (.int .i64 0), .nil, .nil]
theorem indexHolds_reads (os : Os) {H : Type} (enc : TypeId × Value → H) : ∃ places, DataW.whole enc Tryz.prog ((laidWorld os).forCall (fun _ _ => 0) ⟨#[], #[.int .i64 0, .int .i64 0, .int .i64 0, .int .i64 0, .slice none 0 0, .slice none 0 0], []⟩).memory Tryz.f3.params.toList Rows.indexHoldsSpec.vars false (#[.int .i64 0, .int .i64 0, .int .i64 0, .int .i64 0, .slice none 0 0, .slice none 0 0] : Array Value).toList 8 = some (indexHolds_xs, [], places) :=
  ⟨[], by kernel_rfl⟩
set_option maxRecDepth 100000 in
theorem indexHolds_lifted (os : Os) (started : os.Started) (H : Type) (enc : TypeId × Value → H) (F : Stop.Interp) :
    ReturnsInHanded {} Tryz.checked os 3 .any ((OpenSpec.ofChange Rows.indexHoldsSpec).preRow enc Tryz.prog Tryz.f3 Rows.indexHoldsRow.domain false Rows.indexHoldsRow.laid) (((OpenSpec.ofChange Rows.indexHoldsSpec).at F).post enc Tryz.prog Tryz.f3 false true false false) := by
  obtain ⟨places, hx⟩ := indexHolds_reads os enc
  refine returnsInHanded_of_row (C := Tryz.checked) (s := OpenSpec.ofChange Rows.indexHoldsSpec) own_knob started (by kernel_rfl) Tryz.func3
    (witness_row_at (enc := enc) (C := Tryz.checked) false (laidWorld os) #[.int .i64 0, .int .i64 0, .int .i64 0, .int .i64 0, .slice none 0 0, .slice none 0 0] rfl (by kernel_rfl) (by kernel_rfl) (by kernel_rfl)
      (OpenSpec.preRow_of_cond 8 hx (by kernel_rfl) (fun k hk => by cases hk) (by kernel_rfl) (indexHolds_laid os))) ?_
  intro W base args ds gs before hval hW _ _ hsz hL _ _
  exact indexHolds_contract H enc W base args ds gs before hval hW hL hsz

theorem indexHolds_said : Rows.IndexHoldsSaid :=
  OpenClaim.holds_of_cond 3 Tryz.f3 rfl rfl rfl rfl rfl rfl rfl ⟨rfl, rfl, rfl, rfl, rfl⟩ rfl rfl rfl rfl rfl (by kernel_rfl) Tryz.func3 (by kernel_rfl)
    (of_decide_eq_true (by kernel_rfl)) (by unfold Func.isWrapper; first | (rw [if_pos (by decide +kernel)]; kernel_rfl) | (rw [if_neg (by decide +kernel)]; exact ⟨rfl, rfl⟩))
    (fun os started H enc _ F => by rw [OpenClaim.pre_eq_preRow]; exact indexHolds_lifted os started H enc F)

theorem indexHolds_plain (f : FuncId) (fn : Func) (hf : Tryz.pinned.checked.prog.funcNamed "ledger/ledgerlaw15.IndexHolds" = some f) (hfn : Tryz.pinned.checked.prog.funcs[f]? = some fn) :
    false = Tryz.pinned.checked.prog.looks [] ∧ ∀ (j : Nat) t, fn.params[j]? = some t → Tryz.pinned.checked.prog.wantsStandIn t = false := by
  obtain rfl : f = 3 := Option.some.inj ((show Tryz.prog.funcNamed "ledger/ledgerlaw15.IndexHolds" = some 3 by kernel_rfl).symm.trans hf) |>.symm
  obtain rfl : fn = Tryz.f3 := (Option.some.inj (Tryz.func3.symm.trans hfn)).symm
  refine ⟨by kernel_rfl, fun j t ht => ?_⟩
  rw [Tryz.params3] at ht
  have hm := Array.mem_of_getElem? ht
  have hall : ([3, 3, 3, 3, 22, 23] : List Nat).all (fun t => !(Tryz.prog.wantsStandIn t)) = true := by kernel_rfl
  have hq := List.all_eq_true.1 hall t (by simpa using hm)
  show Tryz.prog.wantsStandIn t = false
  simpa using hq

theorem indexHolds_card : Rows.IndexHoldsCardSaid :=
  Claim7.holds_tied_plain_at .later [] _ _ _ _ indexHolds_said (fun _ h => by cases h) (by kernel_rfl) (fun _ h => by cases h) indexHolds_row_tie rfl ⟨rfl, rfl⟩ (by kernel_rfl) rfl indexHolds_plain (by kernel_rfl)
#print axioms indexHolds_card
end Go.Proofs.YtbnghhgeoodphaaGreatDoor
