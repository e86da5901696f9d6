import Derived.Test.YtibpffoencjlcaaVh9
import Derived.Test.YtibpffoencjlcaaWd9
namespace Go.Proofs.Ytibpffoencjlcaa
set_option linter.unusedVariables false
set_option linter.unusedSimpArgs false
open Go.ChangeShapes Go.WideShapes Go.ChangeAt Go.RowKit

def zeroA {H : Type} : DataW H := .agg [.lit (.int .u8 0), .lit (.int .u8 0), .lit (.int .u8 0), .lit (.int .u8 0), .lit (.int .u8 0), .lit (.int .u8 0), .lit (.int .u8 0), .lit (.int .u8 0), .lit (.int .u8 0), .lit (.int .u8 0), .lit (.int .u8 0), .lit (.int .u8 0), .lit (.int .u8 0), .lit (.int .u8 0), .lit (.int .u8 0), .lit (.int .u8 0), .lit (.int .u8 0), .lit (.int .u8 0), .lit (.int .u8 0), .lit (.int .u8 0), .lit (.int .u8 0), .lit (.int .u8 0), .lit (.int .u8 0), .lit (.int .u8 0), .lit (.int .u8 0), .lit (.int .u8 0), .lit (.int .u8 0), .lit (.int .u8 0), .lit (.int .u8 0), .lit (.int .u8 0), .lit (.int .u8 0), .lit (.int .u8 0)]
set_option maxRecDepth 100000 in
set_option maxHeartbeats 400000 in
theorem apart_few (w : World) (k : Int) (ks ls : List Int) (vu vv : Value) (sp : Option Addr) (na ca : Nat) (h : na < 4) :
    Calls Try.prog 3 #[.int .i64 k, .agg (ints .u8 ks).toArray, .agg (ints .u8 ls).toArray, vu, vv, .slice sp na ca] w fun e w' => e = .returned (.bool true) ∧ Below w.heap.size w w' := by
  have i4 : (na : Int) < 4 := by omega
  have d0 := ((DR.nil w).alloc ks 23).alloc ls 23
  go_enter Try.func3, Try.ntmps3
  go_wp2
  go_ret
  exact ⟨rfl, d0.1⟩
theorem nodeApart_any (w : World) (k : Int) (ks ls us vs : List Int) (hk : ks.length = 32) (hl : ls.length = 32) (spu spv : Option Addr) (cau cav : Nat) (hU : Src w spu cau us) (hV : Src w spv cav vs) (hnu : spu = none → cau = 0) (hnv : spv = none → cav = 0) (hlu : us.length ≤ 140737488351232) (hlv : vs.length ≤ 140737488351232)
    (ds : List (List Int)) (sp : Option Addr) (cap : Nat) (ok : ∀ k ∈ ds, k.length = 32 ∧ Byts k) (hlen : ds.length ≤ 140737488355000) (hm : cap ≤ maxLen) (hR : 0 < ds.length → ∃ b o, b < w.heap.size ∧ sp = some ⟨b, o, none⟩ ∧ ∀ i, i < ds.length → w.rangeAt b (o + i * 32) (ints .u8 (ds.getD i []))) :
    Calls Try.prog 3 #[.int .i64 k, .agg (ints .u8 ks).toArray, .agg (ints .u8 ls).toArray, .slice spu us.length cau, .slice spv vs.length cav, .slice sp ds.length cap] w fun e w' => e = .returned (.bool true) ∧ Below w.heap.size w w' := by
  by_cases h4 : ds.length < 4
  · exact apart_few w k ks ls _ _ sp ds.length cap h4
  · obtain ⟨b, o, hb, rfl, hr⟩ := hR (by omega)
    have len : ∀ i, i < ds.length → (ds.getD i []).length = 32 := fun i hi => by
      rw [List.getD_eq_getElem?_getD, List.getElem?_eq_getElem hi]; exact (ok _ (List.getElem_mem hi)).1
    have R0 := hr 0 (by omega)
    have R1 := hr 1 (by omega)
    have R2 := hr 2 (by omega)
    have R3 := hr 3 (by omega)
    rw [show o + 0 * 32 = o by omega] at R0
    rw [show o + 1 * 32 = o + 32 by omega] at R1
    rw [show o + 2 * 32 = o + 64 by omega] at R2
    rw [show o + 3 * 32 = o + 96 by omega] at R3
    unfold maxLen at hm
    by_cases hq : ks = ls <;> by_cases hc : cutZ (ds.getD 0 []) (kept k) = cutZ (ds.getD 2 []) (kept k)
    · exact apart_tt w k ks ls us vs _ _ _ _ hk hl spu spv cau cav hU hV hnu hnv hlu hlv b o ds.length cap hb (by omega) (by omega) (by omega) (len 0 (by omega)) (len 1 (by omega)) (len 2 (by omega)) (len 3 (by omega)) R0 R1 R2 R3 hq hc
    · exact apart_tf w k ks ls us vs _ _ _ _ hk hl spu spv cau cav hU hV hnu hnv hlu hlv b o ds.length cap hb (by omega) (by omega) (by omega) (len 0 (by omega)) (len 1 (by omega)) (len 2 (by omega)) (len 3 (by omega)) R0 R1 R2 R3 hq hc
    · exact apart_ft w k ks ls us vs _ _ _ _ hk hl spu spv cau cav hU hV hnu hnv hlu hlv b o ds.length cap hb (by omega) (by omega) (by omega) (len 0 (by omega)) (len 1 (by omega)) (len 2 (by omega)) (len 3 (by omega)) R0 R1 R2 R3 hq hc
    · exact apart_ff w k ks ls us vs _ _ _ _ hk hl spu spv cau cav hU hV hnu hnv hlu hlv b o ds.length cap hb (by omega) (by omega) (by omega) (len 0 (by omega)) (len 1 (by omega)) (len 2 (by omega)) (len 3 (by omega)) R0 R1 R2 R3 hq hc

theorem nodeApart_contract (H : Type) (enc : TypeId × Value → H) (W : World) (base : Nat) (args : Array Value) (ds gs : List (DataW H)) (before : List MemPlace)
    (hval : ∀ (j : Nat) t v, Try.f3.params[j]? = some t → args[j]? = some v → Value.okWide Try.prog W .any base t v)
    (hW : DataW.Whole enc Try.prog Try.f3.params.toList Rows.nodeApartSpec.vars false W args.toList ds gs before)
    (hsz : (DataW.weightsEach Try.prog (Try.f3.params.toList ++ Rows.nodeApartSpec.plain.varTypes Try.prog) (ds ++ gs)).all (· ≤ reachBytes) = true) :
    Calls Try.prog 3 args W fun e W' => ∃ v, e = .returned v ∧ Rows.nodeApartSpec.post enc Try.prog Try.f3 false true false false W args v W' := by
  have hW' := hW
  obtain ⟨p, q, hA0, hV, rfl, hfz, hnd⟩ := hW
  have hA : DataW.TrodAll enc Try.prog W 0 (fun _ => true) true Try.f3.params.toList args.toList ds p := hA0
  rw [Try.params3] at hA hval hsz
  obtain ⟨v0, vs0, d0, ds0, p0, q0, hargs, rfl, rfl, h0, r0⟩ := trodAll_cons hA
  obtain ⟨v1, vs1, d1, ds1, p1, q1, rfl, rfl, rfl, h1, r1⟩ := trodAll_cons r0
  obtain ⟨v2, vs2, d2, ds2, p2, q2, rfl, rfl, rfl, h2, r2⟩ := trodAll_cons r1
  obtain ⟨v3, vs3, d3, ds3, p3, q3, rfl, rfl, rfl, h3, r3⟩ := trodAll_cons r2
  obtain ⟨v4, vs4, d4, ds4, p4, q4, rfl, rfl, rfl, h4, r4⟩ := trodAll_cons r3
  obtain ⟨v5, vs5, d5, ds5, p5, q5, rfl, rfl, rfl, h5, r5⟩ := trodAll_cons r4
  obtain ⟨rfl, rfl, rfl⟩ := trodAll_nil r5
  obtain rfl : args = #[v0, v1, v2, v3, v4, v5] := by cases args; simp_all
  obtain ⟨rfl, rfl⟩ := trodVars_none hV
  obtain ⟨a0, rfl, rfl, rfl, w0⟩ := open_int Try.underlying3 (hval 0 3 v0 rfl rfl) h0
  have k1 := h1
  have lt1 : ∀ x ∈ p1, x.block < W.heap.size := by obtain ⟨m, hm⟩ := k1; exact DataW.trod_lt m _ _ _ hm
  obtain ⟨zs1, hl1, y1, rfl⟩ := open_path (hval 1 23 v1 rfl rfl) h1
  have k2 := h2
  have lt2 : ∀ x ∈ p2, x.block < W.heap.size := by obtain ⟨m, hm⟩ := k2; exact DataW.trod_lt m _ _ _ hm
  obtain ⟨zs2, hl2, y2, rfl⟩ := open_path (hval 2 23 v2 rfl rfl) h2
  have k3 := h3
  have lt3 : ∀ x ∈ p3, x.block < W.heap.size := by obtain ⟨m, hm⟩ := k3; exact DataW.trod_lt m _ _ _ hm
  obtain ⟨zs3, sp3, cap3, rfl, y3, hS3, hn3, hb3⟩ := open_bytesD (hval 3 24 v3 rfl rfl) h3
  have k4 := h4
  have lt4 : ∀ x ∈ p4, x.block < W.heap.size := by obtain ⟨m, hm⟩ := k4; exact DataW.trod_lt m _ _ _ hm
  obtain ⟨zs4, sp4, cap4, rfl, y4, hS4, hn4, hb4⟩ := open_bytesD (hval 4 24 v4 rfl rfl) h4
  have k5 := h5
  have lt5 : ∀ x ∈ p5, x.block < W.heap.size := by obtain ⟨m, hm⟩ := k5; exact DataW.trod_lt m _ _ _ hm
  have ws5 : WS 25 d5 := fun n hn => by
    have := List.all_eq_true.1 hsz n (DataW.weights_mem_each (j := 5) rfl rfl n hn)
    simpa using this
  obtain ⟨a5x, len5x, cap5x, rfl⟩ := okWide_slice Try.underlying25 (hval 5 25 v5 rfl rfl)
  obtain ⟨fuel5, hf5⟩ := h5
  change DataW.trod enc Try.prog W 0 (fun _ => true) true fuel5 25 [Value.slice a5x len5x cap5x] = some (d5, p5) at hf5
  obtain ⟨vv5, hvv5⟩ : ∃ vv, vv = Value.slice a5x len5x cap5x := ⟨_, rfl⟩
  rw [← hvv5] at hf5 k5 hval hA0 hW' ⊢
  clear hvv5
  obtain ⟨as5, sp5, cap5, rfl, ok5, hlen5, hm5, hR5⟩ := open_digs ws5 hf5
  clear hA0
  have hlen3 : zs3.length ≤ 140737488351232 := by
    rcases hb3 with h | ⟨el, spare, rfl, he⟩
    · omega
    · have := sized_slice hsz (j := 3) (t := 24) (e := 5) rfl rfl Try.underlying24
      rw [Try.bytes5] at this
      simp only [reachBytes] at this
      omega
  have hlen4 : zs4.length ≤ 140737488351232 := by
    rcases hb4 with h | ⟨el, spare, rfl, he⟩
    · omega
    · have := sized_slice hsz (j := 4) (t := 24) (e := 5) rfl rfl Try.underlying24
      rw [Try.bytes5] at this
      simp only [reachBytes] at this
      omega
  refine (nodeApart_any W a0 zs1 zs2 zs3 zs4 hl1 hl2 sp3 sp4 cap3 cap4 hS3 hS4 hn3 hn4 hlen3 hlen4 as5 sp5 cap5 ok5 hlen5 hm5 hR5).mono fun e W' ⟨he, bel⟩ => ?_
  subst he
  exact ⟨_, rfl, _, _, _, [], _, [], hW', trodAll_mk1 (shut_bool Try.underlying4 _), (trodAll_cons_mk (shut_int Try.underlying3 w0) (trodAll_cons_mk (Below.trod Try.laidOut (by kernel_rfl) (of_decide_eq_true (by kernel_rfl)) k1 bel lt1) (trodAll_cons_mk (Below.trod Try.laidOut (by kernel_rfl) (of_decide_eq_true (by kernel_rfl)) k2 bel lt2) (trodAll_cons_mk (Below.trod Try.laidOut (by kernel_rfl) (of_decide_eq_true (by kernel_rfl)) k3 bel lt3) (trodAll_cons_mk (Below.trod Try.laidOut (by kernel_rfl) (of_decide_eq_true (by kernel_rfl)) k4 bel lt4) (trodAll_cons_mk (Below.trod Try.laidOut (by kernel_rfl) (of_decide_eq_true (by kernel_rfl)) k5 bel lt5) trodAll_mk0)))))), rfl, bel.frame _, fun h => by cases h⟩

def nodeApart_xs {H : Type} : List (DataW H) := [.lit (.int .i64 0), zeroA, zeroA, .nil, .nil, .nil]
theorem nodeApart_reads (os : Os) {H : Type} (enc : TypeId × Value → H) : ∃ places, DataW.whole enc Try.prog ((World.holding Try.prog os ⟨#[], #[], []⟩).forCall (fun _ _ => 0) ⟨#[], #[.int .i64 0, .agg (ints .u8 z32).toArray, .agg (ints .u8 z32).toArray, .slice none 0 0, .slice none 0 0, .slice none 0 0], []⟩).memory Try.f3.params.toList Rows.nodeApartSpec.vars false (#[.int .i64 0, .agg (ints .u8 z32).toArray, .agg (ints .u8 z32).toArray, .slice none 0 0, .slice none 0 0, .slice none 0 0] : Array Value).toList 8 = some (nodeApart_xs, [], places) :=
  ⟨[], by kernel_rfl⟩
set_option maxRecDepth 100000 in
theorem nodeApart_lifted (os : Os) (started : os.Started) (H : Type) (enc : TypeId × Value → H) (F : Stop.Interp) :
    ReturnsInHanded {} Try.checked os 3 .any ((OpenSpec.ofChange Rows.nodeApartSpec).preRow enc Try.prog Try.f3 Rows.nodeApartRow.domain false Rows.nodeApartRow.laid) (((OpenSpec.ofChange Rows.nodeApartSpec).at F).post enc Try.prog Try.f3 false true false false) := by
  obtain ⟨places, hx⟩ := nodeApart_reads os enc
  refine returnsInHanded_of_row (C := Try.checked) (s := OpenSpec.ofChange Rows.nodeApartSpec) own_knob started (by kernel_rfl) Try.func3
    (witness_row_at (enc := enc) (C := Try.checked) false (World.holding Try.prog os ⟨#[], #[], []⟩) #[.int .i64 0, .agg (ints .u8 z32).toArray, .agg (ints .u8 z32).toArray, .slice none 0 0, .slice none 0 0, .slice none 0 0] rfl (by kernel_rfl) (by kernel_rfl) (by kernel_rfl)
      (OpenSpec.preRow_of_cond 8 hx (by kernel_rfl) (fun k hk => by cases hk) (by kernel_rfl) (laidMet_of_run' 8 (by kernel_rfl) (by kernel_rfl)))) ?_
  intro W base args ds gs before hval hW _ _ hsz hL _ _
  exact nodeApart_contract H enc W base args ds gs before hval hW hsz

theorem nodeApart_said : Rows.NodeApartSaid :=
  OpenClaim.holds_of_cond 3 Try.f3 rfl rfl rfl rfl rfl rfl rfl ⟨rfl, rfl, rfl, rfl, rfl⟩ rfl rfl rfl rfl rfl (by kernel_rfl) Try.func3 (by kernel_rfl)
    (of_decide_eq_true (by kernel_rfl)) (by unfold Func.isWrapper; first | (rw [if_pos (by decide +kernel)]; kernel_rfl) | (rw [if_neg (by decide +kernel)]; exact ⟨rfl, rfl⟩))
    (fun os started H enc _ F => by rw [OpenClaim.pre_eq_preRow]; exact nodeApart_lifted os started H enc F)

#print axioms nodeApart_said
end Go.Proofs.Ytibpffoencjlcaa
