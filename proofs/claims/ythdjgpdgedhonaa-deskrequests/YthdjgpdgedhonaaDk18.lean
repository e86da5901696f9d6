import Derived.Test.YthdjgpdgedhonaaDk13
import Derived.Test.YthdjgpdgedhonaaDk17
namespace Go.Proofs.Ythdjgpdgedhonaa
set_option linter.unusedVariables false
set_option linter.unusedSimpArgs false
open Go.ChangeShapes Go.WideShapes Go.ChangeAt Go.RowKit

set_option maxRecDepth 100000 in
theorem open_request {H : Type} {enc : TypeId × Value → H} {W : World} {fuel : Nat} {nd : List Value} {x : DataW H × List MemPlace} (hd : WS 24 x.1) (hnl : nd.length = 7) (g8 : DataW.trod enc Try.prog W 0 (fun _ => true) true fuel 24 nd = some x) :
    ∃ (q : Rq) (ks hs bs : Option Addr) (kc hc bc : Nat), nd = rqV q ks hs bs kc hc bc ∧ RqB q ∧ RqY q ∧ RqIn W q ks hs bs kc hc bc ∧ q.key.length ≤ 140737488351232 ∧ q.high.length ≤ 140737488351232 ∧ q.batch.length ≤ 140737488351232 := by
  obtain ⟨ys, kn, _, hxy, _, hyl, hfn⟩ := DataW.trod_struct (x := x) Try.underlying24 g8
  have hyl' : ys.length = 7 := hyl
  rw [hxy] at hd
  have n0 : DataW.trod enc Try.prog W 0 (fun _ => true) true kn 3 ((nd.drop 0).take 1) = some ys[0] := by
    have := hfn 0 _ rfl
    rw [List.getElem?_eq_getElem (by omega)] at this
    change DataW.trod enc Try.prog W 0 (fun _ => true) true kn 3 ((nd.drop 0).take (Try.prog.cellsOf 3)) = _ at this
    rw [show Try.prog.cellsOf 3 = 1 by kernel_rfl] at this; exact this
  have n1 : DataW.trod enc Try.prog W 0 (fun _ => true) true kn 3 ((nd.drop 1).take 1) = some ys[1] := by
    have := hfn 1 _ rfl
    rw [List.getElem?_eq_getElem (by omega)] at this
    change DataW.trod enc Try.prog W 0 (fun _ => true) true kn 3 ((nd.drop 1).take (Try.prog.cellsOf 3)) = _ at this
    rw [show Try.prog.cellsOf 3 = 1 by kernel_rfl] at this; exact this
  have n2 : DataW.trod enc Try.prog W 0 (fun _ => true) true kn 3 ((nd.drop 2).take 1) = some ys[2] := by
    have := hfn 2 _ rfl
    rw [List.getElem?_eq_getElem (by omega)] at this
    change DataW.trod enc Try.prog W 0 (fun _ => true) true kn 3 ((nd.drop 2).take (Try.prog.cellsOf 3)) = _ at this
    rw [show Try.prog.cellsOf 3 = 1 by kernel_rfl] at this; exact this
  have n3 : DataW.trod enc Try.prog W 0 (fun _ => true) true kn 3 ((nd.drop 3).take 1) = some ys[3] := by
    have := hfn 3 _ rfl
    rw [List.getElem?_eq_getElem (by omega)] at this
    change DataW.trod enc Try.prog W 0 (fun _ => true) true kn 3 ((nd.drop 3).take (Try.prog.cellsOf 3)) = _ at this
    rw [show Try.prog.cellsOf 3 = 1 by kernel_rfl] at this; exact this
  have n4 : DataW.trod enc Try.prog W 0 (fun _ => true) true kn 22 ((nd.drop 4).take 1) = some ys[4] := by
    have := hfn 4 _ rfl
    rw [List.getElem?_eq_getElem (by omega)] at this
    change DataW.trod enc Try.prog W 0 (fun _ => true) true kn 22 ((nd.drop 4).take (Try.prog.cellsOf 22)) = _ at this
    rw [show Try.prog.cellsOf 22 = 1 by kernel_rfl] at this; exact this
  have n5 : DataW.trod enc Try.prog W 0 (fun _ => true) true kn 22 ((nd.drop 5).take 1) = some ys[5] := by
    have := hfn 5 _ rfl
    rw [List.getElem?_eq_getElem (by omega)] at this
    change DataW.trod enc Try.prog W 0 (fun _ => true) true kn 22 ((nd.drop 5).take (Try.prog.cellsOf 22)) = _ at this
    rw [show Try.prog.cellsOf 22 = 1 by kernel_rfl] at this; exact this
  have n6 : DataW.trod enc Try.prog W 0 (fun _ => true) true kn 22 ((nd.drop 6).take 1) = some ys[6] := by
    have := hfn 6 _ rfl
    rw [List.getElem?_eq_getElem (by omega)] at this
    change DataW.trod enc Try.prog W 0 (fun _ => true) true kn 22 ((nd.drop 6).take (Try.prog.cellsOf 22)) = _ at this
    rw [show Try.prog.cellsOf 22 = 1 by kernel_rfl] at this; exact this
  obtain ⟨y0, f0, _, w0⟩ := DataW.trod_int Try.underlying3 n0
  obtain ⟨y1, f1, _, w1⟩ := DataW.trod_int Try.underlying3 n1
  obtain ⟨y2, f2, _, w2⟩ := DataW.trod_int Try.underlying3 n2
  obtain ⟨y3, f3, _, w3⟩ := DataW.trod_int Try.underlying3 n3
  obtain ⟨sn4, f4⟩ := trod_one (enc := enc) (W := W) (l := nd) (n := 4) (by omega)
  rw [f4] at n4
  have hws4 : WS 22 (ys[4]).1 := hd.field Try.underlying24 (j := 4) rfl (by rw [List.getElem?_map, List.getElem?_eq_getElem (by omega)]; rfl)
  obtain ⟨z4, sp4, cap4, e4, yv4, hS4, hnil4, hvl4⟩ := open_bytesN (d := (ys[4]).1) (p := (ys[4]).2) hws4 n4
  subst e4
  obtain ⟨sn5, f5⟩ := trod_one (enc := enc) (W := W) (l := nd) (n := 5) (by omega)
  rw [f5] at n5
  have hws5 : WS 22 (ys[5]).1 := hd.field Try.underlying24 (j := 5) rfl (by rw [List.getElem?_map, List.getElem?_eq_getElem (by omega)]; rfl)
  obtain ⟨z5, sp5, cap5, e5, yv5, hS5, hnil5, hvl5⟩ := open_bytesN (d := (ys[5]).1) (p := (ys[5]).2) hws5 n5
  subst e5
  obtain ⟨sn6, f6⟩ := trod_one (enc := enc) (W := W) (l := nd) (n := 6) (by omega)
  rw [f6] at n6
  have hws6 : WS 22 (ys[6]).1 := hd.field Try.underlying24 (j := 6) rfl (by rw [List.getElem?_map, List.getElem?_eq_getElem (by omega)]; rfl)
  obtain ⟨z6, sp6, cap6, e6, yv6, hS6, hnil6, hvl6⟩ := open_bytesN (d := (ys[6]).1) (p := (ys[6]).2) hws6 n6
  subst e6
  have hne : nd = [.int .i64 y0] ++ ([.int .i64 y1] ++ ([.int .i64 y2] ++ ([.int .i64 y3] ++ ([.slice sp4 z4.length cap4] ++ ([.slice sp5 z5.length cap5] ++ ([.slice sp6 z6.length cap6] ++ nd.drop 7)))))) := by
    rw [← f0, ← f1, ← f2, ← f3, ← f4, ← f5, ← f6, ← cut_at nd 6 1, ← cut_at nd 5 1, ← cut_at nd 4 1, ← cut_at nd 3 1, ← cut_at nd 2 1, ← cut_at nd 1 1, ← cut_at nd 0 1]; rfl
  rw [List.drop_of_length_le (by omega : nd.length ≤ 7), List.append_nil] at hne
  have b0 := bounds_i64 w0
  have b1 := bounds_i64 w1
  have b2 := bounds_i64 w2
  have b3 := bounds_i64 w3
  exact ⟨⟨y0, y1, y2, y3, z4, z5, z6⟩, sp4, sp5, sp6, cap4, cap5, cap6, hne, ⟨b0, b1, b2, b3⟩, ⟨yv4, yv5, yv6⟩, ⟨hS4, hS5, hS6, hnil4, hnil5, hnil6⟩, hvl4, hvl5, hvl6⟩
set_option maxRecDepth 100000 in
theorem open_requestV {H : Type} {enc : TypeId × Value → H} {W : World} {v : Value} {d : DataW H} {p : List MemPlace} {b0 : Nat}
    (hw : WS 24 d) (hv : Value.okWide Try.prog W .any b0 24 v) (h : DataW.Trod enc Try.prog W 0 (fun _ => true) true 24 v d p) : ∃ (q : Rq) (ks hs bs : Option Addr) (kc hc bc : Nat), v = .agg (rqV q ks hs bs kc hc bc).toArray ∧ RqB q ∧ RqY q ∧ RqIn W q ks hs bs kc hc bc ∧ q.key.length ≤ 140737488351232 ∧ q.high.length ≤ 140737488351232 ∧ q.batch.length ≤ 140737488351232 := by
  obtain ⟨cs, rfl, hsz, _⟩ : ∃ cs, v = .agg cs ∧ cs.size = Try.prog.cellsOf 24 ∧ Row.okWide Try.prog W .any b0 24 cs := by
    simpa [Value.okWide, Try.underlying24] using hv
  obtain ⟨fuel, hf⟩ := h
  rw [show Try.prog.cellsOf 24 = 7 by kernel_rfl] at hsz
  obtain ⟨q, ks, hs, bs, kc, hc, bc, h1, h2⟩ := open_request (x := (d, p)) hw (nd := cs.toList) (by simpa using hsz) hf
  exact ⟨q, ks, hs, bs, kc, hc, bc, by rw [← h1], h2⟩

set_option maxRecDepth 100000 in
theorem deskRequests_contract (H : Type) (enc : TypeId × Value → H) (W : World) (base : Nat) (args : Array Value) (ds gs : List (DataW H)) (before : List MemPlace)
    (hval : ∀ (j : Nat) t v, Try.f4.params[j]? = some t → args[j]? = some v → Value.okWide Try.prog W .any base t v)
    (hW : DataW.Whole enc Try.prog Try.f4.params.toList Rows.deskRequestsSpec.vars false W args.toList ds gs before)
    (hsz : (DataW.weightsEach Try.prog (Try.f4.params.toList ++ Rows.deskRequestsSpec.plain.varTypes Try.prog) (ds ++ gs)).all (· ≤ reachBytes) = true) :
    Calls Try.prog 4 args W fun e W' => ∃ v, e = .returned v ∧ Rows.deskRequestsSpec.post enc Try.prog Try.f4 false true false false W args v W' := by
  have hW' := hW
  obtain ⟨p, q, hA0, hV, rfl, hfz, hnd⟩ := hW
  have hA : DataW.TrodAll enc Try.prog W 0 (fun _ => true) true Try.f4.params.toList args.toList ds p := hA0
  rw [Try.params4] at hA hval hsz
  obtain ⟨v0, vs0, d0, ds0, p0, q0, hargs, rfl, rfl, h0, r0⟩ := trodAll_cons hA
  obtain ⟨rfl, rfl, rfl⟩ := trodAll_nil r0
  obtain rfl : args = #[v0] := by cases args; simp_all
  obtain ⟨rfl, rfl⟩ := trodVars_none hV
  have k0 := h0
  have lt0 : ∀ x ∈ p0, x.block < W.heap.size := by obtain ⟨m, hm⟩ := k0; exact DataW.trod_lt m _ _ _ hm
  have ws0 : WS 24 d0 := fun n hn => by
    have := List.all_eq_true.1 hsz n (DataW.weights_mem_each (j := 0) rfl rfl n hn)
    simpa using this
  obtain ⟨q0, ks0, hs0, bs0, kc0, hc0, bc0, rfl, B0, Y0, I0, la0, lb0, lc0⟩ := open_requestV ws0 (hval 0 24 v0 rfl rfl) h0
  clear hA0
  refine (deskRequests_any W q0 B0 Y0 ks0 hs0 bs0 kc0 hc0 bc0 I0 la0 lb0 lc0).mono fun e W' ⟨he, bel⟩ => ?_
  subst he
  exact ⟨_, rfl, _, _, _, [], _, [], hW', trodAll_mk1 (shut_bool Try.underlying4 _), (trodAll_cons_mk (Below.trod Try.laidOut (by kernel_rfl) (of_decide_eq_true (by kernel_rfl)) k0 bel lt0) trodAll_mk0), rfl, bel.frame _, fun h => by cases h⟩

def deskRequests_xs {H : Type} : List (DataW H) := [.agg [.lit (.int .i64 0), .lit (.int .i64 0), .lit (.int .i64 0), .lit (.int .i64 0), .nil, .nil, .nil]]
theorem deskRequests_reads (os : Os) {H : Type} (enc : TypeId × Value → H) : ∃ places, DataW.whole enc Try.prog ((World.holding Try.prog os ⟨#[], #[], []⟩).forCall (fun _ _ => 0) ⟨#[], #[.agg (rqV rq0 none none none 0 0 0).toArray], []⟩).memory Try.f4.params.toList Rows.deskRequestsSpec.vars false (#[.agg (rqV rq0 none none none 0 0 0).toArray] : Array Value).toList 8 = some (deskRequests_xs, [], places) :=
  ⟨[], by kernel_rfl⟩
set_option maxRecDepth 100000 in
theorem deskRequests_lifted (os : Os) (started : os.Started) (H : Type) (enc : TypeId × Value → H) (F : Stop.Interp) :
    ReturnsInHanded {} Try.checked os 4 .any ((OpenSpec.ofChange Rows.deskRequestsSpec).preRow enc Try.prog Try.f4 Rows.deskRequestsRow.domain false Rows.deskRequestsRow.laid) (((OpenSpec.ofChange Rows.deskRequestsSpec).at F).post enc Try.prog Try.f4 false true false false) := by
  obtain ⟨places, hx⟩ := deskRequests_reads os enc
  refine returnsInHanded_of_row (C := Try.checked) (s := OpenSpec.ofChange Rows.deskRequestsSpec) own_knob started (by kernel_rfl) Try.func4
    (witness_row_at (enc := enc) (C := Try.checked) false (World.holding Try.prog os ⟨#[], #[], []⟩) #[.agg (rqV rq0 none none none 0 0 0).toArray] rfl (by kernel_rfl) (by kernel_rfl) (by kernel_rfl)
      (OpenSpec.preRow_of_cond 8 hx (by kernel_rfl) (fun k hk => by cases hk) (by kernel_rfl) (laidMet_of_run' 8 (by kernel_rfl) (by kernel_rfl)))) ?_
  intro W base args ds gs before hval hW _ _ hsz hL _ _
  exact deskRequests_contract H enc W base args ds gs before hval hW hsz

theorem deskRequests_said : Rows.DeskRequestsSaid :=
  OpenClaim.holds_of_cond 4 Try.f4 rfl rfl rfl rfl rfl rfl rfl ⟨rfl, rfl, rfl, rfl, rfl⟩ rfl rfl rfl rfl rfl (by kernel_rfl) Try.func4 (by kernel_rfl)
    (of_decide_eq_true (by kernel_rfl)) (by unfold Func.isWrapper; first | (rw [if_pos (by decide +kernel)]; kernel_rfl) | (rw [if_neg (by decide +kernel)]; exact ⟨rfl, rfl⟩))
    (fun os started H enc _ F => by rw [OpenClaim.pre_eq_preRow]; exact deskRequests_lifted os started H enc F)

#print axioms deskRequests_said
end Go.Proofs.Ythdjgpdgedhonaa
