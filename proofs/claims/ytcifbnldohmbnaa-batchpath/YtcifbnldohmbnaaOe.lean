import Derived.Test.YtcifbnldohmbnaaOa
import Derived.Test.YtcifbnldohmbnaaCg
import Derived.WalkKit
import Derived.ProofKit
import Derived.OpenShut
import Derived.SizedLaws
import Derived.Deep.DeepHandedRow
import Derived.Lib.LaidTab
namespace Go.Proofs.Ytcifbnldohmbnaa
set_option linter.unusedVariables false
set_option linter.unusedSimpArgs false
open Go.ChangeShapes Go.WideShapes Go.ChangeAt Go.RowKit
section
variable {H : Type} {enc : TypeId × Value → H} {W : World}
theorem open_keys {fuel : Nat} {v : Value} {d : DataW H} {p : List MemPlace} (hw : WS 22 d) (hf : DataW.trod enc Try.prog W 0 (fun _ => true) true fuel 22 [v] = some (d, p)) :
    ∃ (ks : List (List Int)) (sp : Option Addr) (cap : Nat), v = .slice sp ks.length cap ∧ Kys W sp ks ∧ (∀ k ∈ ks, k.length = 32 ∧ Byts k) ∧ ks.length ≤ 140737488355000 := by
  rcases Deep.open_slice Try.underlying22 hf with ⟨hcs, hx⟩ | ⟨a, len, cap, m, n, D, Pl, hcs, _, hl, hm, hmm, hx, hrow⟩
  · simp at hcs
    subst hcs
    exact ⟨[], none, 0, rfl, ⟨0, 0, fun h => by simp at h, fun i hi => by simp at hi⟩, fun k hk => by simp at hk, by simp⟩
  · simp at hcs
    subst hcs
    simp only [Prod.mk.injEq] at hx
    obtain ⟨rfl, _⟩ := hx
    simp only [if_true] at hmm
    subst hmm
    obtain ⟨w1, w2⟩ := hw.slice Try.underlying22
    rw [show Try.prog.bytesOf 24 = 32 by kernel_rfl] at w1
    simp [reachBytes] at w1
    have each : ∀ i, i < len → ∃ q : List Int, (∀ j u, (ints .u8 q)[j]? = some u → W.cell? (a.add (i * 32 + j)) = some u) ∧ q.length = 32 ∧ Byts q := by
      intro i hi
      obtain ⟨cs', h1, h2⟩ := hrow i (by omega)
      rw [cellsK] at h1
      obtain ⟨_, hlen, hcell⟩ := World.cells?_some h1
      obtain ⟨k, rfl, lk, yk⟩ := open_key h2
      refine ⟨k, fun j u hu => ?_, lk, yk⟩
      have hj := (List.getElem?_eq_some_iff.1 hu).1
      have := hcell j (by omega)
      rw [Deep.add_add] at this
      rw [this, hu]
    obtain ⟨q, hq⟩ := Deep.choose_lt (α := List Int) each
    have gm : ∀ i, i < len → ((List.range len).map q).getD i [] = q i := fun i hi => by simp [hi]
    have hlen : ((List.range len).map q).length = len := by simp
    have okc : ∀ k ∈ (List.range len).map q, k.length = 32 ∧ Byts k := fun c hc => by
      obtain ⟨i, hi, rfl⟩ := List.mem_map.1 hc
      exact (hq i (List.mem_range.1 hi)).2
    by_cases hz : 0 < len
    · have c0 := (hq 0 hz).1 0 ((ints .u8 (q 0))[0]'(by rw [ints_len, (hq 0 hz).2.1]; omega)) (List.getElem?_eq_getElem _)
      have hsp : a.spot = none := by
        have := World.cell?_spot c0
        unfold Addr.add at this; split at this <;> simp_all
      obtain ⟨b, o, spot⟩ := a
      obtain rfl : spot = none := hsp
      have hblk : b < W.heap.size := by
        have := block_lt_of_cell c0; rwa [Addr.add_mid] at this
      refine ⟨(List.range len).map q, some ⟨b, o, none⟩, m, by rw [hlen], ⟨b, o, fun _ => ⟨hblk, rfl⟩, fun i hi j u hu => ?_⟩, okc, by rw [hlen]; omega⟩
      rw [hlen] at hi
      rw [gm i hi] at hu
      have := (hq i hi).1 j u hu
      rw [Addr.add_mid, ← Nat.add_assoc] at this
      exact this
    · exact ⟨(List.range len).map q, some a, m, by rw [hlen], ⟨0, 0, fun h => by rw [hlen] at h; omega, fun i hi => by rw [hlen] at hi; omega⟩, okc, by rw [hlen]; omega⟩
end

set_option maxRecDepth 100000 in
theorem batchPath_contract (H : Type) (enc : TypeId × Value → H) (W : World) (base : Nat) (args : Array Value) (ds gs : List (DataW H)) (before : List MemPlace)
    (hval : ∀ (j : Nat) t v, Try.f3.params[j]? = some t → args[j]? = some v → Value.okWide Try.prog W .any base t v)
    (hW : DataW.Whole enc Try.prog Try.f3.params.toList Rows.batchPathSpec.vars false W args.toList ds gs before)
    (hsz : (DataW.weightsEach Try.prog (Try.f3.params.toList ++ Rows.batchPathSpec.plain.varTypes Try.prog) (ds ++ gs)).all (· ≤ reachBytes) = true) :
    Calls Try.prog 3 args W fun e W' => ∃ v, e = .returned v ∧ Rows.batchPathSpec.post enc Try.prog Try.f3 false true false false W args v W' := by
  have hW' := hW
  obtain ⟨p, q, hA0, hV, rfl, hfz, hnd⟩ := hW
  have hA : DataW.TrodAll enc Try.prog W 0 (fun _ => true) true Try.f3.params.toList args.toList ds p := hA0
  rw [Try.params3] at hA hval hsz
  obtain ⟨v0, vs0, d0, ds0, p0, q0, hargs, rfl, rfl, h0, r0⟩ := trodAll_cons hA
  obtain ⟨rfl, rfl, rfl⟩ := trodAll_nil r0
  obtain rfl : args = #[v0] := by cases args; simp_all
  obtain ⟨rfl, rfl⟩ := trodVars_none hV
  have k0 := h0
  have lt0 : ∀ x ∈ p0, x.block < W.heap.size := by obtain ⟨m, hm⟩ := k0; exact DataW.trod_lt m _ _ _ hm
  have ws0 : WS 22 d0 := fun n hn => by
    have := List.all_eq_true.1 hsz n (DataW.weights_mem_each (j := 0) rfl rfl n hn)
    simpa using this
  obtain ⟨a0x, len0x, cap0x, rfl⟩ := okWide_slice Try.underlying22 (hval 0 22 v0 rfl rfl)
  obtain ⟨fuel0, hf0⟩ := h0
  change DataW.trod enc Try.prog W 0 (fun _ => true) true fuel0 22 [Value.slice a0x len0x cap0x] = some (d0, p0) at hf0
  obtain ⟨vv0, hvv0⟩ : ∃ vv, vv = Value.slice a0x len0x cap0x := ⟨_, rfl⟩
  rw [← hvv0] at hf0 k0 hval hA0 hW' ⊢
  clear hvv0
  obtain ⟨ks0, sp0, cap0, rfl, hS0, ok0, hlen0⟩ := open_keys ws0 hf0
  clear hA0
  refine (path_any W ks0 sp0 cap0 hS0 ok0 hlen0).mono fun e W' ⟨he, bel⟩ => ?_
  subst he
  exact ⟨_, rfl, _, _, _, [], _, [], hW', trodAll_mk1 (shut_bool Try.underlying4 _), (trodAll_cons_mk (Below.trod Try.laidOut (by kernel_rfl) (of_decide_eq_true (by kernel_rfl)) k0 bel lt0) trodAll_mk0), rfl, bel.frame _, fun h => by cases h⟩

theorem batchPath_reads (os : Os) {H : Type} (enc : TypeId × Value → H) : ∃ places, DataW.whole enc Try.prog ((World.holding Try.prog os ⟨#[], #[], []⟩).forCall (fun _ _ => 0) ⟨#[], #[.slice none 0 0], []⟩).memory Try.f3.params.toList Rows.batchPathSpec.vars false (#[.slice none 0 0] : Array Value).toList 8 = some ([.nil], [], places) :=
  ⟨[], by kernel_rfl⟩
set_option maxRecDepth 100000 in
theorem batchPath_lifted (os : Os) (started : os.Started) (H : Type) (enc : TypeId × Value → H) (F : Stop.Interp) :
    ReturnsInHanded {} Try.checked os 3 .any ((OpenSpec.ofChange Rows.batchPathSpec).preRow enc Try.prog Try.f3 Rows.batchPathRow.domain false Rows.batchPathRow.laid) (((OpenSpec.ofChange Rows.batchPathSpec).at F).post enc Try.prog Try.f3 false true false false) := by
  obtain ⟨places, hx⟩ := batchPath_reads os enc
  refine returnsInHanded_of_row (C := Try.checked) (s := OpenSpec.ofChange Rows.batchPathSpec) own_knob started (by kernel_rfl) Try.func3
    (witness_row_at (enc := enc) (C := Try.checked) false (World.holding Try.prog os ⟨#[], #[], []⟩) #[.slice none 0 0] rfl (by kernel_rfl) (by kernel_rfl) (by kernel_rfl)
      (OpenSpec.preRow_of_cond 8 hx (by kernel_rfl) (fun k hk => by cases hk) (by kernel_rfl) (laidMet_of_run' 8 (by kernel_rfl) (by kernel_rfl)))) ?_
  intro W base args ds gs before hval hW _ _ hsz hL _ _
  exact batchPath_contract H enc W base args ds gs before hval hW hsz

theorem batchPath_holds : Rows.BatchPathSaid :=
  OpenClaim.holds_of_cond 3 Try.f3 rfl rfl rfl rfl rfl rfl rfl ⟨rfl, rfl, rfl, rfl, rfl⟩ rfl rfl rfl rfl rfl (by kernel_rfl) Try.func3 (by kernel_rfl)
    (of_decide_eq_true (by kernel_rfl)) (by unfold Func.isWrapper; first | (rw [if_pos (by decide +kernel)]; kernel_rfl) | (rw [if_neg (by decide +kernel)]; exact ⟨rfl, rfl⟩))
    (fun os started H enc _ F => by rw [OpenClaim.pre_eq_preRow]; exact batchPath_lifted os started H enc F)
#print axioms batchPath_holds
end Go.Proofs.Ytcifbnldohmbnaa
