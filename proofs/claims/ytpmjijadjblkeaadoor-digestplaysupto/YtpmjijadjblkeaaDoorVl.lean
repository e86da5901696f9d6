import Derived.Test.YtpmjijadjblkeaaDoorVk
import Derived.Test.YtpmjijadjblkeaaDoorVh
import Derived.Test.YtpmjijadjblkeaaDoorVi
import Derived.Test.YtpmjijadjblkeaaDoorUd
namespace Go.Proofs.YtpmjijadjblkeaaDoor
set_option linter.unusedVariables false
set_option linter.unusedSimpArgs false
open Go.ChangeShapes Go.WideShapes Go.ChangeAt Go.RowKit

theorem PlayPost.mono {w w' : World} {base R B B' : Nat} {e : Ending} (h : B ≤ B') (q : PlayPost w base R B e w') : PlayPost w base R B' e w' := by
  obtain ⟨q0, hv, tv, held, gs, TV, ms, q1, q2, q3, q4, q5, q6, q7⟩ := q
  exact ⟨q0, hv, tv, held, gs, TV, ms, q1, q2, q3, q4, q5, q6, fun i hi => Nat.le_trans (q7 i hi) h⟩
theorem plays_ok : PlaysOk := by
  intro w base R hv tv held gs TV ms h hG hR hb4 hp hn hh0 hh B hB hB2 kind H ps zs pc HZ hpn hzl H1 H2
  have hB3 : B ≤ 100000000 := by omega
  by_cases k1 : kind = 1
  · exact (plays_new w base R hv tv held gs TV ms h hG hR hb4 hp hn hh0 hh B hB hB3 kind H ps zs pc k1 H1 H2).mono fun e w' q => q.mono (Nat.le_add_right _ _)
  by_cases k2 : kind = 2
  · by_cases hz : zs.length % 3 = 1
    · exact plays_write1 w base R hv tv held gs TV ms h hG hR hb4 hp hn hh0 hh B hB hB3 kind H ps zs pc k2 H1 H2 HZ hpn hzl hz
    · exact plays_write w base R hv tv held gs TV ms h hG hR hb4 hp hn hh0 hh B hB hB3 kind H ps zs pc k2 H1 H2 HZ hpn hzl hz
  by_cases k3 : kind = 3
  · exact (plays_sum w base R hv tv held gs TV ms h hG hR hb4 hp hn hh0 hh B hB hB3 kind H ps zs pc k3 H1 H2).mono fun e w' q => q.mono (Nat.le_add_right _ _)
  by_cases k4 : kind = 4
  · exact (plays_fork w base R hv tv held gs TV ms h hG hR hb4 hp hn hh0 hh B hB hB3 kind H ps zs pc k4 H1 H2).mono fun e w' q => q.mono (Nat.le_add_right _ _)
  by_cases k5 : kind = 5
  · exact (plays_reset w base R hv tv held gs TV ms h hG hR hb4 hp hn hh0 hh B hB hB3 kind H ps zs pc k5 H1 H2).mono fun e w' q => q.mono (Nat.le_add_right _ _)
  · exact (plays_other w base R hv tv held gs TV ms h hG hR hb4 hp hn hh0 hh B hB hB3 kind H ps zs pc ⟨k1, k2, k3, k4, k5⟩ H1 H2).mono fun e w' q => q.mono (Nat.le_add_right _ _)
theorem playsU_contract (H : Type) (enc : TypeId × Value → H) (W : World) (base : Nat) (args : Array Value) (ds gs : List (DataW H)) (before : List MemPlace)
    (hval : ∀ (j : Nat) t v, Tryd.f7.params[j]? = some t → args[j]? = some v → Value.okWide Tryd.prog W .any base t v)
    (hW : DataW.Whole enc Tryd.prog Tryd.f7.params.toList Rows.digestPlaysSpec.vars false W args.toList ds gs before) (hL : laidMetH Tryd.prog Rows.digestPlaysUptoRow.laid W)
    (hbk : Rows.uptoBulkAll (ds ++ gs) ≤ 1048576) :
    Calls Tryd.prog 7 args W fun e W' => ∃ v, e = .returned v ∧ Rows.digestPlaysSpec.post enc Tryd.prog Tryd.f7 false true false false W args v W' := by
  have hW' := hW
  obtain ⟨p, q, hA0, hV, rfl, hfz, hnd⟩ := hW
  have hA : DataW.TrodAll enc Tryd.prog W 0 (fun _ => true) true Tryd.f7.params.toList args.toList ds p := hA0
  rw [Tryd.params7] at hA hval
  obtain ⟨v0, vs0, d0, ds0, p0, q0, hargs, rfl, rfl, h0, r0⟩ := trodAll_cons hA
  obtain ⟨rfl, rfl, rfl⟩ := trodAll_nil r0
  obtain rfl : args = #[v0] := by cases args; simp_all
  obtain ⟨rfl, rfl⟩ := trodVars_none hV
  obtain ⟨hG, hR⟩ := tab4 hL
  have hpos : 0 < W.heap.size := by have := hG.1; omega
  have k0 := h0
  have lt0 : ∀ x ∈ p0, x.block < W.heap.size := by obtain ⟨m, hm⟩ := k0; exact DataW.trod_lt m _ _ _ hm
  obtain ⟨a0x, len0x, cap0x, rfl⟩ := okWide_slice Tryd.underlying39 (hval 0 39 v0 rfl rfl)
  obtain ⟨fuel0, hf0⟩ := h0
  change DataW.trod enc Tryd.prog W 0 (fun _ => true) true fuel0 39 [Value.slice a0x len0x cap0x] = some (d0, p0) at hf0
  obtain ⟨vv0, hvv0⟩ : ∃ vv, vv = Value.slice a0x len0x cap0x := ⟨_, rfl⟩
  rw [← hvv0] at hf0 k0 hval hA0 hW' ⊢
  clear hvv0
  obtain ⟨ss, sp, cap, b, o, mm, rfl, hS, hbl⟩ := open_steps hpos hf0
  clear hA0
  simp only [List.cons_append, List.nil_append, Rows.uptoBulkAll] at hbk
  refine (plays_walk plays_ok W hG hR ss sp cap b o mm hS (by omega) (by omega)).mono fun e W' ⟨he, bel⟩ => ?_
  subst he
  exact ⟨_, rfl, _, _, _, [], _, [], hW', trodAll_mk1 (shut_bool Tryd.underlying4 _), (trodAll_cons_mk (Below.trod Tryd.laidOut (by kernel_rfl) (of_decide_eq_true (by kernel_rfl)) k0 bel lt0) trodAll_mk0), rfl, bel.frame _, fun h => by cases h⟩

theorem playsU_laid (os : Os) : laidMet Tryd.prog Rows.digestPlaysUptoRow.laid ((laidWorld4 os).forCall (fun _ _ => 0) ⟨#[], #[.slice none 0 0], []⟩).memory :=
  laidMet_of_run' 8 (by kernel_rfl) (by kernel_rfl)
theorem playsU_reads (os : Os) {H : Type} (enc : TypeId × Value → H) : ∃ places, DataW.whole enc Tryd.prog ((laidWorld4 os).forCall (fun _ _ => 0) ⟨#[], #[.slice none 0 0], []⟩).memory Tryd.f7.params.toList Rows.digestPlaysSpec.vars false #[Value.slice none 0 0].toList 8 = some ([.nil], [], places) :=
  ⟨[], by kernel_rfl⟩

set_option maxRecDepth 100000 in
theorem playsU_lifted (os : Os) (started : os.Started) (H : Type) (enc : TypeId × Value → H) (F : Stop.Interp) :
    ReturnsInHanded {} Tryd.checked os 7 .any ((Rows.OpenSpec.upto Rows.digestPlaysSpec).preRow enc Tryd.prog Tryd.f7 Rows.digestPlaysUptoRow.domain false Rows.digestPlaysUptoRow.laid) (((Rows.OpenSpec.upto Rows.digestPlaysSpec).at F).post enc Tryd.prog Tryd.f7 false true false false) := by
  obtain ⟨places, hx⟩ := playsU_reads os enc
  refine returnsInHanded_of_row (C := Tryd.checked) (s := Rows.OpenSpec.upto Rows.digestPlaysSpec) Tryd.own started (by kernel_rfl) Tryd.func7
    (witness_row_at (enc := enc) (C := Tryd.checked) false (laidWorld4 os) #[.slice none 0 0] rfl (by kernel_rfl) (by kernel_rfl) (by kernel_rfl)
      (OpenSpec.preRow_of_cond 8 hx (by kernel_rfl) (fun k hk => by cases hk; kernel_rfl) (by kernel_rfl) (playsU_laid os))) ?_
  intro W base args ds gs before hval hW _ hcond _ hL _ _
  exact playsU_contract H enc W base args ds gs before hval hW hL (bulk_bound (hcond _ rfl))

theorem playsU_said : Rows.DigestPlaysUptoSaid :=
  OpenClaim.holds_of_cond 7 Tryd.f7 rfl rfl rfl rfl rfl rfl rfl ⟨rfl, rfl, rfl, rfl, rfl⟩ rfl rfl rfl rfl rfl (by kernel_rfl) Tryd.func7 (by kernel_rfl)
    (of_decide_eq_true (by kernel_rfl)) (by unfold Func.isWrapper; first | (rw [if_pos (by decide +kernel)]; kernel_rfl) | (rw [if_neg (by decide +kernel)]; exact ⟨rfl, rfl⟩))
    (fun os started H enc _ F => by rw [OpenClaim.pre_eq_preRow]; exact playsU_lifted os started H enc F)

theorem playsU_plain (f : FuncId) (fn : Func) (hf : Tryd.pinned.checked.prog.funcNamed "ledger/ledgerlaw1.DigestPlays" = some f) (hfn : Tryd.pinned.checked.prog.funcs[f]? = some fn) :
    false = Tryd.pinned.checked.prog.looks [] ∧ ∀ (j : Nat) t, fn.params[j]? = some t → Tryd.pinned.checked.prog.wantsStandIn t = false := by
  obtain rfl : f = 7 := Option.some.inj ((show Tryd.prog.funcNamed "ledger/ledgerlaw1.DigestPlays" = some 7 by kernel_rfl).symm.trans hf) |>.symm
  obtain rfl : fn = Tryd.f7 := (Option.some.inj (Tryd.func7.symm.trans hfn)).symm
  refine ⟨by kernel_rfl, fun j t ht => ?_⟩
  rw [Tryd.params7] at ht
  have hm := Array.mem_of_getElem? ht
  simp at hm
  subst hm
  exact (show Tryd.prog.wantsStandIn 39 = false by kernel_rfl)

theorem digestPlays_card : Rows.DigestPlaysUptoCardSaid :=
  Claim7.holds_tied_plain_at .later [] _ _ _ _ playsU_said (fun _ h => by cases h) (by kernel_rfl) (fun _ h => by cases h) digestPlaysUpto_row_tie rfl ⟨rfl, rfl⟩ (by kernel_rfl) rfl playsU_plain (by kernel_rfl)
#print axioms digestPlays_card
end Go.Proofs.YtpmjijadjblkeaaDoor
