import Derived.Test.YtbjahdbmkcamoaaDoorNr
namespace Go.Proofs.YtbjahdbmkcamoaaDoor
set_option linter.unusedVariables false
set_option linter.unusedSimpArgs false
open Go.RowKit
attribute [local go_sem ↓] Go.wp_at_zero Go.wp_at_succ

def pathE (k : Int) (t : List Int) : Int := if decE t = 0 then digE k (decV t) 256 else decE t
def fnP (k : Nat) : Nat := match k with | 0 => 22 | _ => 23
theorem ent_fnP (k : Nat) : ∀ (args : Array Value) (w : World), (callFunc (fnP k) args).run Tryd.prog w = .ok (.enter (fnP k) args) w := by
  match k with
  | 0 => exact ent_form
  | n + 1 => exact ent_digests
/-- What is known of a check ahead of its k-th step. -/
def IHp (w : World) (cb gF : Nat) (ge : Nat) (n : Nat) (root ks t : List Int) (sp : Option Addr) (cap : Nat) (k : Nat) (w1 : World) : Prop :=
  Below w.heap.size w w1 ∧ w.heap.size ≤ cb ∧ w1.heap[gF]? = some (.cells #[.func (.func 22) #[.pointer (some ⟨cb, 0, none⟩)] #[], .func (.func 23) #[.pointer (some ⟨cb, 0, none⟩)] #[]] 68 (0, 0)) ∧
  match k with
  | 0 => w1.heap[cb]? = some (.cells (ckC n root ks (.slice (some ⟨ge, 0, none⟩) 256 256) (.slice sp t.length cap) (pfC pf0 (.slice none 0 0) (.slice none 0 0)) (.slice none 0 0)).toArray 62 (0, 0))
  | 1 => decE t = 0 ∧ ∃ s1 c1 s2 c2, w1.heap[cb]? = some (.cells (ckC n root ks (.slice (some ⟨ge, 0, none⟩) 256 256) (.slice sp t.length cap) (pfC (decV t) (.slice s1 (decV t).vs.length c1) (.slice s2 (decV t).ss.length c2)) (.slice none 0 0)).toArray 62 (0, 0)) ∧ Own w1 w.heap.size (.slice s1 (decV t).vs.length c1) (decV t).vs ∧ OwnD w1 w.heap.size (.slice s2 (decV t).ss.length c2) (decV t).ss
  | _ => decE t = 0 ∧ digE n (decV t) 256 = 0 ∧ ∃ P : CkP, CkV w1 cb P n root ks (decV t) (nears n (decV t)) ∧ Own w1 w.heap.size (.slice P.s1 (decV t).vs.length P.c1) (decV t).vs
set_option maxRecDepth 100000 in
set_option maxHeartbeats 4000000 in
theorem paSt0 (w w1 : World) (cb gF ge n : Nat) (root ks t : List Int) (hr : root.length = 32) (hk : ks.length = 32) (sp : Option Addr) (cap : Nat) (hy : Bys t) (hS : Src w sp cap t) (h : IHp w cb gF ge n root ks t sp cap 0 w1) :
    Calls Tryd.prog 22 #[.pointer (some ⟨cb, 0, none⟩)] w1 fun e w2 => ∃ x, e = .returned (.int .i64 x) ∧ (x = 0 → IHp w cb gF ge n root ks t sp cap 1 w2) ∧ (x ≠ 0 → pathE n t = x ∧ Below w.heap.size w w2) := by
  obtain ⟨hB, hcb, hF, hc⟩ := h
  refine (form_any w1 cb n root ks t hr hk _ sp cap hy (hS.below hB (Nat.le_refl _)) hc).mono ?_
  rintro e w2 ⟨s1, c1, s2, c2, rfl, hc2, hO1, hO2, hK⟩
  have hne : gF ≠ cb := ne_tyC hF hc (by decide)
  have hB2 := hB.trans (hK.below_g hcb (Nat.le_trans (Nat.le_refl _) hB.size))
  refine ⟨_, rfl, fun e0 => ⟨hB2, hcb, hK.heap hF hne, e0, s1, c1, s2, c2, hc2, hO1.lower hB.size, own_lowerD hO2 hB.size⟩, fun e0 => ⟨?_, hB2⟩⟩
  unfold pathE
  rw [if_neg e0]
set_option maxRecDepth 100000 in
set_option maxHeartbeats 4000000 in
theorem paSt1 (w w1 : World) (cb gF ge n : Nat) (hn : n ≤ 32) (root ks t : List Int) (hr : root.length = 32) (hk : ks.length = 32) (hyk : Bys ks) (sp : Option Addr) (cap : Nat) (hy : Bys t) (he : w.heap[ge]? = some (.cells (ints .u8 (emps n 256).flatten).toArray 28 (0, 0))) (h : IHp w cb gF ge n root ks t sp cap 1 w1) :
    Calls Tryd.prog 23 #[.pointer (some ⟨cb, 0, none⟩)] w1 fun e w2 => ∃ x, e = .returned (.int .i64 x) ∧ (x = 0 → IHp w cb gF ge n root ks t sp cap 2 w2) ∧ (x ≠ 0 → pathE n t = x ∧ Below w.heap.size w w2) := by
  obtain ⟨hB, hcb, hF, e0, s1, c1, s2, c2, hc, hO1, hO2⟩ := h
  obtain ⟨ok, y, hw, _⟩ := dec_some hy (decE_some e0)
  have he1 := hbel hB he (hlt he)
  have hH : pathE n t = digE n (decV t) 256 := by unfold pathE; rw [if_pos e0]
  refine (digests_any w1 cb w.heap.size n hn root ks hr hk ge _ (decV t) ok y hw s1 s2 c1 c2 _ hc he1 hO2).mono ?_
  rintro e w2 ⟨g, c, rfl, hc2, hg, hN, hK⟩
  have hne : gF ≠ cb := ne_tyC hF hc (by decide)
  have hne2 : ge ≠ cb := ne_tyC he1 hc (by decide)
  have hB2 := hB.trans (hK.below_g hcb hB.size)
  have hss : ∀ k, Value.ownBlock (.slice s1 (decV t).vs.length c1) = some k → k ≠ cb := fun k e => by
    obtain ⟨_, cur, hh⟩ := ownsRow_block hO1 k e
    exact ne_tyC hh hc (by decide)
  have hO1' := hO1.of_heap (fun k e => hK.block k (hO1.block k e).2 (hss k e))
  refine ⟨_, rfl, fun e1 => ⟨hB2, hcb, hK.heap hF hne, e0, e1, ⟨ge, .slice sp t.length cap, s1, c1, s2, c2, g, c⟩, ?_, hO1'⟩, fun e1 => ⟨?_, hB2⟩⟩
  · obtain ⟨sp1, cap1, ev, hS1, hn1⟩ := hO1'.form
    cases ev
    have hND := hN e1
    obtain ⟨sp3, cap3, ev3, hS3, _⟩ := hND.form
    rw [nears_len] at ev3
    cases ev3
    exact ⟨hr, hk, hyk, hn, ok, hw.len, nears_len _ _, hND.1, hc2, hK.heap he1 hne2, hS1, hn1, hS3⟩
  · exact hH
theorem built_fns2 (a b : Array Value) (w : World) : (Instr.buildSlice 83 2 #[(0, .func (.func 22) a #[]), (1, .func (.func 23) b #[])]).run Tryd.prog w = .ok (.slice (some ⟨w.heap.size, 0, none⟩) 2 2) (w.alloc (.cells #[.func (.func 22) a #[], .func (.func 23) b #[]] 68)) := by kernel_rfl
set_option maxRecDepth 100000 in
set_option maxHeartbeats 4000000 in
theorem paTh (w : World) (hG : Glob w) (n : Nat) (hn : n ≤ 32) (root ks t : List Int) (hr : root.length = 32) (hk : ks.length = 32) (hyk : Bys ks) (ge : Nat) (he : w.heap[ge]? = some (.cells (ints .u8 (emps n 256).flatten).toArray 28 (0, 0))) (sp : Option Addr) (cap : Nat) (hy : Bys t) (hS : Src w sp cap t) (w1 : World) (cb gF : Nat)
    (a1 : Below w.heap.size w w1) (a2 : w.heap.size ≤ cb) (a3 : w1.heap[gF]? = some (.cells #[.func (.func 22) #[.pointer (some ⟨cb, 0, none⟩)] #[], .func (.func 23) #[.pointer (some ⟨cb, 0, none⟩)] #[]] 68 (0, 0))) (a4 : w1.heap[cb]? = some (.cells (ckC n root ks (.slice (some ⟨ge, 0, none⟩) 256 256) (.slice sp t.length cap) (pfC pf0 (.slice none 0 0) (.slice none 0 0)) (.slice none 0 0)).toArray 62 (0, 0))) :
    Calls Tryd.prog 21 #[.slice (some ⟨gF, 0, none⟩) 2 2] w1 fun e w2 => Below w.heap.size w w2 ∧ e = .returned (.int .i64 (pathE n t)) ∧ (pathE n t = 0 → ∃ P, CkV w2 cb P n root ks (decV t) (nears n (decV t))) := by
  refine (through_any w1 gF 2 (by omega) fnP (fun _ => #[.pointer (some ⟨cb, 0, none⟩)]) (fun _ => #[]) (fun k w2 => IHp w cb gF ge n root ks t sp cap k w2) (fun x w2 => pathE n t = x ∧ Below w.heap.size w w2) (fun k _ => ent_fnP k) ⟨a1, a2, a3, a4⟩
    (fun k w2 hk h2 => by
      have hF := h2.2.2.1
      rw [cell_of_row _ _ _ _ _ _ hF]
      match k, hk with
      | 0, _ => rfl
      | 1, _ => rfl)
    (fun k w2 hk' h2 => by
      match k, hk' with
      | 0, _ => exact paSt0 w w2 cb gF ge n root ks t hr hk sp cap hy hS h2
      | 1, _ => exact paSt1 w w2 cb gF ge n hn root ks t hr hk hyk sp cap hy he h2)).mono ?_
  rintro e w2 ⟨x, rfl, h0, h1⟩
  by_cases hx : x = 0
  · subst hx
    obtain ⟨hB, _, _, e0, e1, P, hV, _⟩ := h0 rfl
    have hp : pathE n t = 0 := by unfold pathE; rw [if_pos e0, e1]
    exact ⟨hB, by rw [hp], fun _ => ⟨P, hV⟩⟩
  · obtain ⟨e4, hB⟩ := h1 hx
    exact ⟨hB, by rw [e4], fun q => absurd (e4.symm.trans q) hx⟩
end Go.Proofs.YtbjahdbmkcamoaaDoor
namespace Go.Proofs.YtbjahdbmkcamoaaDoor
set_option linter.unusedVariables false
set_option linter.unusedSimpArgs false
open Go.RowKit
attribute [local go_sem ↓] Go.wp_at_zero Go.wp_at_succ

theorem built_dg0 : Tryd.prog.built 28 [] = some (ints .u8 zB).toArray := by kernel_rfl
theorem ent_Path1 : ∀ (args : Array Value) (w : World), (callFunc 26 args).run Tryd.prog w = .ok (.enter 26 args) w := enters_of Tryd.func26 (by kernel_rfl) rfl
def pathN (k : Int) (ks : List Int) (NB : List (List Int)) (p : Pf) (h : Nat) : List (List Int) := (List.range h).map fun j => pth k ks (fun i => NB.getD i []) (footD k ks p.f p.vs) j
theorem pathN_succ (k : Int) (ks : List Int) (NB : List (List Int)) (p : Pf) (h : Nat) : pathN k ks NB p (h + 1) = pathN k ks NB p h ++ [pth k ks (fun i => NB.getD i []) (footD k ks p.f p.vs) h] := by
  unfold pathN; rw [List.range_succ, List.map_append]; rfl
theorem pathN_len (k : Int) (ks : List Int) (NB : List (List Int)) (p : Pf) (h : Nat) : (pathN k ks NB p h).length = h := by simp [pathN]
theorem allocDs (a : Act) (o : Oper) (w : World) (ho : o.op = .alloc 40) : (execOp a.eval o).run Tryd.prog w = .ok (.value (.pointer (some ⟨w.heap.size, 0, none⟩))) (w.alloc (.cells [Value.slice none 0 0].toArray 40)) := by
  unfold execOp
  rw [ho]
  kernel_rfl
set_option maxRecDepth 100000 in
set_option maxHeartbeats 4000000 in
theorem pathClimb (w w1 : World) (hG : Glob w) (cb : Nat) (P : CkP) (n : Nat) (root ks : List Int) (p : Pf) (NB : List (List Int)) (hV : CkV w cb P n root ks p NB) (hB : Below w.heap.size w w1) (pc : Nat) (hpc : w.heap.size ≤ pc) (r : w1.heap[pc]? = some (.cells #[.slice none 0 0] 40 (0, 0))) :
    Calls Tryd.prog 24 #[.pointer (some ⟨cb, 0, none⟩), .agg (ints .u8 (footD n ks p.f p.vs)).toArray, .func (.func 26) #[] #[.pointer (some ⟨pc, 0, none⟩)]] w1 fun e w2 => e = .returned (.tuple #[]) ∧ Below w.heap.size w w2 ∧ ∃ v, w2.heap[pc]? = some (.cells #[v] 40 (0, 0)) ∧ OwnD w2 w.heap.size v (pathN n ks NB p 257) := by
  have h0 : IPa w.heap.size pc (pathN n ks NB p 0) [pc] w1 := ⟨⟨.slice none 0 0, r, OwnD.nil _ _, rfl⟩, hpc, hB.size⟩
  have hd : (footD n ks p.f p.vs).length = 32 := footD_len _ _ _ _
  refine (climb1_any w w1 hG cb P n root ks p NB hV hB _ hd 26 (.pointer (some ⟨pc, 0, none⟩)) (fun h F w2 => IPa w.heap.size pc (pathN n ks NB p h) F w2) [pc] ent_Path1
    (fun h F w2 a => a.lt) (fun h F w2 w3 a b c => a.move b c)
    (fun h F w2 hh a _ => by
      refine (path1_any w.heap.size pc _ F w2 a (by rw [pathN_len]; omega) h _ (pth_len _ _ _ _ hd _)).mono ?_
      rintro e w3 ⟨rfl, F', a1, a2, a3⟩
      exact ⟨rfl, F', by rw [pathN_succ]; exact a1, a2, a3⟩) h0).mono ?_
  rintro e w2 ⟨rfl, F', a1, a2, a3⟩
  obtain ⟨v, b1, b2, _⟩ := a1.ex
  exact ⟨rfl, FrC.below hB a2 (fun x hx => by obtain rfl : x = pc := by simpa using hx
                                              exact hpc) hB.size, v, b1, b2⟩
set_option maxRecDepth 100000 in
set_option maxHeartbeats 4000000 in
theorem path_ok (w : World) (hG : Glob w) (n : Nat) (h1 : 1 ≤ n) (h2 : n ≤ 32) (ks t : List Int) (hk : ks.length = 32) (hyk : Bys ks) (sp : Option Addr) (cap : Nat) (hy : Bys t) (hS : Src w sp cap t) :
    Calls Tryd.prog 10 #[.int .i64 (n : Nat), .agg (ints .u8 ks).toArray, .slice sp t.length cap] w fun e w' => ∃ v, e = .returned (.tuple #[v, .int .i64 (pathE n t)]) ∧ OwnD w' w.heap.size v (if pathE n t = 0 then pathN n ks (nears n (decV t)) (decV t) 257 else []) ∧ Below w.heap.size w w' := by
  have KT := hid (fun w1 (g1 : Glob w1) => termsOf_ok w1 g1 n zB rfl (by omega) (by omega))
  have KK := hid (fun w1 ge => taken_any w1 n zB ks rfl hk (some ⟨ge, 0, none⟩) sp 256 256 t.length cap)
  have OT := hid (fun ge => tmC_one (k := n) (root := zB) (e := .slice (some ⟨ge, 0, none⟩) 256 256) rfl)
  have LT := hid (fun ge => tmC_len (k := n) (root := zB) (e := .slice (some ⟨ge, 0, none⟩) 256 256) rfl)
  have AT := hid allocTm
  have BZ := hid built_dg0
  have ADs := hid allocDs
  have hmf : ∀ (fn : Fn) (first cap : Array Value) (w : World), (Instr.makeFunc fn first cap).run Tryd.prog w = .ok (.func fn first cap) w := fun _ _ _ _ => rfl
  have d0 := (BK.nil w).alloc (ints .u8 ks) 30
  have LK := hid (show (Tryd.prog.info? 30).map (·.size) = some (ints .u8 ks).toArray.size by rw [Tryd.sizeKy, ints_size, hk])
  have LZ := hid (show (tmC 0 zB (.slice none 0 0)).length = 34 from rfl)
  generalize tmC 0 zB (.slice none 0 0) = TZ at *
  generalize tmC (n : Int) zB = TM at *
  have i1 : (n : Int) ≤ 32 := by omega
  have HPT := hid (fun w3 (a1 : Glob w3) ge he (a2 : Src w3 sp cap t) w1 cb gF c1 c2 c3 c4 => paTh w3 a1 n h2 zB ks t rfl hk hyk ge he sp cap hy a2 w1 cb gF c1 c2 c3 c4)
  have HP0 := hid (show pathE n t = 0 → (if pathE n t = 0 then pathN n ks (nears n (decV t)) (decV t) 257 else []) = pathN n ks (nears n (decV t)) (decV t) 257 from fun q => if_pos q)
  have HP1 := hid (show pathE n t ≠ 0 → (if pathE n t = 0 then pathN n ks (nears n (decV t)) (decV t) 257 else []) = [] from fun q => if_neg q)
  generalize (if pathE n t = 0 then pathN n ks (nears n (decV t)) (decV t) 257 else []) = PR at *
  generalize pathE n t = x at *
  go_enter Tryd.func10, Tryd.ntmps10
  go_wp2_with (first
    | refine wpList_built (by rfl) 28 _ (by rfl) _ (by rfl) _ BZ.out ?_
    | (refine (KT.out _ (hG.below d0.1 hG.1)).mono ?_; rintro e w2 ⟨ge, rfl, hge, re, hb2⟩; refine Hid.out ?_))
  refine hid ?_
  have d2 := d0.call hb2
  clear d0 KT hb2
  go_wp2_with (first | (refine wpList_new AT.out LZ.out Tryd.sizeTm rfl rfl rfl _ _ rfl rfl (TM (.slice (some ⟨ge, 0, none⟩) 256 256)) rfl rfl (LT.out _) (OT.out _) ?_; refine Hid.out ?_))
  refine hid ?_
  have d3 := d2.alloc (TM (.slice (some ⟨ge, 0, none⟩) 256 256)) 55
  have re3 := hold (o := .cells (TM (.slice (some ⟨ge, 0, none⟩) 256 256)).toArray 55) re
  clear d2 re
  generalize w2.alloc (.cells (TM (.slice (some ⟨ge, 0, none⟩) 256 256)).toArray 55) = w3 at *
  generalize w2.heap.size = G at *
  have rt := d3.row (.head _)
  have rk := d3.row (.tail _ (.head _))
  have LT2 := hid (show (Tryd.prog.info? 55).map (·.size) = some (TM (.slice (some ⟨ge, 0, none⟩) 256 256)).toArray.size by rw [Tryd.sizeTm, List.size_toArray, LT.out])
  go_wp2_with (first
    | refine wpList_load_row rfl 55 _ rfl _ rfl 55 _ _ _ rt Tryd.underlying55 rfl LT2.out ?_
    | refine wpList_load_row rfl 30 _ rfl _ rfl 30 _ _ _ rk Tryd.underlying30 rfl LK.out ?_
    | (refine (KK.out _ ge).mono ?_; rintro e w4 ⟨cb, rfl, hcb, rc, hb4⟩; refine Hid.out ?_))
  refine hid ?_
  have hB3 := d3.1
  have hG3 : Glob w3 := hG.below hB3 hG.1
  have hS3 : Src w3 sp cap t := hS.below hB3 (Nat.le_refl _)
  clear d3 rt rk KK
  have rF := hnew w4 (.cells #[.func (.func 22) #[.pointer (some ⟨cb, 0, none⟩)] #[], .func (.func 23) #[.pointer (some ⟨cb, 0, none⟩)] #[]] 68)
  have KTh := hid (HPT.out w3 hG3 ge re3 hS3 _ cb w4.heap.size (hb4.alloc hb4.size _) hcb rF (hold rc))
  have bf := fun w1 => built_fns2 #[.pointer (some ⟨cb, 0, none⟩)] #[.pointer (some ⟨cb, 0, none⟩)] w1
  clear rF rc re3
  go_wp2_with (first
    | (refine KTh.out.mono ?_; rintro e w5 ⟨hB5, rfl, hV5⟩; refine Hid.out ?_))
  refine hid ?_
  clear KTh bf
  have hB5' := hB3.trans (hB5.mono hB3.size)
  by_cases h0 : x = 0
  · subst h0
    obtain ⟨P, hV⟩ := hV5 rfl
    have HPR := hid (HP0.out rfl)
    have hG5 : Glob w5 := hG.below hB5' hG.1
    have r6 := hnew w5 (.cells #[.slice none 0 0] 40)
    have hb6 : Below w5.heap.size w5 (w5.alloc (.cells #[.slice none 0 0] 40)) := (Below.refl _ _).alloc (Nat.le_refl _) _
    have KF := hid (foot_any _ (hG5.below hb6 hG5.1) cb P n zB ks (decV t) (nears n (decV t)) (hV.below hb6))
    have KC := hid (fun w1 (b1 : Below w5.heap.size w5 w1) r => pathClimb w5 w1 hG5 cb P n zB ks (decV t) (nears n (decV t)) hV b1 w5.heap.size (Nat.le_refl _) r)
    clear hV hV5
    simp only [← HPR.out] at KC
    generalize footD n ks (decV t).f (decV t).vs = FD at *
    go_wp2_with (first
      | refine wpList_allocV ADs.out rfl rfl ?_
      | (refine KF.out.mono ?_; rintro e w7 ⟨rfl, hb7⟩; refine Hid.out ?_))
    refine hid ?_
    have K8 := hid (KC.out w7 (hb6.trans (hb7.mono hb6.size)) (hbel hb7 r6 (hlt r6)))
    clear KF KC hb6 r6
    go_wp2_with (first | (refine K8.out.mono ?_; rintro e w8 ⟨rfl, hB8, v8, r8, hO8⟩; refine Hid.out ?_))
    refine hid ?_
    clear K8 hb7
    have c8 : w8.cell? ⟨w5.heap.size, 0, none⟩ = some v8 := by rw [cell_of_row _ _ _ _ _ _ r8]; rfl
    have hB9 := hB5'.trans (hB8.mono hB5'.size)
    have hO9 := own_lowerD hO8 hB5'.size
    obtain ⟨s9, c9, rfl, _, _⟩ := hO8.form
    go_wp2_with fail
    exact bodyPost_ret (results_tmp2 Tryd.results10 _ _ _) rfl ⟨.slice s9 PR.length c9, rfl, hO9, hB9⟩
  · have HPR := hid (HP1.out h0)
    have i2 : (x != 0) = true := by simpa using h0
    go_wp2_with fail
    exact bodyPost_ret (results_tmp2 Tryd.results10 _ _ _) rfl ⟨.slice none 0 0, rfl, by rw [HPR.out]; exact OwnD.nil _ _, hB5'⟩
end Go.Proofs.YtbjahdbmkcamoaaDoor
