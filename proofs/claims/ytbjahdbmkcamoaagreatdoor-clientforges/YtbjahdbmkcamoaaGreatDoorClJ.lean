import Derived.Test.YtbjahdbmkcamoaaGreatDoorClI
namespace Go.Proofs.YtbjahdbmkcamoaaGreatDoor
set_option linter.unusedVariables false
set_option linter.unusedSimpArgs false
open Go.RowKit
attribute [local go_sem ↓] Go.wp_at_zero Go.wp_at_succ

theorem pth_congr (k : Int) (ks : List Int) (nb nb' : Nat → List Int) (d : List Int) : ∀ h, (∀ j, j < h → nb j = nb' j) → pth k ks nb d h = pth k ks nb' d h
  | 0, _ => rfl
  | h + 1, e => by
    have ih := pth_congr k ks nb nb' d h (fun j hj => e j (by omega))
    show (if bitK ks (255 - h) = 0 then _ else _) = if bitK ks (255 - h) = 0 then _ else _
    rw [ih, e h (by omega)]
theorem nears_get (k : Int) (p : Pf) (h : Nat) (hh : h < 256) : (nears k p).getD h [] = nbr k p h := by
  rw [List.getD_eq_getElem?_getD, nears, List.getElem?_map, List.getElem?_range hh]; rfl
theorem nears_len (k : Int) (p : Pf) : (nears k p).length = 256 := by simp [nears]
theorem pth_nears (k : Int) (ks : List Int) (p : Pf) (d : List Int) (h : Nat) (hh : h ≤ 256) : pth k ks (fun j => (nears k p).getD j []) d h = pth k ks (nbr k p) d h :=
  pth_congr _ _ _ _ _ h fun j hj => nears_get k p j (by omega)
theorem ent_form : ∀ (args : Array Value) (w : World), (callFunc 41 args).run Tryz.prog w = .ok (.enter 41 args) w := enters_of Tryz.func41 (by kernel_rfl) rfl
theorem ent_digests : ∀ (args : Array Value) (w : World), (callFunc 42 args).run Tryz.prog w = .ok (.enter 42 args) w := enters_of Tryz.func42 (by kernel_rfl) rfl
theorem ent_leads : ∀ (args : Array Value) (w : World), (callFunc 43 args).run Tryz.prog w = .ok (.enter 43 args) w := enters_of Tryz.func43 (by kernel_rfl) rfl
set_option maxHeartbeats 400000 in
theorem through_any (w : World) (g n : Nat) (hn : n ≤ 100) (fn : Nat → Nat) (first cap : Nat → Array Value) (I : Nat → World → Prop) (E : Int → World → Prop)
    (hent : ∀ k, k < n → ∀ (args : Array Value) (w1 : World), (callFunc (fn k) args).run Tryz.prog w1 = .ok (.enter (fn k) args) w1)
    (h0 : I 0 w)
    (hcell : ∀ k w1, k < n → I k w1 → w1.cell? ⟨g, k, none⟩ = some (.func (.func (fn k)) (first k) (cap k)))
    (hcall : ∀ k w1, k < n → I k w1 → Calls Tryz.prog (fn k) (first k ++ cap k) w1 fun e w2 => ∃ x, e = .returned (.int .i64 x) ∧ (x = 0 → I (k + 1) w2) ∧ (x ≠ 0 → E x w2)) :
    Calls Tryz.prog 40 #[.slice (some ⟨g, 0, none⟩) n n] w fun e w2 => ∃ x, e = .returned (.int .i64 x) ∧ (x = 0 → I n w2) ∧ (x ≠ 0 → E x w2) := by
  have i0 : (n : Int) ≤ 100 := by omega
  go_enter Tryz.func40, Tryz.ntmps40
  go_wp2
  go_loopw [4, 5, 8] (fun _ _ iv wr => ∃ k : Nat, k ≤ n ∧ iv = .int .i64 k ∧ I k wr) (fun _ _ iv _ => n - (intOf iv).toNat)
  case atStart => exact ⟨0, by omega, rfl, h0⟩
  case round =>
    obtain ⟨k, hk, rfl, hI⟩ := hrel
    by_cases hlt : k < n
    · have i1 : (k : Int) < (n : Int) := by omega
      have c := hcell k wr hlt hI
      have HC := hid (hcall k wr hlt hI)
      have he := hent k hlt
      clear hcell hcall h0 hent
      generalize fn k = f at *
      generalize first k = fi at *
      generalize cap k = ca at *
      · go_wp2_with (refine HC.out.mono ?_; rintro e w2 ⟨x, rfl, hx0, hx1⟩; by_cases hx : x = 0)
        · subst hx
          go_wp2
          go_roundw
          case rel => exact ⟨k + 1, by omega, by go_num, hx0 rfl⟩
          case measure => simp [intOf]; omega
        · have i2 : (x != 0) = true := by simpa using hx
          go_wp2
          go_ret
          exact ⟨_, rfl, fun q => absurd q hx, fun _ => hx1 hx⟩
    · obtain rfl : k = n := by omega
      go_wp2
      go_ret
      exact ⟨_, rfl, fun _ => hI, fun q => absurd rfl q⟩
def fnL (k : Nat) : Nat := match k with | 0 => 41 | 1 => 42 | _ => 43
theorem ent_fnL (k : Nat) : ∀ (args : Array Value) (w : World), (callFunc (fnL k) args).run Tryz.prog w = .ok (.enter (fnL k) args) w := by
  match k with
  | 0 => exact ent_form
  | 1 => exact ent_digests
  | n + 2 => exact ent_leads
theorem decE_01 (t : List Int) : decE t = 0 ∨ decE t = 120 := by unfold decE; split <;> simp
theorem decE_some {t : List Int} (h : decE t = 0) : decP t = some (decV t) := by
  unfold decE at h
  unfold decV
  cases hd : decP t with
  | none => rw [hd] at h; simp at h
  | some p => rfl
/-- What is known of a check ahead of its k-th step. -/
def IHe (w : World) (cb gF : Nat) (ge : Nat) (n : Nat) (root ks t : List Int) (sp : Option Addr) (cap : Nat) (k : Nat) (w1 : World) : Prop :=
  Below w.heap.size w w1 ∧ w.heap.size ≤ cb ∧ w1.heap[gF]? = some (.cells #[.func (.func 41) #[.pointer (some ⟨cb, 0, none⟩)] #[], .func (.func 42) #[.pointer (some ⟨cb, 0, none⟩)] #[], .func (.func 43) #[.pointer (some ⟨cb, 0, none⟩)] #[]] 89 (0, 0)) ∧
  match k with
  | 0 => w1.heap[cb]? = some (.cells (ckC n root ks (.slice (some ⟨ge, 0, none⟩) 256 256) (.slice sp t.length cap) (pfC pf0 (.slice none 0 0) (.slice none 0 0)) (.slice none 0 0)).toArray 64 (0, 0))
  | 1 => decE t = 0 ∧ ∃ s1 c1 s2 c2, w1.heap[cb]? = some (.cells (ckC n root ks (.slice (some ⟨ge, 0, none⟩) 256 256) (.slice sp t.length cap) (pfC (decV t) (.slice s1 (decV t).vs.length c1) (.slice s2 (decV t).ss.length c2)) (.slice none 0 0)).toArray 64 (0, 0)) ∧ Own w1 w.heap.size (.slice s1 (decV t).vs.length c1) (decV t).vs ∧ OwnD w1 w.heap.size (.slice s2 (decV t).ss.length c2) (decV t).ss
  | 2 => decE t = 0 ∧ digE n (decV t) 256 = 0 ∧ ∃ P : CkP, CkV w1 cb P n root ks (decV t) (nears n (decV t)) ∧ Own w1 w.heap.size (.slice P.s1 (decV t).vs.length P.c1) (decV t).vs
  | _ => decE t = 0 ∧ digE n (decV t) 256 = 0 ∧ pthP n ks (decV t) 256 = root ∧ ∃ P : CkP, CkV w1 cb P n root ks (decV t) (nears n (decV t)) ∧ Own w1 w.heap.size (.slice P.s1 (decV t).vs.length P.c1) (decV t).vs
set_option maxRecDepth 100000 in
set_option maxHeartbeats 4000000 in
theorem heSt0 (w w1 : World) (cb gF ge n : Nat) (root ks t : List Int) (hr : root.length = 32) (hk : ks.length = 32) (sp : Option Addr) (cap : Nat) (hy : Bys t) (hS : Src w sp cap t) (h : IHe w cb gF ge n root ks t sp cap 0 w1) :
    Calls Tryz.prog 41 #[.pointer (some ⟨cb, 0, none⟩)] w1 fun e w2 => ∃ x, e = .returned (.int .i64 x) ∧ (x = 0 → IHe w cb gF ge n root ks t sp cap 1 w2) ∧ (x ≠ 0 → heldE n root ks t = x ∧ Below w.heap.size w w2) := by
  obtain ⟨hB, hcb, hF, hc⟩ := h
  refine (form_any w1 cb n root ks t hr hk _ sp cap hy (hS.below hB (Nat.le_refl _)) hc).mono ?_
  rintro e w2 ⟨s1, c1, s2, c2, rfl, hc2, hO1, hO2, hK⟩
  have hne : gF ≠ cb := ne_tyC hF hc (by decide)
  have hB2 := hB.trans (hK.below_g hcb (Nat.le_trans (Nat.le_refl _) hB.size))
  refine ⟨_, rfl, fun e0 => ⟨hB2, hcb, hK.heap hF hne, e0, s1, c1, s2, c2, hc2, hO1.lower hB.size, own_lowerD hO2 hB.size⟩, fun e0 => ⟨?_, hB2⟩⟩
  unfold heldE
  rw [if_neg e0]
  rcases decE_01 t with q | q
  · exact absurd q e0
  · exact q.symm
set_option maxRecDepth 100000 in
set_option maxHeartbeats 4000000 in
theorem heSt1 (w w1 : World) (cb gF ge n : Nat) (hn : n ≤ 32) (root ks t : List Int) (hr : root.length = 32) (hk : ks.length = 32) (hyk : Bys ks) (sp : Option Addr) (cap : Nat) (hy : Bys t) (he : w.heap[ge]? = some (.cells (ints .u8 (emps n 256).flatten).toArray 28 (0, 0))) (h : IHe w cb gF ge n root ks t sp cap 1 w1) :
    Calls Tryz.prog 42 #[.pointer (some ⟨cb, 0, none⟩)] w1 fun e w2 => ∃ x, e = .returned (.int .i64 x) ∧ (x = 0 → IHe w cb gF ge n root ks t sp cap 2 w2) ∧ (x ≠ 0 → heldE n root ks t = x ∧ Below w.heap.size w w2) := by
  obtain ⟨hB, hcb, hF, e0, s1, c1, s2, c2, hc, hO1, hO2⟩ := h
  obtain ⟨ok, y, hw, _⟩ := dec_some hy (decE_some e0)
  have he1 := hbel hB he (hlt he)
  have hH : heldE n root ks t = if digE n (decV t) 256 = 0 then (if pthP n ks (decV t) 256 = root then 0 else 131) else digE n (decV t) 256 := by unfold heldE; rw [if_pos e0]
  refine (digests_any w1 cb w.heap.size n hn root ks hr hk ge _ (decV t) ok y hw s1 s2 c1 c2 _ hc he1 hO2).mono ?_
  rintro e w2 ⟨g, c, rfl, hc2, hg, hN, hK⟩
  have hne : gF ≠ cb := ne_tyC hF hc (by decide)
  have hne2 : ge ≠ cb := ne_tyC he1 hc (by decide)
  have hB2 := hB.trans (hK.below_g hcb hB.size)
  have hss : ∀ k, Value.ownBlock (.slice s1 (decV t).vs.length c1) = some k → k ≠ cb := fun k e => by
    obtain ⟨_, cur, hh⟩ := ownsRow_block hO1 k e
    exact ne_tyC hh hc (by decide)
  have hO1' := hO1.of_heap (fun k e => hK.block k (hO1.block k e).2 (hss k e))
  refine ⟨_, rfl, fun e1 => ⟨hB2, hcb, hK.heap hF hne, e0, e1, ⟨ge, .slice sp t.length cap, s1, c1, s2, c2, g, c⟩, ?_, hO1'⟩, fun e1 => ⟨?_, hB2⟩⟩
  · obtain ⟨sp1, cap1, ev, hS1, hn1⟩ := hO1'.form
    cases ev
    have hND := hN e1
    obtain ⟨sp3, cap3, ev3, hS3, _⟩ := hND.form
    rw [nears_len] at ev3
    cases ev3
    exact ⟨hr, hk, hyk, hn, ok, hw.len, nears_len _ _, hND.1, hc2, hK.heap he1 hne2, hS1, hn1, hS3⟩
  · rw [hH, if_neg e1]
set_option maxRecDepth 100000 in
set_option maxHeartbeats 4000000 in
theorem heSt2 (w w1 : World) (hG : Glob w) (cb gF ge n : Nat) (root ks t : List Int) (sp : Option Addr) (cap : Nat) (h : IHe w cb gF ge n root ks t sp cap 2 w1) :
    Calls Tryz.prog 43 #[.pointer (some ⟨cb, 0, none⟩)] w1 fun e w2 => ∃ x, e = .returned (.int .i64 x) ∧ (x = 0 → IHe w cb gF ge n root ks t sp cap 3 w2) ∧ (x ≠ 0 → heldE n root ks t = x ∧ Below w.heap.size w w2) := by
  obtain ⟨hB, hcb, hF, e0, e1, P, hV, hO⟩ := h
  have hH : heldE n root ks t = if pthP n ks (decV t) 256 = root then 0 else 131 := by unfold heldE; rw [if_pos e0, if_pos e1]
  refine (leads_any w1 (hG.below hB hG.1) cb P n root ks (decV t) _ hV).mono ?_
  rintro e w2 ⟨rfl, hb⟩
  rw [pth_nears _ _ _ _ _ (Nat.le_refl _)]
  have hB2 := hB.trans (hb.mono hB.size)
  refine ⟨_, rfl, fun q => ⟨hB2, hcb, hbel hb hF (hlt hF), e0, e1, ?_, P, hV.below hb, hO.below hb (Nat.le_refl _)⟩, fun q => ⟨hH, hB2⟩⟩
  show pth n ks (nbr n (decV t)) (footD n ks (decV t).f (decV t).vs) 256 = root
  by_cases e : pth n ks (nbr n (decV t)) (footD n ks (decV t).f (decV t).vs) 256 = root
  · exact e
  · rw [if_neg e] at q; exact absurd q (by decide)
theorem built_fns (a b c : Array Value) (w : World) : (Instr.buildSlice 112 3 #[(0, .func (.func 41) a #[]), (1, .func (.func 42) b #[]), (2, .func (.func 43) c #[])]).run Tryz.prog w = .ok (.slice (some ⟨w.heap.size, 0, none⟩) 3 3) (w.alloc (.cells #[.func (.func 41) a #[], .func (.func 42) b #[], .func (.func 43) c #[]] 89)) := by kernel_rfl
set_option maxRecDepth 100000 in
set_option maxHeartbeats 4000000 in
theorem held_any (w : World) (hG : Glob w) (n : Nat) (hn : n ≤ 32) (root ks t : List Int) (hr : root.length = 32) (hk : ks.length = 32) (hyk : Bys ks) (ge : Nat) (he : w.heap[ge]? = some (.cells (ints .u8 (emps n 256).flatten).toArray 28 (0, 0))) (sp : Option Addr) (cap : Nat) (hy : Bys t) (hS : Src w sp cap t) :
    Calls Tryz.prog 21 #[.agg (tmC n root (.slice (some ⟨ge, 0, none⟩) 256 256)).toArray, .agg (ints .u8 ks).toArray, .slice sp t.length cap] w fun e w' => ∃ v, e = .returned (.tuple #[v, .int .i64 (heldE n root ks t)]) ∧ Below w.heap.size w w' ∧ (heldE n root ks t ≠ 0 → v = .pointer none) ∧
      (heldE n root ks t = 0 → ∃ cb, v = .pointer (some ⟨cb, 0, none⟩) ∧ ∃ P, CkV w' cb P n root ks (decV t) (nears n (decV t)) ∧ Own w' w.heap.size (.slice P.s1 (decV t).vs.length P.c1) (decV t).vs) := by
  have hmf : ∀ (fn : Fn) (first cap : Array Value) (w : World), (Instr.makeFunc fn first cap).run Tryz.prog w = .ok (.func fn first cap) w := fun _ _ _ _ => rfl
  have KT := hid (fun w1 => taken_any w1 n root ks hr hk (some ⟨ge, 0, none⟩) sp 256 256 t.length cap)
  have d0 := ((BK.nil w).alloc (tmC n root (.slice (some ⟨ge, 0, none⟩) 256 256)) 57).alloc (ints .u8 ks) 24
  rw [show (w.alloc (.cells (tmC n root (.slice (some ⟨ge, 0, none⟩) 256 256)).toArray 57)).heap.size = w.heap.size + 1 by simp] at d0
  have LT := hid (show (Tryz.prog.info? 57).map (·.size) = some (tmC n root (.slice (some ⟨ge, 0, none⟩) 256 256)).toArray.size by rw [Tryz.sizeTm, List.size_toArray, tmC_len hr])
  have LK := hid (show (Tryz.prog.info? 24).map (·.size) = some (ints .u8 ks).toArray.size by rw [Tryz.sizeKy, List.size_toArray, ints_len, hk])
  have r1 := d0.row (.head _)
  have r0 := d0.row (.tail _ (.head _))
  have S0 := hid (fun w1 cb gF h => heSt0 w w1 cb gF ge n root ks t hr hk sp cap hy hS h)
  have S1 := hid (fun w1 cb gF h => heSt1 w w1 cb gF ge n hn root ks t hr hk hyk sp cap hy he h)
  have S2 := hid (fun w1 cb gF h => heSt2 w w1 hG cb gF ge n root ks t sp cap h)
  have BF := hid built_fns
  have KTh := hid (fun w1 cb gF (h : IHe w cb gF ge n root ks t sp cap 0 w1) => through_any w1 gF 3 (by omega) fnL (fun _ => #[.pointer (some ⟨cb, 0, none⟩)]) (fun _ => #[]) (fun k w2 => IHe w cb gF ge n root ks t sp cap k w2) (fun x w2 => heldE n root ks t = x ∧ Below w.heap.size w w2) (fun k _ => ent_fnL k) h
    (fun k w2 hk h2 => by
      have hF := h2.2.2.1
      rw [cell_of_row _ _ _ _ _ _ hF]
      match k, hk with
      | 0, _ => rfl
      | 1, _ => rfl
      | 2, _ => rfl)
    (fun k w2 hk h2 => by
      match k, hk with
      | 0, _ => exact S0.out w2 cb gF h2
      | 1, _ => exact S1.out w2 cb gF h2
      | 2, _ => exact S2.out w2 cb gF h2))
  have MK := hid (fun w1 cb gF (a1 : Below w.heap.size w w1) (a2 : w.heap.size ≤ cb) (a3 : w1.heap[gF]? = some (.cells #[.func (.func 41) #[.pointer (some ⟨cb, 0, none⟩)] #[], .func (.func 42) #[.pointer (some ⟨cb, 0, none⟩)] #[], .func (.func 43) #[.pointer (some ⟨cb, 0, none⟩)] #[]] 89 (0, 0))) (a4 : w1.heap[cb]? = some (.cells (ckC n root ks (.slice (some ⟨ge, 0, none⟩) 256 256) (.slice sp t.length cap) (pfC pf0 (.slice none 0 0) (.slice none 0 0)) (.slice none 0 0)).toArray 64 (0, 0))) => show IHe w cb gF ge n root ks t sp cap 0 w1 from ⟨a1, a2, a3, a4⟩)
  have H3 := hid (fun w1 cb gF (h : IHe w cb gF ge n root ks t sp cap 3 w1) => show Below w.heap.size w w1 ∧ heldE n root ks t = 0 ∧ ∃ P, CkV w1 cb P n root ks (decV t) (nears n (decV t)) ∧ Own w1 w.heap.size (.slice P.s1 (decV t).vs.length P.c1) (decV t).vs by
    obtain ⟨hB, _, _, e0, e1, e2, P, hV, hO⟩ := h
    refine ⟨hB, ?_, P, hV, hO⟩
    unfold heldE; rw [if_pos e0, if_pos e1, if_pos e2])
  generalize heldE n root ks t = hE at *
  generalize IHe w = IH at *
  generalize hCC : ckC n root ks (.slice (some ⟨ge, 0, none⟩) 256 256) (.slice sp t.length cap) (pfC pf0 (.slice none 0 0) (.slice none 0 0)) (.slice none 0 0) = CC at *
  generalize tmC n root (.slice (some ⟨ge, 0, none⟩) 256 256) = TM at *
  clear S0 S1 S2
  go_enter Tryz.func21, Tryz.ntmps21
  go_wp2_with (first
    | refine wpList_load_row rfl 57 _ rfl _ rfl 57 _ _ _ r0 Tryz.underlying57 rfl LT.out ?_
    | refine wpList_load_row rfl 24 _ rfl _ rfl 24 _ _ _ r1 Tryz.underlying24 rfl LK.out ?_
    | (refine (KT.out _).mono ?_; rintro e w2 ⟨cb, rfl, hcb, rc, hb2⟩; refine Hid.out ?_))
  refine hid ?_
  have hB2 := (d0.call hb2).1
  have hcb' : w.heap.size ≤ cb := Nat.le_trans d0.1.size hcb
  clear hb2 d0 r0 r1 KT
  have bf := fun w1 => BF.out #[.pointer (some ⟨cb, 0, none⟩)] #[.pointer (some ⟨cb, 0, none⟩)] #[.pointer (some ⟨cb, 0, none⟩)] w1
  have r3 := hnew w2 (.cells #[.func (.func 41) #[.pointer (some ⟨cb, 0, none⟩)] #[], .func (.func 42) #[.pointer (some ⟨cb, 0, none⟩)] #[], .func (.func 43) #[.pointer (some ⟨cb, 0, none⟩)] #[]] 89)
  have hI0 := MK.out _ cb w2.heap.size (hB2.alloc hB2.size _) hcb' r3 (hold rc)
  have KX := hid (KTh.out _ cb w2.heap.size hI0)
  clear KTh MK hI0 r3 BF
  go_wp2_with (first | (refine KX.out.mono ?_; rintro e w4 ⟨x, rfl, hx0, hx1⟩; refine Hid.out ?_))
  refine hid ?_
  by_cases hx : x = 0
  · subst hx
    obtain ⟨hB4, e4, P, hV4, hO4⟩ := H3.out _ _ _ (hx0 rfl)
    clear hx0 hx1 KX H3
    subst e4
    go_wp2_with fail
    exact bodyPost_ret (results_tmp2 Tryz.results21 _ _ _) rfl ⟨.pointer (some ⟨cb, 0, none⟩), rfl, hB4, cb, rfl, P, hV4, hO4⟩
  · obtain ⟨e4, hB4⟩ := hx1 hx
    have i2 : (x != 0) = true := by simpa using hx
    clear hx0 hx1 KX H3
    subst e4
    go_wp2_with fail
    exact bodyPost_ret (results_tmp2 Tryz.results21 _ _ _) rfl ⟨.pointer none, rfl, hB4, (fun _ => rfl), (fun q => absurd q hx)⟩
end Go.Proofs.YtbjahdbmkcamoaaGreatDoor
