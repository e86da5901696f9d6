import Derived.Test.YtblcpcfonnaiiaaDoorClL
import Derived.Laws.BytesArg
namespace Go.Proofs.YtblcpcfonnaiiaaDoor
set_option linter.unusedVariables false
set_option linter.unusedSimpArgs false
open Go.RowKit
attribute [local go_sem ↓] Go.wp_at_zero Go.wp_at_succ

/-- The texts of a path. -/
def txN (n : Nat) (ks : List Int) (p : Pf) (NB : List (List Int)) : Nat → List Int
  | 0 => footT ks p.f p.vs
  | h + 1 => sideT n ks h (pth n ks (fun j => NB.getD j []) (footD n ks p.f p.vs) h) (NB.getD h [])
theorem txN_nears (n : Nat) (ks : List Int) (p : Pf) : ∀ h, h ≤ 256 → txN n ks p (nears n p) h = txtP n ks p h
  | 0, _ => rfl
  | h + 1, hh => by
    show sideT n ks h (pth n ks (fun j => (nears n p).getD j []) (footD n ks p.f p.vs) h) ((nears n p).getD h []) = sideT n ks h (pth n ks (nbr n p) (footD n ks p.f p.vs) h) (nbr n p h)
    rw [pth_nears _ _ _ _ _ (by omega), nears_get _ _ _ (by omega)]
theorem allocBB (a : Act) (o : Oper) (w : World) (ho : o.op = .alloc 56) : (execOp a.eval o).run Tryd.prog w = .ok (.value (.pointer (some ⟨w.heap.size, 0, none⟩))) (w.alloc (.cells [Value.slice none 0 0].toArray 56)) := by
  unfold execOp
  rw [ho]
  kernel_rfl
/-- A list of 257 texts that a call made. -/
def TxL (w : World) (base : Nat) (v : Value) (TX : Nat → List Int) : Prop := ∃ vs, OwnK w base v vs ∧ vs.length = 257 ∧ ∀ i, i < 257 → Own w base (vs.getD i undef) (TX i)
theorem TxL.below {w w1 : World} {base : Nat} {v : Value} {TX : Nat → List Int} (h : TxL w base v TX) (hb : Below w.heap.size w w1) : TxL w1 base v TX := by
  obtain ⟨vs, h1, h2, h3⟩ := h
  exact ⟨vs, h1.of_heap (fun k e => hb.block k (h1.heap k e).2.1), h2, fun i hi => (h3 i hi).below hb (Nat.le_refl _)⟩
theorem TxL.form {w : World} {base : Nat} {v : Value} {TX : Nat → List Int} (h : TxL w base v TX) : ∃ b c, v = .slice (some ⟨b, 0, none⟩) 257 c ∧ (c : Int) ≤ 9223372036854775807 ∧ ∀ i, i < 257 → ∃ s cc, w.cell? ⟨b, i, none⟩ = some (.slice s (TX i).length cc) ∧ Src w s cc (TX i) ∧ (s = none → cc = 0) := by
  obtain ⟨vs, h1, h2, h3⟩ := h
  obtain ⟨sp, cap, b, e, hc, hm, hs, hcell⟩ := h1.at
  rw [h2] at e hs hcell
  have := hs (by omega)
  subst this
  refine ⟨b, cap, e, by unfold maxLen at hm; omega, fun i hi => ?_⟩
  obtain ⟨s, cc, e2, hS, hn⟩ := (h3 i hi).form
  exact ⟨s, cc, by rw [hcell i hi, e2], hS, hn⟩
set_option maxRecDepth 100000 in
set_option maxHeartbeats 4000000 in
theorem texts_any (w : World) (hG : Glob w) (cb : Nat) (P : CkP) (n : Nat) (root ks : List Int) (p : Pf) (NB : List (List Int)) (hV : CkV w cb P n root ks p NB) :
    Calls Tryd.prog 18 #[.pointer (some ⟨cb, 0, none⟩)] w fun e w' => ∃ v, e = .returned v ∧ TxL w' w.heap.size v (txN n ks p NB) ∧ Below w.heap.size w w' := by
  have hb1 : Below w.heap.size w (w.alloc (.cells #[.pointer (some ⟨cb, 0, none⟩)] 44)) := (Below.refl _ _).alloc (Nat.le_refl _) _
  have r1 := hnew w (.cells #[.pointer (some ⟨cb, 0, none⟩)] 44)
  have c1 : (w.alloc (.cells #[.pointer (some ⟨cb, 0, none⟩)] 44)).cell? ⟨w.heap.size, 0, none⟩ = some (.pointer (some ⟨cb, 0, none⟩)) := by rw [cell_of_row _ _ _ _ _ _ r1]; rfl
  have KT := hid (footText_any _ cb P n root ks p NB (hV.below hb1))
  have AB := hid allocBB
  have hs1 : (w.alloc (.cells #[.pointer (some ⟨cb, 0, none⟩)] 44)).heap.size = w.heap.size + 1 := by simp
  rw [hs1, show footT ks p.f p.vs = txN n ks p NB 0 from rfl] at KT
  go_enter Tryd.func18, Tryd.ntmps18
  go_wp2_with (first | (refine KT.out.mono ?_; rintro e w2 ⟨x, rfl, hOx, hb2⟩; obtain ⟨sx, cx, rfl, hSx, hnx⟩ := hOx.form; refine Hid.out ?_))
  refine hid ?_
  have p2 := hbel hb2 r1 (by omega)
  have hB2 : Below w.heap.size w w2 := hb1.trans (hb2.mono (by omega))
  have hz2 := hb2.size
  clear KT c1 r1 hb1 hb2
  generalize hTl : (txN n ks p NB 0).length = L at *
  have g6 := hnew w2 (.cells #[.slice sx L cx] 22)
  have hb6 : Below w2.heap.size w2 (w2.alloc (.cells #[.slice sx L cx] 22)) := (Below.refl _ _).alloc (Nat.le_refl _) _
  have hs6 : (w2.alloc (.cells #[.slice sx L cx] 22)).heap.size = w2.heap.size + 1 := by simp
  have hb7 : Below w2.heap.size w2 ((w2.alloc (.cells #[.slice sx L cx] 22)).alloc (.cells [Value.slice (some ⟨w2.heap.size, 0, none⟩) 1 1].toArray 56)) := hb6.alloc (by rw [hs6]; omega) _
  have g7 := hold (o := .cells [Value.slice (some ⟨w2.heap.size, 0, none⟩) 1 1].toArray 56) g6
  have t7 := hnew (w2.alloc (.cells #[.slice sx L cx] 22)) (.cells [Value.slice (some ⟨w2.heap.size, 0, none⟩) 1 1].toArray 56)
  rw [hs6] at t7
  have bs : ∀ w1 : World, (Instr.buildSlice 56 1 #[(0, .slice sx L cx)]).run Tryd.prog w1 = .ok (.slice (some ⟨w1.heap.size, 0, none⟩) 1 1) (w1.alloc (.cells #[.slice sx L cx] 22)) := fun w1 => by kernel_rfl
  go_wp2_with (first | (refine wpList_new AB.out rfl Tryd.sizeBB rfl rfl rfl _ _ rfl rfl [Value.slice (some ⟨w2.heap.size, 0, none⟩) 1 1] rfl rfl rfl (by intro v hv; rw [List.mem_singleton.1 hv]; rfl) ?_; refine Hid.out ?_))
  refine hid ?_
  have hB7 : Below w.heap.size w _ := hB2.trans (hb7.mono hB2.size)
  have p7 := hbel hb7 p2 (hlt p2)
  have hO7 : Own _ w.heap.size (.slice sx L cx) (txN n ks p NB 0) := own_lower (hOx.below hb7 (Nat.le_refl _)) (by omega)
  clear g6 hb6 hb7 hB2 p2 hOx hSx hs6
  generalize (w2.alloc (.cells #[.slice sx L cx] 22)).alloc (.cells [Value.slice (some ⟨w2.heap.size, 0, none⟩) 1 1].toArray 56) = w7 at *
  generalize w2.heap.size = G at *
  have hI7 : ITx w w.heap.size (G + 1) cb (txN n ks p NB) 0 (.slice (some ⟨G, 0, none⟩) 1 1) [.slice sx L cx] (w.heap.size :: (G + 1) :: (bl (.slice (some ⟨G, 0, none⟩) 1 1) ++ [Value.slice sx L cx].flatMap bl)) w7 :=
    ⟨rfl, by omega, Nat.le_refl _, by omega, p7, t7, ⟨rfl, Or.inr ⟨G, 1, #[.slice sx L cx], rfl, by omega, g7, by simp, by simp [maxLen], rfl, rfl⟩⟩, rfl, fun i hi => by
      obtain rfl : i = 0 := by simpa using hi
      exact hO7⟩
  have HT := hid (fun h (hh : h < 256) => show txN n ks p NB (h + 1) = sideT n ks h (pth n ks (fun j => NB.getD j []) (footD n ks p.f p.vs) h) (NB.getD h []) from rfl)
  have KF := hid (fun w1 (hB1 : Below w.heap.size w w1) => foot_any w1 (hG.below hB1 hG.1) cb P n root ks p NB (hV.below hB1))
  have hdl := footD_len n ks p.f p.vs
  have hP := fun h => pth_len n ks (fun j => NB.getD j []) (footD n ks p.f p.vs) hdl h
  have KC := hid (fun w1 (hB : Below w.heap.size w w1) F0 (hI : ∃ v vs, ITx w w.heap.size (G + 1) cb (txN n ks p NB) 0 v vs F0 w1) =>
    climb_any w w1 hG cb P n root ks p NB hV hB (footD n ks p.f p.vs) hdl 34 (.pointer (some ⟨w.heap.size, 0, none⟩)) (.pointer (some ⟨G + 1, 0, none⟩)) (fun j F w2 => ∃ v vs, ITx w w.heap.size (G + 1) cb (txN n ks p NB) j v vs F w2) F0 ent_texts1
      (fun h F w2 ⟨v, vs, a⟩ => a.bnd) (fun h F w2 w3 ⟨v, vs, a⟩ hk _ => ⟨v, vs, a.stay hk⟩)
      (fun h F w2 hh ⟨v, vs, a⟩ hB2 => (texts1_any w w2 cb P n root ks p NB hV hB2 _ _ _ (txN n ks p NB) hP HT.out h hh v vs F a).mono (by
        rintro e w3 ⟨rfl, v', vs', F', b1, b2, b3⟩
        exact ⟨rfl, F', ⟨v', vs', b1⟩, b2, b3⟩)) hI)
  generalize footD n ks p.f p.vs = D at *
  generalize hTX : txN n ks p NB = TX at *
  have HTX := hid hTX
  clear hTX
  have LF := hI7.bnd
  have HI7 := hid hI7
  generalize w.heap.size :: (G + 1) :: (bl (.slice (some ⟨G, 0, none⟩) 1 1) ++ [Value.slice sx L cx].flatMap bl) = F0 at *
  clear hI7 hO7 t7 g7 HT bs
  go_wp2_with fail
  refine wp_region_noPanic ?_
  refine wp_region_held_drew (S := (fun w' => Below w.heap.size w w' ∧ w'.heap[w.heap.size]? = some (.cells #[.pointer (some ⟨cb, 0, none⟩)] 44 (0, 0)))) (by kernel_rfl) ⟨hB7.drew, p7⟩ (fun hHeld => ?_)
  refine wpAnyH_take (i := 0) (oi := { dst := some 7, op := Op.load 44 (Operand.tmp 1), type := 44, pos := "path.go:61", after := #[], guard := none }) (v := .pointer (some ⟨cb, 0, none⟩)) rfl (by kernel_rfl) (by kernel_rfl) (by kernel_rfl) (fun _ _ _ h => h) (Or.inl ⟨by rfl, by intro w hS; have hc := cell_ck (C := [.pointer (some ⟨cb, 0, none⟩)]) (j := 0) (v := .pointer (some ⟨cb, 0, none⟩)) hS.2 rfl; go_simp⟩) hHeld ?_
  try simp only [Act.put, List.setIfInBounds_toArray, List.set_cons_zero, List.set_cons_succ]
  refine wpAnyH_take (i := 1) (oi := { dst := some 8, op := Op.load 44 (Operand.tmp 1), type := 44, pos := "path.go:61", after := #[], guard := none }) (v := .pointer (some ⟨cb, 0, none⟩)) rfl (by kernel_rfl) (by kernel_rfl) (by kernel_rfl) (fun _ _ _ h => h) (Or.inl ⟨by rfl, by intro w hS; have hc := cell_ck (C := [.pointer (some ⟨cb, 0, none⟩)]) (j := 0) (v := .pointer (some ⟨cb, 0, none⟩)) hS.2 rfl; go_simp⟩) hHeld ?_
  try simp only [Act.put, List.setIfInBounds_toArray, List.set_cons_zero, List.set_cons_succ]
  refine wpAnyH_take (i := 3) (oi := { dst := some 10, op := Op.makeFunc (Fn.func 34) #[] #[Operand.tmp 1, Operand.tmp 3], type := 71, pos := "path.go:61", after := #[], guard := none }) (v := .func (.func 34) #[] #[.pointer (some ⟨w.heap.size, 0, none⟩), .pointer (some ⟨G + 1, 0, none⟩)]) rfl (by kernel_rfl) (by kernel_rfl) (by kernel_rfl) (fun _ _ _ h => h) (Or.inl ⟨by rfl, by intro w hS; go_simp⟩) hHeld ?_
  try simp only [Act.put, List.setIfInBounds_toArray, List.set_cons_zero, List.set_cons_succ]
  refine wpAnyH_ready (rs := [2]) (by kernel_rfl) (by simp) ?_
  refine (AllReadyH.cons (o := { dst := some 9, op := Op.call { callee := Callee.value (Operand.func 33), args := #[Operand.tmp 8], argTypes := #[44] }, type := 29, pos := "path.go:61", after := #[{ on := 1, ground := Ground.data }], guard := none }) rfl (fun K hK => ?_) AllReadyH.nil)
  go_simp
  go_at_call 33
  refine (KF.out _ hHeld.1).mono ?_
  rintro e w8 ⟨rfl, hb8⟩
  have hI8 := HI7.out.stay (w1 := w8) (fun k hk => hb8.block k (LF k hk).2)
  go_wp2_with fail
  refine hK.out _ _ (⟨hHeld.1.trans (hb8.mono hHeld.1.size), hbel hb8 hHeld.2 (hlt hHeld.2)⟩) (fun hHeld2 => ?_)
  clear hK K hHeld
  have hHeld := hHeld2
  clear hHeld2
  try simp only [Act.put, List.setIfInBounds_toArray, List.set_cons_zero, List.set_cons_succ]
  refine wpAnyH_ready (rs := [4]) (by kernel_rfl) (by simp) ?_
  refine (AllReadyH.cons (o := { dst := some 11, op := Op.call { callee := Callee.value (Operand.func 32), args := #[Operand.tmp 7, Operand.tmp 9, Operand.tmp 10], argTypes := #[44, 29, 71] }, type := 0, pos := "path.go:61", after := #[{ on := 0, ground := Ground.data }, { on := 2, ground := Ground.data }, { on := 3, ground := Ground.data }, { on := 2, ground := Ground.chain }], guard := none }) rfl (fun K hK => ?_) AllReadyH.nil)
  go_simp
  go_at_call 32
  refine (KC.out _ hHeld.1 F0 ⟨_, _, hI8⟩).mono ?_
  rintro e w9 ⟨rfl, F9, ⟨v9, vs9, hI9⟩, hF9, hG9⟩
  go_wp2_with fail
  refine hK.out _ _ (⟨FrC.below hHeld.1 hF9 (fun x hx => (LF x hx).1) hHeld.1.size, hI9.pp⟩) (fun hHeld2 => ?_)
  clear hK K hHeld
  have hHeld := hHeld2
  clear hHeld2
  try simp only [Act.put, List.setIfInBounds_toArray, List.set_cons_zero, List.set_cons_succ]
  refine wpAnyH_done (by kernel_rfl) ?_ _
  refine NoPanic.normal ?_
  have hB9 := hHeld.1
  have c9 : w9.cell? ⟨G + 1, 0, none⟩ = some v9 := by rw [cell_of_row _ _ _ _ _ _ hI9.tt]; rfl
  have hT9 : TxL w9 w.heap.size v9 TX := ⟨vs9, hI9.own, hI9.len, fun i hi => hI9.txt i (by rw [hI9.len]; omega)⟩
  obtain ⟨sv, nv, cv, rfl⟩ : ∃ s n c, v9 = .slice s n c := by obtain ⟨s, c, b, e, _⟩ := hI9.own.at; exact ⟨s, _, c, e⟩
  clear hI9 hI8 HI7 hHeld
  go_wp2
  go_ret
  exact ⟨.slice sv nv cv, rfl, (by rw [HTX.out]; exact hT9), hB9⟩
theorem results_tmp3 {fn : Func} {t u v : Tmp} (h : fn.results = #[.tmp t, .tmp u, .tmp v]) (tmps : Array Value) (P : Program) (w : World) :
    (results fn tmps).run P w = .ok (.tuple #[tmps.getD t undef, tmps.getD u undef, tmps.getD v undef]) w := by
  simp [results, h]
theorem lt_of_cell {w : World} {b o : Nat} {v : Value} (h : w.cell? ⟨b, o, none⟩ = some v) : b < w.heap.size := by
  unfold World.cell? at h
  simp only at h
  cases hq : w.heap[b]? with
  | none => rw [hq] at h; cases h
  | some x => exact hlt hq
theorem conv_str (w : World) (zs : List Int) (sp : Option Addr) (cap : Nat) (hS : Src w sp cap zs) : (convert 22 9 (.slice sp zs.length cap)).run Tryd.prog w = .ok (.string (strOfNums zs)) w := by
  have hu : Tryd.prog.underlying 9 = some .string := by kernel_rfl
  cases sp with
  | none =>
    have hz : zs = [] := by
      obtain ⟨_, _, b, o, _, h4, _⟩ := hS
      by_cases h : 0 < zs.length
      · cases h4 h
      · exact List.eq_nil_of_length_eq_zero (by omega)
    subst hz
    exact run_convert_bytes_nil w 22 5 Tryd.underlying22 Tryd.underlying5 _ _ 9 hu
  | some a =>
    obtain ⟨_, _, b, o, h3, h4, h5⟩ := hS
    by_cases h : 0 < zs.length
    · have e := h4 h
      simp only [Option.some.injEq] at e
      subst e
      exact run_convert_bytes_arg w 22 5 Tryd.underlying22 Tryd.underlying5 b o _ cap zs rfl (fun i hi => h5 i hi) 9 hu
    · have hz : zs = [] := List.eq_nil_of_length_eq_zero (by omega)
      subst hz
      have hl : (loadCells a ([] : List Int).length).run Tryd.prog w = .ok (([] : List Int).map (Value.int .u8)).toArray w := run_loadCells_list (P := Tryd.prog) w a [] (fun j v hj => by cases hj)
      rw [run_convert_bytes_string w 22 9 5 _ _ cap Tryd.underlying22 Tryd.underlying5 hu, run_bytesToString w _ _ cap [] hl]
      rfl
theorem str_eq {xs ys : List Int} (hx : Bys xs) (hy : Bys ys) : ((strOfNums xs).toList == (strOfNums ys).toList) = decide (xs = ys) := by
  have e1 : ∀ zs : List Int, (strOfNums zs).toList = zs.map fun n => UInt8.ofNat n.toNat := fun zs => by simp [strOfNums, ByteArray.toList_eq]
  rw [e1, e1]
  by_cases h : xs = ys
  · subst h; simp
  · rw [decide_eq_false h]
    refine beq_eq_false_iff_ne.2 fun e => h ?_
    have hl : xs.length = ys.length := by have := congrArg List.length e; simpa using this
    refine List.ext_getElem hl fun i h1 h2 => ?_
    have a := hx xs[i] (List.getElem_mem _)
    have b := hy ys[i] (List.getElem_mem _)
    have e2 := congrArg (fun l => l[i]?) e
    simp only [List.getElem?_map, List.getElem?_eq_getElem h1, List.getElem?_eq_getElem h2, Option.map_some, Option.some.injEq] at e2
    have e3 := congrArg UInt8.toNat e2
    simp only [UInt8.toNat_ofNat'] at e3
    omega
set_option maxRecDepth 100000 in
set_option maxHeartbeats 4000000 in
theorem equal_any (w : World) (xs ys : List Int) (hx : Bys xs) (hy : Bys ys) (sp tp : Option Addr) (cap dap : Nat) (hS : Src w sp cap xs) (hT : Src w tp dap ys) :
    Calls Tryd.prog 16 #[.slice sp xs.length cap, .slice tp ys.length dap] w fun e w' => e = .returned (.bool (decide (xs = ys))) ∧ w' = w := by
  have c1 := conv_str w xs sp cap hS
  have c2 := conv_str w ys tp dap hT
  rw [← str_eq hx hy]
  go_enter Tryd.func16, Tryd.ntmps16
  go_wp2
  go_ret
  exact ⟨rfl, rfl⟩
set_option maxRecDepth 100000 in
set_option maxHeartbeats 4000000 in
theorem highest_any (w : World) (b1 c1 b2 c2 : Nat) (X Y : Nat → List Int) (hX : ∀ i, i < 257 → Bys (X i)) (hY : ∀ i, i < 257 → Bys (Y i)) (hc1 : (c1 : Int) ≤ 9223372036854775807) (hc2 : (c2 : Int) ≤ 9223372036854775807)
    (h1 : ∀ i, i < 257 → ∃ s cc, w.cell? ⟨b1, i, none⟩ = some (.slice s (X i).length cc) ∧ Src w s cc (X i) ∧ (s = none → cc = 0)) (h2 : ∀ i, i < 257 → ∃ s cc, w.cell? ⟨b2, i, none⟩ = some (.slice s (Y i).length cc) ∧ Src w s cc (Y i) ∧ (s = none → cc = 0))
    (H : Nat) (hH : H ≤ 256) (hne : X H ≠ Y H) (heq : ∀ j, H < j → j ≤ 256 → X j = Y j) :
    Calls Tryd.prog 17 #[.slice (some ⟨b1, 0, none⟩) 257 c1, .slice (some ⟨b2, 0, none⟩) 257 c2] w fun e w' => ∃ s1 d1 s2 d2, e = .returned (.tuple #[.slice s1 (X H).length d1, .slice s2 (Y H).length d2, .bool true]) ∧ Src w' s1 d1 (X H) ∧ Src w' s2 d2 (Y H) ∧ Below w.heap.size w w' := by
  go_enter Tryd.func17, Tryd.ntmps17
  go_wp2_with fail
  go_loopw [7] (fun iv wr => ∃ j : Nat, H ≤ j ∧ j ≤ 256 ∧ iv = .int .i64 j ∧ Below w.heap.size w wr) (fun iv _ => (intOf iv).toNat)
  case atStart => exact ⟨256, hH, by omega, rfl, Below.refl _ _⟩
  case round =>
    obtain ⟨j, hj0, hj, rfl, hB⟩ := hrel
    have i1 : (j : Int) < 257 := by omega
    have i0 : (0 : Int) ≤ (j : Int) := by omega
    obtain ⟨s1, d1, e1, S1, n1⟩ := h1 j (by omega)
    obtain ⟨s2, d2, e2, S2, n2⟩ := h2 j (by omega)
    have hl1 : b1 < w.heap.size := lt_of_cell e1
    have hl2 : b2 < w.heap.size := lt_of_cell e2
    have KE := hid (fun w1 (a : Below w.heap.size w w1) => equal_any w1 (X j) (Y j) (hX j (by omega)) (hY j (by omega)) s1 s2 d1 d2 (S1.below a (Nat.le_refl _)) (S2.below a (Nat.le_refl _)))
    by_cases hq : X j = Y j
    · have hne2 : H ≠ j := fun e => by subst e; exact hne hq
      rw [decide_eq_true hq] at KE
      have jp : 1 ≤ j := by omega
      generalize (X j).length = L1 at *
      generalize (Y j).length = L2 at *
      clear hq
      go_wp2_with fail
      refine wp_region_noPanic ?_
      refine wp_region_held_drew (S := (fun w' => Below w.heap.size w w')) (by kernel_rfl) hB.drew (fun hHeld => ?_)
      refine wpAnyH_take (i := 0) (oi := { dst := some 12, op := Op.move (Operand.tmp 0), type := 56, pos := "path.go:74", after := #[], guard := none }) (v := .slice (some ⟨b1, 0, none⟩) 257 c1) rfl (by kernel_rfl) (by kernel_rfl) (by kernel_rfl) (fun _ _ _ h => h) (Or.inl ⟨by rfl, by intro w hS; go_simp⟩) hHeld ?_
      try simp only [Act.put, List.setIfInBounds_toArray, List.set_cons_zero, List.set_cons_succ]
      refine wpAnyH_take (i := 1) (oi := { dst := some 13, op := Op.move (Operand.tmp 7), type := 3, pos := "path.go:74", after := #[], guard := none }) (v := .int .i64 j) rfl (by kernel_rfl) (by kernel_rfl) (by kernel_rfl) (fun _ _ _ h => h) (Or.inl ⟨by rfl, by intro w hS; go_simp⟩) hHeld ?_
      try simp only [Act.put, List.setIfInBounds_toArray, List.set_cons_zero, List.set_cons_succ]
      refine wpAnyH_take (i := 4) (oi := { dst := some 16, op := Op.move (Operand.tmp 1), type := 56, pos := "path.go:74", after := #[], guard := none }) (v := .slice (some ⟨b2, 0, none⟩) 257 c2) rfl (by kernel_rfl) (by kernel_rfl) (by kernel_rfl) (fun _ _ _ h => h) (Or.inl ⟨by rfl, by intro w hS; go_simp⟩) hHeld ?_
      try simp only [Act.put, List.setIfInBounds_toArray, List.set_cons_zero, List.set_cons_succ]
      refine wpAnyH_take (i := 5) (oi := { dst := some 17, op := Op.move (Operand.tmp 7), type := 3, pos := "path.go:74", after := #[], guard := none }) (v := .int .i64 j) rfl (by kernel_rfl) (by kernel_rfl) (by kernel_rfl) (fun _ _ _ h => h) (Or.inl ⟨by rfl, by intro w hS; go_simp⟩) hHeld ?_
      try simp only [Act.put, List.setIfInBounds_toArray, List.set_cons_zero, List.set_cons_succ]
      refine wpAnyH_take (i := 2) (oi := { dst := some 14, op := Op.indexAddr 56 (Operand.tmp 12) (Operand.tmp 13), type := 0, pos := "path.go:74", after := #[{ on := 0, ground := Ground.data }, { on := 1, ground := Ground.data }], guard := none }) (v := .pointer (some ⟨b1, j, none⟩)) rfl (by kernel_rfl) (by kernel_rfl) (by kernel_rfl) (fun _ _ _ h => h) (Or.inl ⟨by rfl, by intro w hS; go_simp⟩) hHeld ?_
      try simp only [Act.put, List.setIfInBounds_toArray, List.set_cons_zero, List.set_cons_succ]
      refine wpAnyH_take (i := 6) (oi := { dst := some 18, op := Op.indexAddr 56 (Operand.tmp 16) (Operand.tmp 17), type := 0, pos := "path.go:74", after := #[{ on := 4, ground := Ground.data }, { on := 5, ground := Ground.data }], guard := none }) (v := .pointer (some ⟨b2, j, none⟩)) rfl (by kernel_rfl) (by kernel_rfl) (by kernel_rfl) (fun _ _ _ h => h) (Or.inl ⟨by rfl, by intro w hS; go_simp⟩) hHeld ?_
      try simp only [Act.put, List.setIfInBounds_toArray, List.set_cons_zero, List.set_cons_succ]
      refine wpAnyH_take (i := 3) (oi := { dst := some 15, op := Op.load 22 (Operand.tmp 14), type := 22, pos := "path.go:74", after := #[{ on := 2, ground := Ground.data }], guard := none }) (v := .slice s1 L1 d1) rfl (by kernel_rfl) (by kernel_rfl) (by kernel_rfl) (fun _ _ _ h => h) (Or.inl ⟨by rfl, by intro w hS; have hc := (hS.cell (p := ⟨b1, j, none⟩) hl1).trans e1; go_simp⟩) hHeld ?_
      try simp only [Act.put, List.setIfInBounds_toArray, List.set_cons_zero, List.set_cons_succ]
      refine wpAnyH_take (i := 7) (oi := { dst := some 19, op := Op.load 22 (Operand.tmp 18), type := 22, pos := "path.go:74", after := #[{ on := 6, ground := Ground.data }], guard := none }) (v := .slice s2 L2 d2) rfl (by kernel_rfl) (by kernel_rfl) (by kernel_rfl) (fun _ _ _ h => h) (Or.inl ⟨by rfl, by intro w hS; have hc := (hS.cell (p := ⟨b2, j, none⟩) hl2).trans e2; go_simp⟩) hHeld ?_
      try simp only [Act.put, List.setIfInBounds_toArray, List.set_cons_zero, List.set_cons_succ]
      refine wpAnyH_ready (rs := [8]) (by kernel_rfl) (by simp) ?_
      refine (AllReadyH.cons (o := { dst := some 20, op := Op.call { callee := Callee.value (Operand.func 16), args := #[Operand.tmp 15, Operand.tmp 19], argTypes := #[22, 22] }, type := 4, pos := "path.go:74", after := #[{ on := 3, ground := Ground.data }, { on := 7, ground := Ground.data }], guard := none }) rfl (fun K hK => ?_) AllReadyH.nil)
      go_simp
      go_at_call 16
      refine (KE.out _ hHeld).mono ?_
      rintro e w4 ⟨rfl, rfl⟩
      go_wp2_with fail
      refine hK.out _ _ (hHeld) (fun hHeld2 => ?_)
      clear hK K hHeld
      have hHeld := hHeld2
      clear hHeld2
      try simp only [Act.put, List.setIfInBounds_toArray, List.set_cons_zero, List.set_cons_succ]
      refine wpAnyH_take (i := 9) (oi := { dst := some 21, op := Op.unOp UnOp.not 4 (Operand.tmp 20), type := 4, pos := "path.go:74", after := #[{ on := 8, ground := Ground.data }], guard := none }) (v := .bool false) rfl (by kernel_rfl) (by kernel_rfl) (by kernel_rfl) (fun _ _ _ h => h) (Or.inl ⟨by rfl, by intro w hS; go_simp⟩) hHeld ?_
      try simp only [Act.put, List.setIfInBounds_toArray, List.set_cons_zero, List.set_cons_succ]
      refine wpAnyH_done (by kernel_rfl) ?_ _
      refine NoPanic.normal ?_
      have hBB := hHeld
      clear hHeld
      go_wp2_with fail
      go_roundw
      case rel => exact ⟨j - 1, by omega, by omega, by go_num, hBB⟩
      case measure => simp [intOf]; omega
    · have hjH : j = H := by
        by_cases e : j = H
        · exact e
        · exact absurd (heq j (by omega) hj) hq
      subst hjH
      rw [decide_eq_false hq] at KE
      have HS1 := hid S1
      have HS2 := hid S2
      generalize hL1 : (X j).length = L1 at *
      generalize hL2 : (Y j).length = L2 at *
      have HL1 := hid hL1
      have HL2 := hid hL2
      clear hq hne heq h1 h2 hX hY hL1 hL2 S1 S2
      go_wp2_with fail
      refine wp_region_noPanic ?_
      refine wp_region_held_drew (S := (fun w' => Below w.heap.size w w')) (by kernel_rfl) hB.drew (fun hHeld => ?_)
      refine wpAnyH_take (i := 0) (oi := { dst := some 12, op := Op.move (Operand.tmp 0), type := 56, pos := "path.go:74", after := #[], guard := none }) (v := .slice (some ⟨b1, 0, none⟩) 257 c1) rfl (by kernel_rfl) (by kernel_rfl) (by kernel_rfl) (fun _ _ _ h => h) (Or.inl ⟨by rfl, by intro w hS; go_simp⟩) hHeld ?_
      try simp only [Act.put, List.setIfInBounds_toArray, List.set_cons_zero, List.set_cons_succ]
      refine wpAnyH_take (i := 1) (oi := { dst := some 13, op := Op.move (Operand.tmp 7), type := 3, pos := "path.go:74", after := #[], guard := none }) (v := .int .i64 j) rfl (by kernel_rfl) (by kernel_rfl) (by kernel_rfl) (fun _ _ _ h => h) (Or.inl ⟨by rfl, by intro w hS; go_simp⟩) hHeld ?_
      try simp only [Act.put, List.setIfInBounds_toArray, List.set_cons_zero, List.set_cons_succ]
      refine wpAnyH_take (i := 4) (oi := { dst := some 16, op := Op.move (Operand.tmp 1), type := 56, pos := "path.go:74", after := #[], guard := none }) (v := .slice (some ⟨b2, 0, none⟩) 257 c2) rfl (by kernel_rfl) (by kernel_rfl) (by kernel_rfl) (fun _ _ _ h => h) (Or.inl ⟨by rfl, by intro w hS; go_simp⟩) hHeld ?_
      try simp only [Act.put, List.setIfInBounds_toArray, List.set_cons_zero, List.set_cons_succ]
      refine wpAnyH_take (i := 5) (oi := { dst := some 17, op := Op.move (Operand.tmp 7), type := 3, pos := "path.go:74", after := #[], guard := none }) (v := .int .i64 j) rfl (by kernel_rfl) (by kernel_rfl) (by kernel_rfl) (fun _ _ _ h => h) (Or.inl ⟨by rfl, by intro w hS; go_simp⟩) hHeld ?_
      try simp only [Act.put, List.setIfInBounds_toArray, List.set_cons_zero, List.set_cons_succ]
      refine wpAnyH_take (i := 2) (oi := { dst := some 14, op := Op.indexAddr 56 (Operand.tmp 12) (Operand.tmp 13), type := 0, pos := "path.go:74", after := #[{ on := 0, ground := Ground.data }, { on := 1, ground := Ground.data }], guard := none }) (v := .pointer (some ⟨b1, j, none⟩)) rfl (by kernel_rfl) (by kernel_rfl) (by kernel_rfl) (fun _ _ _ h => h) (Or.inl ⟨by rfl, by intro w hS; go_simp⟩) hHeld ?_
      try simp only [Act.put, List.setIfInBounds_toArray, List.set_cons_zero, List.set_cons_succ]
      refine wpAnyH_take (i := 6) (oi := { dst := some 18, op := Op.indexAddr 56 (Operand.tmp 16) (Operand.tmp 17), type := 0, pos := "path.go:74", after := #[{ on := 4, ground := Ground.data }, { on := 5, ground := Ground.data }], guard := none }) (v := .pointer (some ⟨b2, j, none⟩)) rfl (by kernel_rfl) (by kernel_rfl) (by kernel_rfl) (fun _ _ _ h => h) (Or.inl ⟨by rfl, by intro w hS; go_simp⟩) hHeld ?_
      try simp only [Act.put, List.setIfInBounds_toArray, List.set_cons_zero, List.set_cons_succ]
      refine wpAnyH_take (i := 3) (oi := { dst := some 15, op := Op.load 22 (Operand.tmp 14), type := 22, pos := "path.go:74", after := #[{ on := 2, ground := Ground.data }], guard := none }) (v := .slice s1 L1 d1) rfl (by kernel_rfl) (by kernel_rfl) (by kernel_rfl) (fun _ _ _ h => h) (Or.inl ⟨by rfl, by intro w hS; have hc := (hS.cell (p := ⟨b1, j, none⟩) hl1).trans e1; go_simp⟩) hHeld ?_
      try simp only [Act.put, List.setIfInBounds_toArray, List.set_cons_zero, List.set_cons_succ]
      refine wpAnyH_take (i := 7) (oi := { dst := some 19, op := Op.load 22 (Operand.tmp 18), type := 22, pos := "path.go:74", after := #[{ on := 6, ground := Ground.data }], guard := none }) (v := .slice s2 L2 d2) rfl (by kernel_rfl) (by kernel_rfl) (by kernel_rfl) (fun _ _ _ h => h) (Or.inl ⟨by rfl, by intro w hS; have hc := (hS.cell (p := ⟨b2, j, none⟩) hl2).trans e2; go_simp⟩) hHeld ?_
      try simp only [Act.put, List.setIfInBounds_toArray, List.set_cons_zero, List.set_cons_succ]
      refine wpAnyH_ready (rs := [8]) (by kernel_rfl) (by simp) ?_
      refine (AllReadyH.cons (o := { dst := some 20, op := Op.call { callee := Callee.value (Operand.func 16), args := #[Operand.tmp 15, Operand.tmp 19], argTypes := #[22, 22] }, type := 4, pos := "path.go:74", after := #[{ on := 3, ground := Ground.data }, { on := 7, ground := Ground.data }], guard := none }) rfl (fun K hK => ?_) AllReadyH.nil)
      go_simp
      go_at_call 16
      refine (KE.out _ hHeld).mono ?_
      rintro e w4 ⟨rfl, rfl⟩
      go_wp2_with fail
      refine hK.out _ _ (hHeld) (fun hHeld2 => ?_)
      clear hK K hHeld
      have hHeld := hHeld2
      clear hHeld2
      try simp only [Act.put, List.setIfInBounds_toArray, List.set_cons_zero, List.set_cons_succ]
      refine wpAnyH_take (i := 9) (oi := { dst := some 21, op := Op.unOp UnOp.not 4 (Operand.tmp 20), type := 4, pos := "path.go:74", after := #[{ on := 8, ground := Ground.data }], guard := none }) (v := .bool true) rfl (by kernel_rfl) (by kernel_rfl) (by kernel_rfl) (fun _ _ _ h => h) (Or.inl ⟨by rfl, by intro w hS; go_simp⟩) hHeld ?_
      try simp only [Act.put, List.setIfInBounds_toArray, List.set_cons_zero, List.set_cons_succ]
      refine wpAnyH_done (by kernel_rfl) ?_ _
      refine NoPanic.normal ?_
      have hBB := hHeld
      clear hHeld
      go_wp2_with fail
      refine wp_region_noPanic ?_
      refine wp_region_held_drew (S := (fun w' => Below w.heap.size w w')) (by kernel_rfl) hBB.drew (fun hHeld => ?_)
      refine wpAnyH_take (i := 0) (oi := { dst := some 22, op := Op.move (Operand.tmp 0), type := 56, pos := "path.go:75", after := #[], guard := none }) (v := .slice (some ⟨b1, 0, none⟩) 257 c1) rfl (by kernel_rfl) (by kernel_rfl) (by kernel_rfl) (fun _ _ _ h => h) (Or.inl ⟨by rfl, by intro w hS; go_simp⟩) hHeld ?_
      try simp only [Act.put, List.setIfInBounds_toArray, List.set_cons_zero, List.set_cons_succ]
      refine wpAnyH_take (i := 1) (oi := { dst := some 23, op := Op.move (Operand.tmp 7), type := 3, pos := "path.go:75", after := #[], guard := none }) (v := .int .i64 j) rfl (by kernel_rfl) (by kernel_rfl) (by kernel_rfl) (fun _ _ _ h => h) (Or.inl ⟨by rfl, by intro w hS; go_simp⟩) hHeld ?_
      try simp only [Act.put, List.setIfInBounds_toArray, List.set_cons_zero, List.set_cons_succ]
      refine wpAnyH_take (i := 4) (oi := { dst := some 26, op := Op.move (Operand.tmp 1), type := 56, pos := "path.go:75", after := #[{ on := 8, ground := Ground.gcOnly Departure.lateStores }], guard := none }) (v := .slice (some ⟨b2, 0, none⟩) 257 c2) rfl (by kernel_rfl) (by kernel_rfl) (by kernel_rfl) (fun _ _ _ h => h) (Or.inl ⟨by rfl, by intro w hS; go_simp⟩) hHeld ?_
      try simp only [Act.put, List.setIfInBounds_toArray, List.set_cons_zero, List.set_cons_succ]
      refine wpAnyH_take (i := 5) (oi := { dst := some 27, op := Op.move (Operand.tmp 7), type := 3, pos := "path.go:75", after := #[{ on := 8, ground := Ground.gcOnly Departure.lateStores }], guard := none }) (v := .int .i64 j) rfl (by kernel_rfl) (by kernel_rfl) (by kernel_rfl) (fun _ _ _ h => h) (Or.inl ⟨by rfl, by intro w hS; go_simp⟩) hHeld ?_
      try simp only [Act.put, List.setIfInBounds_toArray, List.set_cons_zero, List.set_cons_succ]
      refine wpAnyH_take (i := 2) (oi := { dst := some 24, op := Op.indexAddr 56 (Operand.tmp 22) (Operand.tmp 23), type := 0, pos := "path.go:75", after := #[{ on := 0, ground := Ground.data }, { on := 1, ground := Ground.data }], guard := none }) (v := .pointer (some ⟨b1, j, none⟩)) rfl (by kernel_rfl) (by kernel_rfl) (by kernel_rfl) (fun _ _ _ h => h) (Or.inl ⟨by rfl, by intro w hS; go_simp⟩) hHeld ?_
      try simp only [Act.put, List.setIfInBounds_toArray, List.set_cons_zero, List.set_cons_succ]
      refine wpAnyH_take (i := 6) (oi := { dst := some 28, op := Op.indexAddr 56 (Operand.tmp 26) (Operand.tmp 27), type := 0, pos := "path.go:75", after := #[{ on := 4, ground := Ground.data }, { on := 5, ground := Ground.data }, { on := 8, ground := Ground.gcOnly Departure.lateStores }], guard := none }) (v := .pointer (some ⟨b2, j, none⟩)) rfl (by kernel_rfl) (by kernel_rfl) (by kernel_rfl) (fun _ _ _ h => h) (Or.inl ⟨by rfl, by intro w hS; go_simp⟩) hHeld ?_
      try simp only [Act.put, List.setIfInBounds_toArray, List.set_cons_zero, List.set_cons_succ]
      refine wpAnyH_take (i := 3) (oi := { dst := some 25, op := Op.load 22 (Operand.tmp 24), type := 22, pos := "path.go:75", after := #[{ on := 2, ground := Ground.data }], guard := none }) (v := .slice s1 L1 d1) rfl (by kernel_rfl) (by kernel_rfl) (by kernel_rfl) (fun _ _ _ h => h) (Or.inl ⟨by rfl, by intro w hS; have hc := (hS.cell (p := ⟨b1, j, none⟩) hl1).trans e1; go_simp⟩) hHeld ?_
      try simp only [Act.put, List.setIfInBounds_toArray, List.set_cons_zero, List.set_cons_succ]
      refine wpAnyH_take (i := 7) (oi := { dst := some 29, op := Op.load 22 (Operand.tmp 28), type := 22, pos := "path.go:75", after := #[{ on := 6, ground := Ground.data }, { on := 8, ground := Ground.gcOnly Departure.lateStores }], guard := none }) (v := .slice s2 L2 d2) rfl (by kernel_rfl) (by kernel_rfl) (by kernel_rfl) (fun _ _ _ h => h) (Or.inl ⟨by rfl, by intro w hS; have hc := (hS.cell (p := ⟨b2, j, none⟩) hl2).trans e2; go_simp⟩) hHeld ?_
      try simp only [Act.put, List.setIfInBounds_toArray, List.set_cons_zero, List.set_cons_succ]
      refine wpAnyH_take (i := 8) (oi := { dst := some 4, op := Op.assign (Operand.tmp 25), type := 22, pos := "path.go:75", after := #[{ on := 3, ground := Ground.data }, { on := 0, ground := Ground.phase }, { on := 1, ground := Ground.phase }, { on := 2, ground := Ground.phase }, { on := 3, ground := Ground.phase }, { on := 4, ground := Ground.textOnly Departure.lateStores }, { on := 5, ground := Ground.textOnly Departure.lateStores }, { on := 6, ground := Ground.textOnly Departure.lateStores }, { on := 7, ground := Ground.textOnly Departure.lateStores }], guard := none }) (v := .slice s1 L1 d1) rfl (by kernel_rfl) (by kernel_rfl) (by kernel_rfl) (fun _ _ _ h => h) (Or.inl ⟨by rfl, by intro w hS; go_simp⟩) hHeld ?_
      try simp only [Act.put, List.setIfInBounds_toArray, List.set_cons_zero, List.set_cons_succ]
      refine wpAnyH_take (i := 9) (oi := { dst := some 5, op := Op.assign (Operand.tmp 29), type := 22, pos := "path.go:75", after := #[{ on := 7, ground := Ground.data }, { on := 8, ground := Ground.chain }, { on := 0, ground := Ground.phase }, { on := 1, ground := Ground.phase }, { on := 2, ground := Ground.phase }, { on := 3, ground := Ground.phase }, { on := 4, ground := Ground.phase }, { on := 5, ground := Ground.phase }, { on := 6, ground := Ground.phase }, { on := 7, ground := Ground.phase }, { on := 8, ground := Ground.phase }], guard := none }) (v := .slice s2 L2 d2) rfl (by kernel_rfl) (by kernel_rfl) (by kernel_rfl) (fun _ _ _ h => h) (Or.inl ⟨by rfl, by intro w hS; go_simp⟩) hHeld ?_
      try simp only [Act.put, List.setIfInBounds_toArray, List.set_cons_zero, List.set_cons_succ]
      refine wpAnyH_take (i := 10) (oi := { dst := some 6, op := Op.assign (Operand.const (Value.bool true)), type := 4, pos := "path.go:75", after := #[{ on := 9, ground := Ground.chain }, { on := 0, ground := Ground.phase }, { on := 1, ground := Ground.phase }, { on := 2, ground := Ground.phase }, { on := 3, ground := Ground.phase }, { on := 4, ground := Ground.phase }, { on := 5, ground := Ground.phase }, { on := 6, ground := Ground.phase }, { on := 7, ground := Ground.phase }, { on := 8, ground := Ground.phase }, { on := 9, ground := Ground.phase }], guard := none }) (v := .bool true) rfl (by kernel_rfl) (by kernel_rfl) (by kernel_rfl) (fun _ _ _ h => h) (Or.inl ⟨by rfl, by intro w hS; go_simp⟩) hHeld ?_
      try simp only [Act.put, List.setIfInBounds_toArray, List.set_cons_zero, List.set_cons_succ]
      refine wpAnyH_done (by kernel_rfl) ?_ _
      refine NoPanic.normal ?_
      go_wp2_with fail
      exact bodyPost_ret (results_tmp3 Tryd.results17 _ _ _) rfl ⟨s1, d1, s2, d2, by rw [HL1.out, HL2.out]; rfl, HS1.out.below hHeld (Nat.le_refl _), HS2.out.below hHeld (Nat.le_refl _), hHeld⟩
end Go.Proofs.YtblcpcfonnaiiaaDoor
