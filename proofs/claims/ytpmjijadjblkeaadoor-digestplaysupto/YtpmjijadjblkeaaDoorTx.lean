import Derived.Test.YtpmjijadjblkeaaDoorTw
namespace Go.Proofs.YtpmjijadjblkeaaDoor
set_option linter.unusedVariables false
set_option linter.unusedSimpArgs false
open Go.RowKit
attribute [local go_sem ↓] Go.wp_at_zero Go.wp_at_succ

set_option maxRecDepth 100000 in
set_option maxHeartbeats 400000 in
theorem copiedW_any (w : World) (zs : List Int) (sp : Option Addr) (cap : Nat) (hS : Src w sp cap zs) (hnil : sp = none → cap = 0) (hlen : zs.length ≤ 140737488351232) :
    Calls Tryd.prog 14 #[.slice sp zs.length cap] w fun e w' => ∃ v, e = .returned v ∧ Own w' w.heap.size v zs ∧ Below w.heap.size w w' := by
  obtain ⟨i5, hi5, hz5, hs5, hy5⟩ := Tryd.info5
  have HI := hid hi5
  clear hi5
  have hO := Own.nil w w.heap.size
  cases sp with
  | none =>
    obtain rfl := hnil rfl
    obtain rfl : zs = [] := List.eq_nil_of_length_eq_zero (by have := hS.1; omega)
    go_enter Tryd.func14, Tryd.ntmps14
    go_wp2_with (first | (at_builtin; refine wpList_append_own_none rfl (.tmp 4) (.tmp 5) 26 rfl w.heap.size 5 i5 1 Tryd.underlying26 HI.out _ _ _ rfl hO rfl ?_))
    go_ret
    exact ⟨_, rfl, hO, Below.refl _ _⟩
  | some ad =>
    have A1 := hid (src_news hS)
    have A2 : Hid ((ints .u8 zs).length = zs.length * 1) := by show _ = _; rw [ints_len]; omega
    have A3 := hid (ints_one .u8 zs)
    have h63 : ([] : List Int).length + zs.length ≤ maxLen := by unfold maxLen; simp; omega
    have hby : (([] : List Int).length + zs.length) * 1 ≤ 140737488355328 := by simp; omega
    have A4 := hid h63
    have A5 := hid hby
    clear h63 hby
    go_enter Tryd.func14, Tryd.ntmps14
    go_wp2_with (first | (at_builtin; refine wpList_append_own _ rfl (.tmp 4) (.tmp 5) 26 rfl w.heap.size 5 i5 (.int .u8 0) 1 1 Tryd.underlying26 HI.out hz5 hs5 hy5 rfl Nat.one_pos (.slice none 0 0) ([] : List Int).length (ints .u8 []) rfl hO ad zs.length cap (ints .u8 zs) rfl A2.out A1.out A3.out A4.out A5.out (Nat.le_refl _) ?_; intro v' w5 hO5 hg5 _))
    go_ret
    exact ⟨_, rfl, (by have := Own.mk_append hO5; rwa [List.nil_append] at this), grown_keeps hg5 (fun k hk => by simp [Value.ownBlock] at hk) (Nat.le_refl _)⟩


/-- append(own, src...), src nil or not. -/
theorem wpList_append_wide {w : World} {ops : Array Oper} {rest : List Oper} {o : Oper} {a : Act} {Q : Exit → Act → World → Prop} (hgd : o.guard = none) (s x : Operand)
    (ho : o.op = .call { callee := .builtin .append, args := #[s, x], argTypes := #[26, 26] })
    (base : Nat) (v : Value) (zs ys : List Int) (hs : a.eval s = v) (hown : Own w base v zs) (sp : Option Addr) (c : Nat) (hx : a.eval x = .slice sp ys.length c) (hnil : sp = none → c = 0) (hS : Src w sp c ys)
    (hlen : zs.length + ys.length ≤ 140737488351232) (hbase : base ≤ w.heap.size)
    (h : ∀ v' w', Own w' base v' (zs ++ ys) → w.grownBy w' v.ownBlock → (v'.ownBlock = v.ownBlock ∨ v'.ownBlock = some w.heap.size) → wpList Tryd.prog ops Q rest (a.put o.dst v') w') :
    wpList Tryd.prog ops Q (o :: rest) a w := by
  obtain ⟨i5, hi5, hz5, hs5, hy5⟩ := Tryd.info5
  cases sp with
  | none =>
    obtain rfl := hnil rfl
    obtain rfl : ys = [] := List.eq_nil_of_length_eq_zero (by have := hS.1; omega)
    refine wpList_append_own_none hgd s x 26 ho base 5 i5 1 Tryd.underlying26 hi5 v _ _ hs hown hx (h v w ?_ ⟨rfl, rfl, rfl, Nat.le_refl _, fun _ _ _ => rfl⟩ (Or.inl rfl))
    rw [List.append_nil]; exact hown
  | some ad =>
    refine wpList_append_own_at _ hgd s x 26 ho base 5 i5 (.int .u8 0) 1 1 Tryd.underlying26 hi5 hz5 hs5 hy5 rfl Nat.one_pos v zs.length (ints .u8 zs) hs hown ad ys.length c (ints .u8 ys) hx (by rw [ints_len]; omega) (src_news hS) (ints_one _ _) (by unfold maxLen; omega) (by omega) hbase ?_
    intro v' w' h1 h2 _ h4
    exact h v' w' (Own.mk_append h1) h2 h4

theorem own_pushes {w : World} {base : Nat} {v : Value} {zs : List Int} (h : Own w base v zs) (o : Obj) : Own (w.alloc o) base v zs := h.below ((Below.refl w.heap.size w).alloc (Nat.le_refl _) o) (Nat.le_refl _)
/-- append(own, x): the one behind the list lies in a block of its own. -/
theorem wpList_push_any {w : World} {ops : Array Oper} {rest : List Oper} {o : Oper} {a : Act} {Q : Exit → Act → World → Prop} (hgd : o.guard = none) (s x : Operand)
    (ho : o.op = .call { callee := .builtin .append, args := #[s, x], argTypes := #[26, 26] })
    (base : Nat) (v : Value) (zs : List Int) (y : Int) (hs : a.eval s = v) (hown : Own w base v zs) (hx : a.eval x = .slice (some ⟨w.heap.size, 0, none⟩) 1 1)
    (hlen : zs.length + 1 ≤ 140737488355328) (hbase : base ≤ w.heap.size) (t : TypeId) (fr : Nat × Nat)
    (h : ∀ v' w', Own w' base v' (zs ++ [y]) → Below base w w' → wpList Tryd.prog ops Q rest (a.put o.dst v') w') :
    wpList Tryd.prog ops Q (o :: rest) a (w.alloc (.cells #[.int .u8 y] t fr)) := by
  obtain ⟨i5, hi5, hz5, hs5, hy5⟩ := Tryd.info5
  refine wpList_append_own_at _ hgd s x 26 ho base 5 i5 (.int .u8 0) 1 1 Tryd.underlying26 hi5 hz5 hs5 hy5 rfl Nat.one_pos v zs.length (ints .u8 zs) hs (own_pushes hown _) ⟨w.heap.size, 0, none⟩ 1 1 (ints .u8 [y]) hx rfl ?_ (ints_one _ _) (by unfold maxLen; omega) (by omega) (by simp; omega) ?_
  · intro j u hu
    have hj : j = 0 := by
      have := (List.getElem?_eq_some_iff.1 hu).1
      simp [ints] at this; exact this
    subst hj
    rw [show (⟨w.heap.size, 0, none⟩ : Addr).add 0 = ⟨w.heap.size, 0, none⟩ from rfl, cell_of_row _ _ _ _ _ _ (hnew w _)]
    simpa [ints] using hu
  · intro v' w' h1 h2 _ h4
    have hB1 : Below base w (w.alloc (.cells #[.int .u8 y] t fr)) := (Below.refl _ _).alloc hbase _
    exact h v' w' (Own.mk_append (ys := [y]) h1) (hB1.trans (grown_keeps h2 (fun k hk => (hown.block k hk).1) (by simp; omega)))

/-- The length's bytes, the highest first. -/
def lenBy (L : Int) : List Int := [lb L 7, lb L 6, lb L 5, lb L 4, lb L 3, lb L 2, lb L 1, lb L 0]
/-- How many zeros come behind. -/
def zrs (m : List Int) : Nat := (119 - m.length % 64) % 64
def filledF (m : List Int) : List Int := m ++ [128] ++ List.replicate (zrs m) 0 ++ lenBy (lenBits m.length)
def slen : Value → Nat | .slice _ n _ => n | _ => 0
theorem lenBy_succ (L : Int) (n : Nat) (hn : n < 8) : (lenBy L).take (n + 1) = (lenBy L).take n ++ [L / 2 ^ (56 - 8 * n) % 256] := by
  have h : ∀ i : Nat, lb L i = L / 2 ^ (8 * i) % 256 := fun i => by
    rw [lb, IntKind.wrap_u8]; congr 2
  match n, hn with
  | 0, _ => simp [lenBy, h]
  | 1, _ => simp [lenBy, h]
  | 2, _ => simp [lenBy, h]
  | 3, _ => simp [lenBy, h]
  | 4, _ => simp [lenBy, h]
  | 5, _ => simp [lenBy, h]
  | 6, _ => simp [lenBy, h]
  | 7, _ => simp [lenBy, h]

set_option maxRecDepth 100000 in
set_option maxHeartbeats 1000000 in
theorem rfilled_any (w : World) (zs : List Int) (sp : Option Addr) (cap : Nat) (hS : Src w sp cap zs) (hnil : sp = none → cap = 0) (hlen : zs.length ≤ 140737488351232) (h0 : 0 < w.heap.size) :
    Calls Tryd.prog 26 #[.slice sp zs.length cap] w fun e w' => ∃ v, e = .returned v ∧ Own w' w.heap.size v (filledF zs) ∧ Below w.heap.size w w' := by
  have hO := Own.nil w w.heap.size
  have hln : ([] : List Int).length + zs.length ≤ 140737488351232 := by simp; omega
  have KL := hid hln
  clear hln
  go_enter Tryd.func26, Tryd.ntmps26
  have KL2 := hid (show ([] ++ zs).length + 1 ≤ 140737488355328 by simp; omega)
  go_wp2_with (first | (at_builtin; refine wpList_append_wide rfl (.tmp 6) (.tmp 7) rfl w.heap.size (.slice none 0 0) [] zs rfl hO sp cap rfl hnil hS KL.out (Nat.le_refl _) ?_; intro v1 w1 hO1 hg1 _; have hB1 := grown_keeps hg1 (fun k hk => by simp [Value.ownBlock] at hk) (Nat.le_refl w.heap.size); clear hg1) | (at_builtin; refine wpList_push_any rfl (.tmp 9) (.tmp 10) rfl w.heap.size _ _ 128 rfl hO1 rfl KL2.out hB1.size _ _ ?_; intro v2 w2 hO2 hB2))
  rw [List.nil_append] at hO2
  have hB3 := hB1.trans hB2
  go_loopw [3] (fun v wr => ∃ n : Nat, n ≤ zrs zs ∧ Own wr w.heap.size v (zs ++ [128] ++ List.replicate n 0) ∧ Below w.heap.size w wr) (fun v _ => zrs zs + zs.length + 1 - slen v)
  case atStart => exact ⟨0, by omega, by rw [List.replicate_zero, List.append_nil]; exact hO2, hB3⟩
  case round =>
    clear hO1 hB1 hO2 hB2 hB3 KL KL2
    obtain ⟨n, hn, hOn, hBn⟩ := hrel
    have hl := hid (show (zs ++ [128] ++ List.replicate n 0).length = zs.length + 1 + n by simp; omega)
    have hz : zrs zs < 64 := Nat.mod_lt _ (by omega)
    have KL2 := hid (show (zs ++ [128] ++ List.replicate n 0).length + 1 ≤ 140737488355328 by rw [hl.out]; omega)
    obtain ⟨sp1, cap1, rfl, hS1, hn1⟩ := hOn.form (Nat.lt_of_lt_of_le h0 hBn.size)
    by_cases hlt : n < zrs zs
    · have hne : ¬ (((zs ++ [128] ++ List.replicate n 0).length : Int) % 64 = 56) := by
        rw [hl.out]; unfold zrs at hlt; omega
      replace hne : (((zs ++ [128] ++ List.replicate n 0).length : Int) % 64 != 56) = true := by simpa using hne
      have HF := hid (show zs ++ [128] ++ List.replicate n 0 ++ [0] = zs ++ [128] ++ List.replicate (n + 1) 0 by rw [List.replicate_succ', ← List.append_assoc])
      generalize zs ++ [128] ++ List.replicate n 0 = fz at *
      go_wp2_with (first | (at_builtin; refine wpList_push_any rfl (.tmp 16) (.tmp 17) rfl w.heap.size _ _ 0 rfl hOn rfl KL2.out hBn.size _ _ ?_; intro v2 w2 hO2 hB2))
      go_roundw
      case rel => exact ⟨n + 1, by omega, (by rw [← HF.out]; exact hO2), hBn.trans hB2⟩
      case measure =>
        obtain ⟨sp2, cap2, rfl, _, _⟩ := hO2.form (Nat.lt_of_lt_of_le h0 (hBn.trans hB2).size)
        simp only [slen, List.length_append, hl.out, List.length_cons, List.length_nil]; omega
    · obtain rfl : n = zrs zs := by omega
      have hne : ((zs ++ [128] ++ List.replicate (zrs zs) 0).length : Int) % 64 = 56 := by
        rw [hl.out]; unfold zrs; omega
      have hL := lenBits_bd zs.length
      have HL := hid (show IntKind.u64.wrap ((zs.length : Int) * 8) = lenBits zs.length from rfl)
      have i1 : (zs.length : Int) ≤ 140737488351232 := by omega
      have KF := hid (show filledF zs = zs ++ [128] ++ List.replicate (zrs zs) 0 ++ lenBy (lenBits zs.length) from rfl)
      have hL2 := hid (show lenBits zs.length = (zs.length : Int) * 8 by rw [lenBits, IntKind.wrap_u64]; omega)
      generalize zs ++ [128] ++ List.replicate (zrs zs) 0 = fz at *
      generalize lenBits zs.length = L at *
      go_wp2
      go_loopw [3, 5] (fun v i wr => ∃ n : Nat, n ≤ 8 ∧ i = .int .i64 n ∧ Own wr w.heap.size v (fz ++ (lenBy L).take n) ∧ Below w.heap.size w wr) (fun _ i _ => 8 - (intOf i).toNat)
      case atStart => exact ⟨0, by omega, rfl, by rw [List.take_zero, List.append_nil]; exact hOn, hBn⟩
      case round =>
        clear hOn hBn hne
        obtain ⟨n, hn, rfl, hOn, hBn⟩ := hrel
        by_cases hlt : n < 8
        · have i1 : (n : Int) < 8 := by omega
          have KS := hid (lenBy_succ L n hlt)
          have KL3 := hid (show (fz ++ (lenBy L).take n).length + 1 ≤ 140737488355328 by rw [List.length_append, hl.out, List.length_take]; omega)
          go_wp2_with (first | (at_builtin; refine wpList_push_any rfl (.tmp 27) (.tmp 35) rfl w.heap.size _ _ _ rfl hOn rfl KL3.out hBn.size _ _ ?_; intro v2 w2 hO2 hB2))
          rw [← hL2.out, List.append_assoc, ← KS.out] at hO2
          go_roundw
          case rel => exact ⟨n + 1, by omega, by go_num, hO2, hBn.trans hB2⟩
          case measure => simp [intOf]; omega
        · obtain rfl : n = 8 := by omega
          clear hlt
          rw [show (lenBy L).take 8 = lenBy L from rfl, ← KF.out] at hOn
          go_wp2
          go_ret
          exact ⟨_, rfl, hOn, hBn⟩

theorem lenTo8 (A : List Int) (b0 b1 b2 b3 b4 b5 b6 b7 L : Int) (h : A.length = 56) : lenTo (A ++ [b0, b1, b2, b3, b4, b5, b6, b7]) L 8 = A ++ lenBy L := by
  simp [lenTo, lenBy, List.set_append_right, h]
theorem stOf_filled (m : List Int) : stOf (filledF m) = padS (stOf m) (padz (restOf m) 64) m.length := by
  have hr := restOf_len m
  have h64 : m.length % 64 < 64 := Nat.mod_lt _ (by omega)
  have et : ((m.length : Int) % 64).toNat = (restOf m).length := by rw [hr]; omega
  have es : (padz (restOf m) 64).set (restOf m).length 128 = restOf m ++ 128 :: List.replicate (63 - (restOf m).length) 0 := by
    rw [padz, List.set_append_right _ _ (Nat.le_refl _), Nat.sub_self, show 64 - (restOf m).length = (63 - (restOf m).length) + 1 by omega, List.replicate_succ, List.set_cons_zero]
  unfold padS
  rw [et, es]
  by_cases c : (m.length : Int) % 64 < 56
  · rw [if_pos c]
    have e1 : restOf m ++ 128 :: List.replicate (63 - (restOf m).length) 0 = (restOf m ++ 128 :: List.replicate (55 - (restOf m).length) 0) ++ [0, 0, 0, 0, 0, 0, 0, 0] := by
      rw [show 63 - (restOf m).length = (55 - (restOf m).length) + 8 by omega, ← List.replicate_append_replicate, List.append_assoc]; rfl
    rw [e1, lenTo8 _ _ _ _ _ _ _ _ _ _ (by simp; omega)]
    have e2 : filledF m = m ++ (128 :: List.replicate (55 - (restOf m).length) 0 ++ lenBy (lenBits m.length)) := by
      rw [filledF, show zrs m = 55 - (restOf m).length by unfold zrs; omega]; simp
    rw [e2, (text_full m _ (by simp [lenBy]; omega)).1, List.append_assoc]
  · rw [if_neg c]
    have e1 : z64 = List.replicate 56 0 ++ [0, 0, 0, 0, 0, 0, 0, 0] := rfl
    rw [e1, lenTo8 _ _ _ _ _ _ _ _ _ _ (by simp)]
    have e2 : filledF m = (m ++ 128 :: List.replicate (63 - (restOf m).length) 0) ++ (List.replicate 56 0 ++ lenBy (lenBits m.length)) := by
      rw [filledF, show zrs m = (63 - (restOf m).length) + 56 by unfold zrs; omega, ← List.replicate_append_replicate]; simp
    have t := text_full m (128 :: List.replicate (63 - (restOf m).length) 0) (by simp; omega)
    rw [e2, (text_full _ (List.replicate 56 0 ++ lenBy (lenBits m.length)) (by rw [t.2]; simp [lenBy])).1, t.1, t.2, List.nil_append]
theorem filledF_len (m : List Int) : (filledF m).length % 64 = 0 ∧ m.length + 9 ≤ (filledF m).length ∧ (filledF m).length ≤ m.length + 72 := by
  have : (filledF m).length = m.length + 1 + zrs m + 8 := by simp [filledF, lenBy]; omega
  rw [this]; unfold zrs; omega
end Go.Proofs.YtpmjijadjblkeaaDoor
