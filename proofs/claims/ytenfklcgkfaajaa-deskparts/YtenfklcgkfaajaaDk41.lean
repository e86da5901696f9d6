import Derived.Test.YtenfklcgkfaajaaDk40
namespace Go.Proofs.Ytenfklcgkfaajaa
set_option linter.unusedVariables false
set_option linter.unusedSimpArgs false
open Go.RowKit
attribute [local go_sem ↓] Go.wp_at_zero Go.wp_at_succ

/-- What an own row's growth leaves: every other block, and the row lies in none of them. -/
def Away (w : World) (v : Value) (w' : World) (v' : Value) : Prop := ∀ k, k < w.heap.size → v.ownBlock ≠ some k → w'.heap[k]? = w.heap[k]? ∧ v'.ownBlock ≠ some k
theorem Away.trans {w w1 w2 : World} {v v1 v2 : Value} (a : Away w v w1 v1) (b : Away w1 v1 w2 v2) (hs : w.heap.size ≤ w1.heap.size) : Away w v w2 v2 := fun k hk he => by
  obtain ⟨p, q⟩ := a k hk he
  obtain ⟨r, s⟩ := b k (by omega) q
  exact ⟨r.trans p, s⟩
theorem away_grown {w w' : World} {v v' : Value} (hg : w.grownBy w' v.ownBlock) (hd : v'.ownBlock = v.ownBlock ∨ v'.ownBlock = some w.heap.size) : Away w v w' v' := fun k hk he =>
  ⟨hg.block k hk (fun e => he e.symm), fun e => by
    rcases hd with h | h
    · rw [h] at e; exact he e
    · rw [h] at e; injection e with e; omega⟩
theorem wpList_push_away {w : World} {ops : Array Oper} {rest : List Oper} {o : Oper} {a : Act} {Q : Exit → Act → World → Prop} (hgd : o.guard = none) (s x : Operand)
    (ho : o.op = .call { callee := .builtin .append, args := #[s, x], argTypes := #[22, 22] })
    (base : Nat) (v : Value) (zs : List Int) (y : Int) (hs : a.eval s = v) (hown : Own w base v zs) (hx : a.eval x = .slice (some ⟨w.heap.size, 0, none⟩) 1 1)
    (hlen : zs.length + 1 ≤ 140737488355328) (hbase : base ≤ w.heap.size) (t : TypeId) (fr : Nat × Nat)
    (h : ∀ v' w', Own w' base v' (zs ++ [y]) → Below base w w' → Away w v w' v' → wpList Try.prog ops Q rest (a.put o.dst v') w') :
    wpList Try.prog ops Q (o :: rest) a (w.alloc (.cells #[.int .u8 y] t fr)) := by
  obtain ⟨i5, hi5, hz5, hs5, hy5⟩ := Try.info5
  refine wpList_append_own_at _ hgd s x 22 ho base 5 i5 (.int .u8 0) 1 1 Try.underlying22 hi5 hz5 hs5 hy5 rfl Nat.one_pos v zs.length (ints .u8 zs) hs (own_pushes hown _) ⟨w.heap.size, 0, none⟩ 1 1 (ints .u8 [y]) hx rfl ?_ (ints_one _ _) (by unfold maxLen; omega) (by omega) (by simp; omega) ?_
  · intro j u hu
    have hj : j = 0 := by
      have := (List.getElem?_eq_some_iff.1 hu).1
      simp [ints] at this; exact this
    subst hj
    rw [show (⟨w.heap.size, 0, none⟩ : Addr).add 0 = ⟨w.heap.size, 0, none⟩ from rfl, cell_of_row _ _ _ _ _ _ (hnew w _)]
    simpa [ints] using hu
  · intro v' w' h1 h2 h3 h4
    have hA : Away w v w' v' := fun k hk he => by
      obtain ⟨p, q⟩ := away_grown h2 h4 k (by simp; omega) he
      exact ⟨p.trans ((hold (Array.getElem?_eq_getElem hk)).trans (Array.getElem?_eq_getElem hk).symm), q⟩
    have hB1 : Below base w (w.alloc (.cells #[.int .u8 y] t fr)) := (Below.refl _ _).alloc hbase _
    exact h v' w' (Own.mk_append (ys := [y]) h1) (hB1.trans (grown_keeps h2 (fun k hk => (hown.block k hk).1) (by simp; omega))) hA
set_option maxRecDepth 100000 in
set_option maxHeartbeats 4000000 in
theorem appendChanges_any (w0 w : World) (base : Nat) (v : Value) (zs : List Int) (hO : Own w base v zs) (hb : base ≤ w.heap.size) (hl : zs.length ≤ 1000) (xs : List Cg) (sp : Option Addr) (cap : Nat) (hI : ElI true w0 sp cap xs) (h0 : Below w0.heap.size w0 w) (hb0 : w0.heap.size ≤ base) (hF : lsF true xs = true) :
    Calls Try.prog 64 #[v, .slice sp xs.length cap] w fun e w' => ∃ v', e = .returned v' ∧ Own w' base v' (zs ++ lsB true xs) ∧ Below base w w' := by
  have hln : xs.length ≤ 4096 := by unfold lsF at hF; simp at hF; omega
  have hfa : ∀ x ∈ xs, elF true x = true := by unfold lsF at hF; simp at hF; exact fun x hx => hF.2 x hx
  obtain ⟨nl, _, _, b, o, hbo, hel⟩ := hI
  have hall : ∀ x ∈ xs, x.key.length = 32 ∧ elF true x = true := fun x hx => by
    obtain ⟨i, hi, e⟩ := List.mem_iff_getElem.1 hx
    obtain ⟨_, _, _, r2, _⟩ := hel i hi
    rw [List.getD_eq_getElem?_getD, List.getElem?_eq_getElem hi] at r2
    simp only [Option.getD_some] at r2
    rw [e] at r2
    exact ⟨r2, hfa x hx⟩
  have KA := hid (appendNumber_any w base v zs (xs.length : Int) 4 (by omega) (by omega) (by omega) hO hb (by omega))
  have i0 : (xs.length : Int) ≤ 4096 := by omega
  go_enter Try.func64, Try.ntmps64
  go_wp2_with fail
  refine KA.out.mono ?_
  rintro e w1 ⟨v1, rfl, O1, hB1⟩
  clear KA
  go_wp2
  go_loopw [0, 13] (fun v' i wr => ∃ k : Nat, k ≤ xs.length ∧ i = .int .i64 k ∧ Own wr base v' (zs ++ lowN (xs.length : Int) 4 ++ (xs.take k).flatMap (elB true)) ∧ Below base w wr) (fun _ i _ => xs.length - (intOf i).toNat)
  case atStart => exact ⟨0, Nat.zero_le _, rfl, by simpa using O1, hB1⟩
  case round =>
    clear O1 hB1
    obtain ⟨k, hk, rfl, hOr, hBr⟩ := hrel
    by_cases hlt' : k < xs.length
    · have i1 : (k : Int) < (xs.length : Int) := by omega
      obtain ⟨rfl, hbl⟩ := hbo (by omega)
      obtain ⟨s, p, rg, kl, Sv, nv⟩ := hel k hlt'
      have hfx := hfa _ (getD_mem (d := dX) hlt')
      have h0r := h0.trans (hBr.mono hb0)
      have rgr := hid (rng_below rg h0r hbl)
      have hbz : base ≤ wr.heap.size := Nat.le_trans hb hBr.size
      have hlen : (zs ++ lowN (xs.length : Int) 4 ++ (xs.take k).flatMap (elB true)).length ≤ 10000000 := by
        have a := lsB_len (c := true) (xs.take k) (fun x hx => hall x (List.mem_of_mem_take hx))
        rw [List.length_append, List.length_append, lowN_len]
        have b : (xs.take k).length ≤ 4096 := by rw [List.length_take]; omega
        have c : (xs.take k).length * 163 ≤ 4096 * 163 := Nat.mul_le_mul_right _ b
        omega
      have HT := hid (show zs ++ lowN (xs.length : Int) 4 ++ (xs.take (k + 1)).flatMap (elB true) = zs ++ lowN (xs.length : Int) 4 ++ (xs.take k).flatMap (elB true) ++ elB true (xs.getD k dX) by
        rw [take_snocC xs k hlt', List.flatMap_append]
        simp)
      have SE := hid (show (Try.prog.info? 54).map (·.size) = some (elC true (xs.getD k dX).key (xs.getD k dX).del (.slice s (xs.getD k dX).val.length p)).length by rw [elC_len kl]; exact Try.sizeChg)
      have SL := hid (show (elC true z32 false (.slice none 0 0)).length = (elC true (xs.getD k dX).key (xs.getD k dX).del (.slice s (xs.getD k dX).val.length p)).length from (elC_len z32_len).trans (elC_len kl).symm)
      generalize hz : zs ++ lowN (xs.length : Int) 4 ++ (xs.take k).flatMap (elB true) = zk at *
      replace hz := hid hz
      generalize xs.getD k dX = x at *
      clear rg
      go_wp2_with (first
        | (refine wpList_load_mid rfl 54 _ rfl b (o + k * 34) rfl (elC true x.key x.del (.slice s x.val.length p)) _ rgr.out Try.underlying54 rfl SE.out ?_)
        | (refine wpList_allocV allocChg rfl rfl ?_)
        | (refine wpList_storeRowW rfl 54 _ _ rfl wr.heap.size (elC true x.key x.del (.slice s x.val.length p)) rfl rfl 54 _ (hnew wr (.cells (elC true z32 false (.slice none 0 0)).toArray 54)) SE.out SL.out (elC_one rfl) ?_; intro w3 hr3 hk3; refine Hid.out ?_))
      refine hid ?_
      have hb3 : Below wr.heap.size wr w3 := ((Below.refl wr.heap.size wr).alloc (Nat.le_refl _) _).trans (hk3.below_g (Nat.le_refl _) (by simp))
      have O3 := hOr.below hb3 (Nat.le_refl _)
      have hz3 := hlt hr3
      have rg3 : w3.rangeAt wr.heap.size 0 (elC true x.key x.del (.slice s x.val.length p)) := rng hr3
      obtain ⟨rk3, rv3, rd3⟩ := el_true rg3 kl
      rw [Nat.zero_add] at rv3 rd3
      have hbz3 : base ≤ w3.heap.size := by omega
      have HK := hid kl
      have B3 : Below base w w3 := hBr.trans (hb3.mono hbz)
      have hne := hid (hOr.block wr.heap.size)
      clear hk3 SE SL rgr rg3 rk3 hOr hBr hb3
      cases hd : x.del with
      | true =>
        rw [hd] at rd3
        have HE := hid (show elB true x = [2] ++ x.key by unfold elB; rw [if_pos rfl, hd]; rfl)
        have HR := hid hr3
        clear hd hr3
        have KP := hid (show zk.length + 1 ≤ 140737488355328 by omega)
        go_wp2_with (first | (at_builtin; refine wpList_push_away rfl (.tmp 19) (.tmp 20) rfl base _ zk 2 rfl O3 rfl KP.out hbz3 _ _ ?_; intro v4 w4 O4 hB4 hA4; refine Hid.out ?_))
        refine hid ?_
        obtain ⟨e4, n4⟩ := hA4 _ hz3 (fun e => by have := (hne.out e).2; omega)
        have hz4 : wr.heap.size < w4.heap.size := Nat.lt_of_lt_of_le hz3 hB4.size
        have hr4 := e4.trans HR.out
        have rg4 : w4.rangeAt wr.heap.size 0 (elC true x.key x.del (.slice s x.val.length p)) := rng hr4
        obtain ⟨rk4, _, _⟩ := el_true rg4 HK.out
        have S4 := hid (src_rng rk4 hz4 32 (by rw [HK.out]; exact Nat.le_refl _) (by simp [maxLen]))
        have KL := hid (show (zk ++ [2]).length + x.key.length ≤ 140737488351232 by rw [HK.out, List.length_append]; simp; omega)
        have hbz4 : base ≤ w4.heap.size := Nat.le_trans hbz3 hB4.size
        have B4 := B3.trans hB4
        clear hA4 e4 hB4 rk4 rg4 KP O3 B3 rv3 rd3
        have HR4 := hid hr4
        clear hr4
        go_wp2_with (first | (at_builtin; refine wpList_append_wide rfl (.tmp 22) (.tmp 24) rfl base _ (zk ++ [2]) x.key rfl O4 (some ⟨wr.heap.size, 0, none⟩) 32 (by rw [HK.out]; rfl) (fun h => by cases h) S4.out KL.out hbz4 ?_; intro v5 w5 O5 hg5 hd5; refine Hid.out ?_))
        refine hid ?_
        have hb5 : Below base w4 w5 := grown_keeps hg5 (fun k hk => (O4.block k hk).1) hbz4
        have B5 := B4.trans hb5
        have hbz5 : base ≤ w5.heap.size := Nat.le_trans hbz4 hb5.size
        clear hg5 hd5 S4 KL O4 HR4 B4 hb5
        go_wp2
        go_roundw
        case rel =>
          exact ⟨k + 1, by omega, by go_num, by rw [HT.out, HE.out, ← List.append_assoc]; exact O5, B5⟩
        case measure => simp [intOf]; omega
      | false =>
        rw [hd] at rd3
        have hvl : x.val.length ≤ 128 := by unfold elF at hfx; rw [hd] at hfx; simpa using hfx
        have HE := hid (show elB true x = [1] ++ x.key ++ vaB x.val by unfold elB; rw [if_pos rfl, hd]; rfl)
        have HR := hid hr3
        clear hd hr3
        have KP := hid (show zk.length + 1 ≤ 140737488355328 by omega)
        go_wp2_with (first | (at_builtin; refine wpList_push_away rfl (.tmp 26) (.tmp 27) rfl base _ zk 1 rfl O3 rfl KP.out hbz3 _ _ ?_; intro v4 w4 O4 hB4 hA4; refine Hid.out ?_))
        refine hid ?_
        obtain ⟨e4, n4⟩ := hA4 _ hz3 (fun e => by have := (hne.out e).2; omega)
        have hz4 : wr.heap.size < w4.heap.size := Nat.lt_of_lt_of_le hz3 hB4.size
        have hr4 := e4.trans HR.out
        have rg4 : w4.rangeAt wr.heap.size 0 (elC true x.key x.del (.slice s x.val.length p)) := rng hr4
        obtain ⟨rk4, _, _⟩ := el_true rg4 HK.out
        have S4 := hid (src_rng rk4 hz4 32 (by rw [HK.out]; exact Nat.le_refl _) (by simp [maxLen]))
        have KL := hid (show (zk ++ [1]).length + x.key.length ≤ 140737488351232 by rw [HK.out, List.length_append]; simp; omega)
        have hbz4 : base ≤ w4.heap.size := Nat.le_trans hbz3 hB4.size
        have B4 := B3.trans hB4
        clear hA4 e4 hB4 rk4 rg4 KP O3 B3 rv3 rd3
        have HR4 := hid hr4
        clear hr4
        go_wp2_with (first | (at_builtin; refine wpList_append_wide rfl (.tmp 29) (.tmp 31) rfl base _ (zk ++ [1]) x.key rfl O4 (some ⟨wr.heap.size, 0, none⟩) 32 (by rw [HK.out]; rfl) (fun h => by cases h) S4.out KL.out hbz4 ?_; intro v5 w5 O5 hg5 hd5; refine Hid.out ?_))
        refine hid ?_
        have hb5 : Below base w4 w5 := grown_keeps hg5 (fun k hk => (O4.block k hk).1) hbz4
        have B5 := B4.trans hb5
        have hbz5 : base ≤ w5.heap.size := Nat.le_trans hbz4 hb5.size
        have hr5 := (hg5.block _ hz4 (fun e => n4 e.symm)).trans HR4.out
        have rg5 : w5.rangeAt wr.heap.size 0 (elC true x.key x.del (.slice s x.val.length p)) := rng hr5
        obtain ⟨_, rv5, _⟩ := el_true rg5 HK.out
        rw [Nat.zero_add] at rv5
        have KV := hid (appendVal_any w0 w5 base v5 (zk ++ [1] ++ x.key) O5 hbz5 (by rw [List.length_append, List.length_append, HK.out]; simp; omega) x.val s p Sv nv (h0.trans (B5.mono hb0)) hb0 hvl x.val.length rfl)
        clear hg5 hd5 S4 KL O4 HR4 B4 hb5 hr5 rg5 O5
        go_wp2_with fail
        refine KV.out.mono ?_
        rintro e w6 ⟨v6, rfl, O6, hB6⟩
        clear KV rv5
        go_wp2
        go_roundw
        case rel =>
          exact ⟨k + 1, by omega, by go_num, by rw [HT.out, HE.out, ← List.append_assoc, ← List.append_assoc]; exact O6, B5.trans hB6⟩
        case measure => simp [intOf]; omega
    · obtain rfl : k = xs.length := by omega
      rw [List.take_length] at hOr
      clear hlt'
      go_wp2
      go_ret
      refine ⟨_, rfl, ?_, hBr⟩
      unfold lsB
      rw [← List.append_assoc]; exact hOr
end Go.Proofs.Ytenfklcgkfaajaa
