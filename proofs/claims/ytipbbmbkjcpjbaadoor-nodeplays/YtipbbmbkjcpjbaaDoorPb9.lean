import Derived.Test.YtipbbmbkjcpjbaaDoorPa9
namespace Go.Proofs.YtipbbmbkjcpjbaaDoor
set_option linter.unusedVariables false
set_option linter.unusedSimpArgs false
open Go.RowKit
attribute [local go_sem ↓] Go.wp_at_zero Go.wp_at_succ

theorem own_new (w : World) (ys : List Int) (hm : ys.length ≤ maxLen) : Own (w.alloc (.cells (ints .u8 ys).toArray 5)) w.heap.size (.slice (some ⟨w.heap.size, 0, none⟩) ys.length ys.length) ys :=
  ⟨by rw [ints_len, Nat.mul_one], Or.inr ⟨w.heap.size, ys.length, (ints .u8 ys).toArray, rfl, Nat.le_refl _, hnew w _, Nat.le_refl _, hm, by simp [ints_len], by simp only; exact List.take_of_length_le (by rw [ints_len, Nat.mul_one]; exact Nat.le_refl _)⟩⟩
theorem grown_trans {a b c : World} {r s : Option Nat} (h : a.grownBy b r) (k : b.grownBy c s) (hs : s = r ∨ ∃ j, s = some j ∧ a.heap.size ≤ j) : a.grownBy c r :=
  ⟨k.os.trans h.os, k.tape.trans h.tape, k.output.trans h.output, Nat.le_trans h.size k.size, fun j hj hr => (k.block j (Nat.lt_of_lt_of_le hj h.size) (by
    rcases hs with rfl | ⟨i, rfl, hi⟩
    · exact hr
    · intro e; cases e; omega)).trans (h.block j hj hr)⟩
theorem grown_alloc (w : World) (o : Obj) (r : Option Nat) : w.grownBy (w.alloc o) r :=
  have h := (Below.refl w.heap.size w).alloc (Nat.le_refl _) o
  ⟨h.os, h.tape, h.output, h.size, fun k hk _ => h.block k hk⟩
theorem wpList_push_g {w : World} {ops : Array Oper} {rest : List Oper} {o : Oper} {a : Act} {Q : Exit → Act → World → Prop} (hgd : o.guard = none) (s x : Operand)
    (ho : o.op = .call { callee := .builtin .append, args := #[s, x], argTypes := #[28, 28] })
    (base : Nat) (v : Value) (zs : List Int) (y : Int) (hs : a.eval s = v) (hown : Own w base v zs) (hx : a.eval x = .slice (some ⟨w.heap.size, 0, none⟩) 1 1)
    (hlen : zs.length + 1 ≤ 140737488351232) (hbase : base ≤ w.heap.size)
    (h : ∀ v' w', Own w' base v' (zs ++ [y]) → w.grownBy w' v.ownBlock → (v'.ownBlock = v.ownBlock ∨ ∃ j, v'.ownBlock = some j ∧ w.heap.size ≤ j) → wpList Tryd.prog ops Q rest (a.put o.dst v') w') :
    wpList Tryd.prog ops Q (o :: rest) a (w.alloc (.cells #[.int .u8 y] 5)) := by
  refine wpList_append_wide hgd s x ho base v zs [y] hs (own_pushes hown _) (some ⟨w.heap.size, 0, none⟩) 1 hx (fun h => by cases h) (src_new w [y] 5 (0, 0) (by simp [maxLen])) (by simpa using hlen) (by simp; omega) ?_
  intro v' w' h1 h2 h3
  refine h v' w' h1 (grown_trans (grown_alloc w _ _) h2 (Or.inl rfl)) ?_
  rcases h3 with h | h
  · exact Or.inl h
  · exact Or.inr ⟨_, h, by simp⟩
set_option maxRecDepth 100000 in
set_option maxHeartbeats 2000000 in
theorem xfour_any (w : World) (n : Int) (h0 : 0 ≤ n) (h1 : n ≤ 4096) :
    Calls Tryd.prog 49 #[.int .i64 n] w fun e w' => ∃ v, e = .returned v ∧ Own w' w.heap.size v (four n) ∧ Below w.heap.size w w' := by
  have HF := hid (show four n = [n % 256, n / 256 % 256, n / 65536 % 256, n / 16777216 % 256] from rfl)
  have HO := hid (own_new w (four n) (by simp [four, maxLen]))
  have hB := hid ((Below.refl w.heap.size w).alloc (Nat.le_refl _) (.cells (ints .u8 (four n)).toArray 5))
  have t1 : Int.tmod n 256 = n % 256 := Int.tmod_eq_emod_of_nonneg h0
  have t2 : Int.tdiv n 256 = n / 256 := Int.tdiv_eq_ediv_of_nonneg h0
  have t3 : Int.tdiv n 65536 = n / 65536 := Int.tdiv_eq_ediv_of_nonneg h0
  have t4 : Int.tdiv n 16777216 = n / 16777216 := Int.tdiv_eq_ediv_of_nonneg h0
  have t5 : Int.tmod (n / 256) 256 = n / 256 % 256 := Int.tmod_eq_emod_of_nonneg (by omega)
  have t6 : Int.tmod (n / 65536) 256 = n / 65536 % 256 := Int.tmod_eq_emod_of_nonneg (by omega)
  have t7 : Int.tmod (n / 16777216) 256 = n / 16777216 % 256 := Int.tmod_eq_emod_of_nonneg (by omega)
  go_enter Tryd.func49, Tryd.ntmps49
  go_wp2
  go_ret
  exact ⟨_, rfl, HO.out, hB.out⟩
set_option maxRecDepth 100000 in
set_option maxHeartbeats 2000000 in
theorem xjoined_any (w : World) (base : Nat) (v0 : Value) (xs ys : List Int) (hO : Own w base v0 xs) (hb : base ≤ w.heap.size) (sq : Option Addr) (d : Nat) (hY : ∀ wr, w.grownBy wr v0.ownBlock → Src wr sq d ys) (hl : xs.length + ys.length ≤ 100000) :
    Calls Tryd.prog 48 #[v0, .slice sq ys.length d] w fun e w' => ∃ v, e = .returned v ∧ Own w' base v (xs ++ ys) ∧ w.grownBy w' v0.ownBlock ∧ (v.ownBlock = v0.ownBlock ∨ ∃ j, v.ownBlock = some j ∧ w.heap.size ≤ j) := by
  have i0 : (ys.length : Int) ≤ 100000 := by omega
  have G0 : w.grownBy w v0.ownBlock := ⟨rfl, rfl, rfl, Nat.le_refl _, fun _ _ _ => rfl⟩
  go_enter Tryd.func48, Tryd.ntmps48
  go_wp2
  go_loopw [0, 5] (fun v i wr => ∃ k : Nat, k ≤ ys.length ∧ i = .int .i64 k ∧ Own wr base v (xs ++ ys.take k) ∧ w.grownBy wr v0.ownBlock ∧ (v.ownBlock = v0.ownBlock ∨ ∃ j, v.ownBlock = some j ∧ w.heap.size ≤ j)) (fun _ i _ => ys.length - (intOf i).toNat)
  case atStart => exact ⟨0, by omega, rfl, by rw [List.take_zero, List.append_nil]; exact hO, G0, Or.inl rfl⟩
  case round =>
    clear hO G0
    obtain ⟨k, hk, rfl, hO, hG, hv⟩ := hrel
    by_cases hlt : k < ys.length
    · have i1 : (k : Int) < (ys.length : Int) := by omega
      obtain ⟨hc, hm, b, o, hbb, hsp, hsrc⟩ := hY _ hG
      obtain rfl := hsp (by omega)
      have c0 := hsrc k hlt
      have HT := hid (show xs ++ ys.take (k + 1) = (xs ++ ys.take k) ++ [ys.getD k 0] by
        rw [List.take_succ_eq_append_getElem hlt, List.getD_eq_getElem?_getD, List.getElem?_eq_getElem hlt, List.append_assoc]; rfl)
      have KL := hid (show (xs ++ ys.take k).length + 1 ≤ 140737488351232 by rw [List.length_append, List.length_take]; omega)
      have KB := hid (show base ≤ _ from Nat.le_trans hb hG.size)
      clear hsrc
      generalize ys.getD k 0 = x at *
      generalize xs ++ ys.take k = zk at *
      go_wp2_with (first | (at_builtin; refine wpList_push_g rfl (.tmp 12) (.tmp 17) rfl base _ _ x rfl hO rfl KL.out KB.out ?_; intro v2 w2 hO2 hg2 hd2))
      have hG2 := grown_trans hG hg2 hv
      have hv2 : v2.ownBlock = v0.ownBlock ∨ ∃ j, v2.ownBlock = some j ∧ w.heap.size ≤ j := by
        rcases hd2 with h | ⟨j, h, hj⟩
        · rw [h]; exact hv
        · exact Or.inr ⟨j, h, Nat.le_trans hG.size hj⟩
      go_roundw
      case rel => exact ⟨k + 1, by omega, by go_num, (by rw [HT.out]; exact hO2), hG2, hv2⟩
      case measure => simp [intOf]; omega
    · obtain rfl : k = ys.length := by omega
      rw [List.take_length] at hO
      clear hlt
      go_wp2
      go_ret
      exact ⟨_, rfl, hO, hG, hv⟩
theorem BK.up1 {w0 w w' : World} {B b t : Nat} {zs : List Value} (h : BK w0 w [(b, zs, t)]) (hb : Below B w w') (hg : b < B) (hB : w0.heap.size ≤ B) : BK w0 w' [(b, zs, t)] :=
  ⟨h.1.trans (hb.mono hB), fun x hx => by
    simp only [List.mem_cons, List.not_mem_nil, or_false] at hx
    subst hx
    exact hbel hb (h.row (.head _)) hg⟩
theorem grown_below {a b : World} {r : Option Nat} {B : Nat} (h : a.grownBy b r) (hr : ∀ k, r = some k → B ≤ k) (hB : B ≤ a.heap.size) : Below B a b := grown_keeps h hr hB
theorem take_snoc9 (zs : List Int) (k : Nat) (h : k < zs.length) (X : List Int) : X ++ zs.take (k + 1) = (X ++ zs.take k) ++ [zs.getD k 0] := by
  rw [List.take_succ_eq_append_getElem h, List.getD_eq_getElem?_getD, List.getElem?_eq_getElem h, List.append_assoc]; rfl
set_option maxRecDepth 100000 in
set_option maxHeartbeats 2000000 in
theorem xload_leaf (w : World) (n : Nd) (ok : NdOk n) (sp : Option Addr) (cap : Nat) (hS : Src w sp cap n.vs) (h1 : n.kd = 1) (h2 : n.vs.length ≤ 128) :
    Calls Tryd.prog 34 #[.agg (ndC n (.slice sp n.vs.length cap)).toArray] w fun e w' => ∃ v, e = .returned v ∧ Own w' w.heap.size v (n.k ++ n.vs) ∧ Below w.heap.size w w' := by
  have d0 := (BK.nil w).alloc (ndC n (.slice sp n.vs.length cap)) 30
  have hz : (w.alloc (.cells (ndC n (.slice sp n.vs.length cap)).toArray 30)).heap.size = w.heap.size + 1 := by simp
  have N0 : Own (w.alloc (.cells (ndC n (.slice sp n.vs.length cap)).toArray 30)) (w.heap.size + 1) (.slice none 0 0) [] := Own.nil _ _
  have c00 := d0.cell (.head _) (v := .int .i64 n.kd) (j := 0) rfl
  have NC1 := hid (show (ndC n (.slice sp n.vs.length cap))[1]? = some (.int .i64 n.l) from rfl)
  have NC2 := hid (show (ndC n (.slice sp n.vs.length cap))[2]? = some (.int .i64 n.r) from rfl)
  have NC3 := hid (show (ndC n (.slice sp n.vs.length cap))[3]? = some (.int .i64 n.lc) from rfl)
  have NC4 := hid (show (ndC n (.slice sp n.vs.length cap))[4]? = some (.int .i64 n.rc) from rfl)
  have NC101 := hid (ndC_v ok (.slice sp n.vs.length cap))
  have NCls := hid (ndC_ls ok (.slice sp n.vs.length cap))
  have NCrs := hid (ndC_rs ok (.slice sp n.vs.length cap))
  have NCk := hid (ndC_k ok (.slice sp n.vs.length cap))
  have Lk := hid ok.k
  have Lls := hid ok.ls
  have Lrs := hid ok.rs
  rw [h1] at c00
  have LX := hid (show ([] : List Int).length ≤ 1000 by simp)
  have KJ := hid (fun w1 v (hO : Own w1 (w.heap.size + 1) v n.k) (hb : w.heap.size + 1 ≤ w1.heap.size) (hB : Below w.heap.size w w1) => xjoined_any w1 (w.heap.size + 1) v n.k n.vs hO hb sp cap (fun wr hg => hS.below (hB.trans ((grown_below hg (fun k hk => (hO.block k hk).1) hb).mono (by omega))) (Nat.le_refl _)) (by have := ok.k; omega))
  generalize ndC n (.slice sp n.vs.length cap) = NC at *
  clear h1
  go_enter Tryd.func34, Tryd.ntmps34
  go_wp2
  go_loopw [3, 4] (fun v i wr => ∃ k : Nat, k ≤ 32 ∧ i = .int .i64 k ∧ Own wr (w.heap.size + 1) v ([] ++ n.k.take k) ∧ w.heap.size + 1 ≤ wr.heap.size ∧ BK w wr [(w.heap.size, NC, 30)]) (fun _ i _ => 32 - (intOf i).toNat)
  case atStart => exact ⟨0, by omega, rfl, by rw [List.take_zero, List.append_nil]; exact N0, by omega, d0⟩
  case round =>
    clear d0 N0
    obtain ⟨k, hk, rfl, hO, hs, dr⟩ := hrel
    by_cases hlt : k < 32
    · have i1 : (k : Int) < 32 := by omega
      have c0 := dr.cell (.head _) (NCk.out k _ (ints_get .u8 n.k k (by rw [Lk.out]; exact hlt)))
      have HT := hid (take_snoc9 n.k k (by rw [Lk.out]; exact hlt) ([]))
      have KL := hid (show ([] ++ n.k.take k).length + 1 ≤ 140737488355328 by rw [List.length_append, List.length_take]; have := LX.out; omega)
      generalize n.k.getD k 0 = x at *
      generalize [] ++ n.k.take k = zk at *
      go_wp2_with (first | (at_builtin; refine wpList_push_any rfl (.tmp 14) (.tmp 19) rfl (w.heap.size + 1) _ _ x rfl hO rfl KL.out hs _ _ ?_; intro v2 w2 hO2 hB2))
      have d2 := dr.up1 hB2 (by omega) (by omega)
      have s2 := hB2.size
      go_roundw
      case rel => exact ⟨k + 1, by omega, by go_num, (by rw [HT.out]; exact hO2), by omega, d2⟩
      case measure => simp [intOf]; omega
    · have hk32 : k = 32 := by omega
      have i2 : ¬ ((k : Int) < 32) := by omega
      rw [hk32] at hO
      clear hlt hk32 hk
      rw [show n.k.take 32 = n.k from by rw [← Lk.out]; exact List.take_length] at hO
      rw [List.nil_append] at hO
      have c9 := dr.cell (.head _) NC101.out
      go_wp2_with fail
      refine (KJ.out _ _ hO hs dr.1).mono ?_
      rintro e w3 ⟨v3, rfl, hO3, hg3, _⟩
      have hb3 := grown_below hg3 (fun k hk => (hO.block k hk).1) hs
      go_wp2
      go_ret
      exact ⟨_, rfl, own_lower hO3 (by omega), dr.1.trans (hb3.mono (by omega))⟩
set_option maxRecDepth 100000 in
set_option maxHeartbeats 2000000 in
theorem xload_branch (w : World) (n : Nd) (ok : NdOk n) (sp : Option Addr) (cap : Nat) (h1 : n.kd = 2) (hl : 0 ≤ n.l ∧ n.l ≤ 4096) (hr : 0 ≤ n.r ∧ n.r ≤ 4096) (hlc : 0 ≤ n.lc ∧ n.lc ≤ 4096) (hrc : 0 ≤ n.rc ∧ n.rc ≤ 4096) :
    Calls Tryd.prog 34 #[.agg (ndC n (.slice sp n.vs.length cap)).toArray] w fun e w' => ∃ v, e = .returned v ∧ Own w' w.heap.size v ((numsB n ++ n.ls) ++ n.rs) ∧ Below w.heap.size w w' := by
  have d0 := (BK.nil w).alloc (ndC n (.slice sp n.vs.length cap)) 30
  have hz : (w.alloc (.cells (ndC n (.slice sp n.vs.length cap)).toArray 30)).heap.size = w.heap.size + 1 := by simp
  have N0 : Own (w.alloc (.cells (ndC n (.slice sp n.vs.length cap)).toArray 30)) (w.heap.size + 1) (.slice none 0 0) [] := Own.nil _ _
  have c00 := d0.cell (.head _) (v := .int .i64 n.kd) (j := 0) rfl
  have NC1 := hid (show (ndC n (.slice sp n.vs.length cap))[1]? = some (.int .i64 n.l) from rfl)
  have NC2 := hid (show (ndC n (.slice sp n.vs.length cap))[2]? = some (.int .i64 n.r) from rfl)
  have NC3 := hid (show (ndC n (.slice sp n.vs.length cap))[3]? = some (.int .i64 n.lc) from rfl)
  have NC4 := hid (show (ndC n (.slice sp n.vs.length cap))[4]? = some (.int .i64 n.rc) from rfl)
  have NC101 := hid (ndC_v ok (.slice sp n.vs.length cap))
  have NCls := hid (ndC_ls ok (.slice sp n.vs.length cap))
  have NCrs := hid (ndC_rs ok (.slice sp n.vs.length cap))
  have NCk := hid (ndC_k ok (.slice sp n.vs.length cap))
  have Lk := hid ok.k
  have Lls := hid ok.ls
  have Lrs := hid ok.rs
  rw [h1] at c00
  have F1 := hid (fun w1 => xfour_any w1 n.l hl.1 hl.2)
  have F2 := hid (fun w1 => xfour_any w1 n.r hr.1 hr.2)
  have F3 := hid (fun w1 => xfour_any w1 n.lc hlc.1 hlc.2)
  have F4 := hid (fun w1 => xfour_any w1 n.rc hrc.1 hrc.2)
  have HX := hid (show numsB n = [] ++ four n.l ++ four n.r ++ four n.lc ++ four n.rc by simp [numsB])
  clear h1 hl hr hlc hrc
  have s0 : w.heap.size + 1 ≤ (w.alloc (.cells (ndC n (.slice sp n.vs.length cap)).toArray 30)).heap.size := by omega
  generalize n.l = vl at *
  generalize n.r = vr at *
  generalize n.lc = vlc at *
  generalize n.rc = vrc at *
  generalize numsB n = XX at *
  generalize ndC n (.slice sp n.vs.length cap) = NC at *
  have hO0 := N0
  clear N0
  go_enter Tryd.func34, Tryd.ntmps34
  have c1 := d0.cell (.head _) NC1.out
  go_wp2_with fail
  refine (F1.out _).mono ?_
  rintro e wa1 ⟨va1, rfl, hOa1, hba1⟩
  obtain ⟨sa1, ca1, rfl, Sa1, na1⟩ := hOa1.form
  have da1 := d0.call hba1
  have Ob1 := hO0.below hba1 (Nat.le_refl _)
  have ne1 : ∀ k, (Value.slice sa1 4 ca1).ownBlock = some k → (Value.slice none 0 0).ownBlock ≠ some k := fun k hk e => by
    have h1 := (hOa1.block k hk).1
    have h2 := (hO0.block k e).2
    omega
  go_wp2_with fail
  refine (xjoined_any wa1 (w.heap.size + 1) (Value.slice none 0 0) ([]) (four vl) Ob1 (by have := hba1.size; omega) sa1 ca1 (fun wr hg => by
    have hk : Own wr _ (Value.slice sa1 4 ca1) (four vl) := hOa1.of_heap (fun k hk => hg.block k (hOa1.block k hk).2 (fun e => ne1 k hk e.symm))
    obtain ⟨s', c', e', S', _⟩ := hk.form
    cases e'
    exact S') (by simp [four_len])).mono ?_
  rintro e w1 ⟨v1, rfl, hO1, hg1, _⟩
  have hb1 := grown_below hg1 (fun k hk => (Ob1.block k hk).1) (by have := hba1.size; omega)
  have d1 := da1.up1 hb1 (by omega) (by omega)
  have s1 : w.heap.size + 1 ≤ w1.heap.size := by have := hba1.size; have := hb1.size; omega
  clear ne1 Ob1 hba1 hg1 hb1 hOa1 da1 c1
  have c2 := d1.cell (.head _) NC2.out
  go_wp2_with fail
  refine (F2.out _).mono ?_
  rintro e wa2 ⟨va2, rfl, hOa2, hba2⟩
  obtain ⟨sa2, ca2, rfl, Sa2, na2⟩ := hOa2.form
  have da2 := d1.call hba2
  have Ob2 := hO1.below hba2 (Nat.le_refl _)
  have ne2 : ∀ k, (Value.slice sa2 4 ca2).ownBlock = some k → v1.ownBlock ≠ some k := fun k hk e => by
    have h1 := (hOa2.block k hk).1
    have h2 := (hO1.block k e).2
    omega
  go_wp2_with fail
  refine (xjoined_any wa2 (w.heap.size + 1) v1 ([] ++ four vl) (four vr) Ob2 (by have := hba2.size; omega) sa2 ca2 (fun wr hg => by
    have hk : Own wr _ (Value.slice sa2 4 ca2) (four vr) := hOa2.of_heap (fun k hk => hg.block k (hOa2.block k hk).2 (fun e => ne2 k hk e.symm))
    obtain ⟨s', c', e', S', _⟩ := hk.form
    cases e'
    exact S') (by simp [four_len])).mono ?_
  rintro e w2 ⟨v2, rfl, hO2, hg2, _⟩
  have hb2 := grown_below hg2 (fun k hk => (Ob2.block k hk).1) (by have := hba2.size; omega)
  have d2 := da2.up1 hb2 (by omega) (by omega)
  have s2 : w.heap.size + 1 ≤ w2.heap.size := by have := hba2.size; have := hb2.size; omega
  clear ne2 Ob2 hba2 hg2 hb2 hOa2 da2 c2
  have c3 := d2.cell (.head _) NC3.out
  go_wp2_with fail
  refine (F3.out _).mono ?_
  rintro e wa3 ⟨va3, rfl, hOa3, hba3⟩
  obtain ⟨sa3, ca3, rfl, Sa3, na3⟩ := hOa3.form
  have da3 := d2.call hba3
  have Ob3 := hO2.below hba3 (Nat.le_refl _)
  have ne3 : ∀ k, (Value.slice sa3 4 ca3).ownBlock = some k → v2.ownBlock ≠ some k := fun k hk e => by
    have h1 := (hOa3.block k hk).1
    have h2 := (hO2.block k e).2
    omega
  go_wp2_with fail
  refine (xjoined_any wa3 (w.heap.size + 1) v2 ([] ++ four vl ++ four vr) (four vlc) Ob3 (by have := hba3.size; omega) sa3 ca3 (fun wr hg => by
    have hk : Own wr _ (Value.slice sa3 4 ca3) (four vlc) := hOa3.of_heap (fun k hk => hg.block k (hOa3.block k hk).2 (fun e => ne3 k hk e.symm))
    obtain ⟨s', c', e', S', _⟩ := hk.form
    cases e'
    exact S') (by simp [four_len])).mono ?_
  rintro e w3 ⟨v3, rfl, hO3, hg3, _⟩
  have hb3 := grown_below hg3 (fun k hk => (Ob3.block k hk).1) (by have := hba3.size; omega)
  have d3 := da3.up1 hb3 (by omega) (by omega)
  have s3 : w.heap.size + 1 ≤ w3.heap.size := by have := hba3.size; have := hb3.size; omega
  clear ne3 Ob3 hba3 hg3 hb3 hOa3 da3 c3
  have c4 := d3.cell (.head _) NC4.out
  go_wp2_with fail
  refine (F4.out _).mono ?_
  rintro e wa4 ⟨va4, rfl, hOa4, hba4⟩
  obtain ⟨sa4, ca4, rfl, Sa4, na4⟩ := hOa4.form
  have da4 := d3.call hba4
  have Ob4 := hO3.below hba4 (Nat.le_refl _)
  have ne4 : ∀ k, (Value.slice sa4 4 ca4).ownBlock = some k → v3.ownBlock ≠ some k := fun k hk e => by
    have h1 := (hOa4.block k hk).1
    have h2 := (hO3.block k e).2
    omega
  go_wp2_with fail
  refine (xjoined_any wa4 (w.heap.size + 1) v3 ([] ++ four vl ++ four vr ++ four vlc) (four vrc) Ob4 (by have := hba4.size; omega) sa4 ca4 (fun wr hg => by
    have hk : Own wr _ (Value.slice sa4 4 ca4) (four vrc) := hOa4.of_heap (fun k hk => hg.block k (hOa4.block k hk).2 (fun e => ne4 k hk e.symm))
    obtain ⟨s', c', e', S', _⟩ := hk.form
    cases e'
    exact S') (by simp [four_len])).mono ?_
  rintro e w4 ⟨v4, rfl, hO4, hg4, _⟩
  have hb4 := grown_below hg4 (fun k hk => (Ob4.block k hk).1) (by have := hba4.size; omega)
  have d4 := da4.up1 hb4 (by omega) (by omega)
  have s4 : w.heap.size + 1 ≤ w4.heap.size := by have := hba4.size; have := hb4.size; omega
  clear ne4 Ob4 hba4 hg4 hb4 hOa4 da4 c4
  rw [← HX.out] at hO4
  have LX := hid (show XX.length ≤ 500 by rw [HX.out]; simp [four_len])
  clear HX
  have LX0 := hid LX.out
  go_wp2
  go_loopw [3, 5] (fun v i wr => ∃ k : Nat, k ≤ 32 ∧ i = .int .i64 k ∧ Own wr (w.heap.size + 1) v (XX ++ n.ls.take k) ∧ w.heap.size + 1 ≤ wr.heap.size ∧ BK w wr [(w.heap.size, NC, 30)]) (fun _ i _ => 32 - (intOf i).toNat)
  case atStart => exact ⟨0, by omega, rfl, by rw [List.take_zero, List.append_nil]; exact hO4, s4, d4⟩
  case round =>
    clear d4 hO4
    obtain ⟨k, hk, rfl, hO, hs, dr⟩ := hrel
    by_cases hlt : k < 32
    · have i1 : (k : Int) < 32 := by omega
      have c0 := dr.cell (.head _) (NCls.out k _ (ints_get .u8 n.ls k (by rw [Lls.out]; exact hlt)))
      have HT := hid (take_snoc9 n.ls k (by rw [Lls.out]; exact hlt) (XX))
      have KL := hid (show (XX ++ n.ls.take k).length + 1 ≤ 140737488355328 by rw [List.length_append, List.length_take]; have := LX.out; omega)
      generalize n.ls.getD k 0 = x at *
      generalize XX ++ n.ls.take k = zk at *
      go_wp2_with (first | (at_builtin; refine wpList_push_any rfl (.tmp 49) (.tmp 54) rfl (w.heap.size + 1) _ _ x rfl hO rfl KL.out hs _ _ ?_; intro v2 w2 hO2 hB2))
      have d2 := dr.up1 hB2 (by omega) (by omega)
      have s2 := hB2.size
      go_roundw
      case rel => exact ⟨k + 1, by omega, by go_num, (by rw [HT.out]; exact hO2), by omega, d2⟩
      case measure => simp [intOf]; omega
    · have hk32 : k = 32 := by omega
      have i2 : ¬ ((k : Int) < 32) := by omega
      rw [hk32] at hO
      clear hlt hk32 hk
      rw [show n.ls.take 32 = n.ls from by rw [← Lls.out]; exact List.take_length] at hO
      clear LX
      have LX := hid (show (XX ++ n.ls).length ≤ 1000 by rw [List.length_append, Lls.out]; have := LX0.out; omega)
      go_wp2
      go_loopw [3, 6] (fun v i wr => ∃ k : Nat, k ≤ 32 ∧ i = .int .i64 k ∧ Own wr (w.heap.size + 1) v ((XX ++ n.ls) ++ n.rs.take k) ∧ w.heap.size + 1 ≤ wr.heap.size ∧ BK w wr [(w.heap.size, NC, 30)]) (fun _ i _ => 32 - (intOf i).toNat)
      case atStart => exact ⟨0, by omega, rfl, by rw [List.take_zero, List.append_nil]; exact hO, hs, dr⟩
      case round =>
        clear dr hO
        obtain ⟨k, hk, rfl, hO, hs, dr⟩ := hrel
        by_cases hlt : k < 32
        · have i1 : (k : Int) < 32 := by omega
          have c0 := dr.cell (.head _) (NCrs.out k _ (ints_get .u8 n.rs k (by rw [Lrs.out]; exact hlt)))
          have HT := hid (take_snoc9 n.rs k (by rw [Lrs.out]; exact hlt) ((XX ++ n.ls)))
          have KL := hid (show ((XX ++ n.ls) ++ n.rs.take k).length + 1 ≤ 140737488355328 by rw [List.length_append, List.length_take]; have := LX.out; omega)
          generalize n.rs.getD k 0 = x at *
          generalize (XX ++ n.ls) ++ n.rs.take k = zk at *
          go_wp2_with (first | (at_builtin; refine wpList_push_any rfl (.tmp 60) (.tmp 65) rfl (w.heap.size + 1) _ _ x rfl hO rfl KL.out hs _ _ ?_; intro v2 w2 hO2 hB2))
          have d2 := dr.up1 hB2 (by omega) (by omega)
          have s2 := hB2.size
          go_roundw
          case rel => exact ⟨k + 1, by omega, by go_num, (by rw [HT.out]; exact hO2), by omega, d2⟩
          case measure => simp [intOf]; omega
        · have hk32 : k = 32 := by omega
          have i2 : ¬ ((k : Int) < 32) := by omega
          rw [hk32] at hO
          clear hlt hk32 hk
          rw [show n.rs.take 32 = n.rs from by rw [← Lrs.out]; exact List.take_length] at hO
          go_wp2
          go_ret
          have hO9 := own_lower (b0 := w.heap.size) hO (Nat.le_succ _)
          rw [List.append_assoc] at hO9
          exact ⟨_, rfl, hO9, dr.1⟩
set_option maxRecDepth 100000 in
set_option maxHeartbeats 2000000 in
theorem xencode_any (w : World) (n : Nd) (ok : NdOk n) (sp : Option Addr) (cap : Nat) (hS : Src w sp cap n.vs) :
    Calls Tryd.prog 14 #[.agg (ndC n (.slice sp n.vs.length cap)).toArray] w fun e w' => ∃ v, e = .returned (.tuple #[v, .int .i64 (encE n)]) ∧ Own w' w.heap.size v (encL n) ∧ Below w.heap.size w w' := by
  have hn : n.vs.length ≤ 9223372036854775807 := by have h1 := hS.1; have h2 := hS.2.1; unfold maxLen at h2; omega
  have d0 := (BK.nil w).alloc (ndC n (.slice sp n.vs.length cap)) 30
  have KR := hid (fun w1 => xright_any w1 n ok sp cap hn)
  have SN := hid (show (Tryd.prog.info? 30).map (·.size) = some (ndC n (.slice sp n.vs.length cap)).toArray.size by rw [Tryd.sizeNd, List.size_toArray, ndC_len ok])
  by_cases hr : RightP n
  · have KL : Hid (∀ w1, Below w.heap.size w w1 → Calls Tryd.prog 34 #[.agg (ndC n (.slice sp n.vs.length cap)).toArray] w1 fun e w' => ∃ v, e = .returned v ∧ Own w' w1.heap.size v (loadP n) ∧ Below w1.heap.size w1 w') := hid (fun w1 hb => by
      rcases hr with h | h
      · have := xload_leaf w1 n ok sp cap (hS.below hb (Nat.le_refl _)) h.1 h.2.2.2.2.2.2.2
        unfold loadP; rw [if_pos h.1]; exact this
      · have q1 := h.2.2.2.1.le
        have q2 := h.2.2.2.2.1.le
        have := xload_branch w1 n ok sp cap h.1 (by omega) (by omega) (by omega) (by omega)
        unfold loadP; rw [if_neg (by have := h.1; omega)]
        rw [show (numsB n ++ n.ls) ++ n.rs = four n.l ++ (four n.r ++ (four n.lc ++ (four n.rc ++ (n.ls ++ n.rs)))) by simp [numsB]] at this
        exact this)
    rw [decide_eq_true hr] at KR
    have HE := hid (show encE n = 0 by unfold encE; rw [if_pos hr])
    have HL := hid (show encL n = loadP n by unfold encL; rw [if_pos hr])
    clear hr
    generalize ndC n (.slice sp n.vs.length cap) = NC at *
    have r0 := d0.row (.head _)
    go_enter Tryd.func14, Tryd.ntmps14
    go_wp2_with (first
      | refine wpList_load_row_w (by rfl) 30 _ (by rfl) _ (by rfl) 30 _ _ _ r0 Tryd.underlying30 rfl SN.out ?_)
    refine (KR.out _).mono ?_
    rintro e w1 ⟨rfl, hb1⟩
    have d1 := d0.call hb1
    have r0 := d1.row (.head _)
    go_wp2_with (first
      | refine wpList_load_row_w (by rfl) 30 _ (by rfl) _ (by rfl) 30 _ _ _ r0 Tryd.underlying30 rfl SN.out ?_)
    refine (KL.out _ d1.1).mono ?_
    rintro e w2 ⟨v2, rfl, hO2, hb2⟩
    have d2 := d1.call hb2
    go_wp2
    refine bodyPost_ret (results_tmp2 Tryd.results14 _ _ _) rfl ?_
    refine ⟨v2, by rw [HE.out]; rfl, ?_, d2.1⟩
    rw [HL.out]; exact own_lower hO2 d1.1.size
  · rw [decide_eq_false hr] at KR
    have HE := hid (show encE n = 90 by unfold encE; rw [if_neg hr])
    have HL := hid (show encL n = [] by unfold encL; rw [if_neg hr])
    clear hr
    generalize ndC n (.slice sp n.vs.length cap) = NC at *
    have r0 := d0.row (.head _)
    go_enter Tryd.func14, Tryd.ntmps14
    go_wp2_with (first
      | refine wpList_load_row_w (by rfl) 30 _ (by rfl) _ (by rfl) 30 _ _ _ r0 Tryd.underlying30 rfl SN.out ?_)
    refine (KR.out _).mono ?_
    rintro e w1 ⟨rfl, hb1⟩
    have d1 := d0.call hb1
    go_wp2
    refine bodyPost_ret (results_tmp2 Tryd.results14 _ _ _) rfl ?_
    refine ⟨.slice none 0 0, by rw [HE.out]; rfl, ?_, d1.1⟩
    rw [HL.out]; exact Own.nil _ _
end Go.Proofs.YtipbbmbkjcpjbaaDoor
