import Derived.Test.YtcifbnldohmbnaaSu
import Derived.Test.YtcifbnldohmbnaaSm
namespace Go.Proofs.Ytcifbnldohmbnaa
set_option linter.unusedVariables false
set_option linter.unusedSimpArgs false
open Go.RowKit
attribute [local go_sem ↓] Go.wp_at_zero Go.wp_at_succ

theorem wpList_cutC {w : World} {ops : Array Oper} {rest : List Oper} {op : Oper} {a : Act} {Q : Exit → Act → World → Prop} (hg : op.guard = none) (x : Operand) (ho : op.op = .slice 29 x (some (.const (.int .i64 1))) none none) (b o n cap : Nat)
    (hx : a.eval x = .slice (some ⟨b, o, none⟩) (n + 1) cap) (h : ∀ s, s = (if cap = 1 then some (⟨b, o, none⟩ : Addr) else some ⟨b, o + 34, none⟩) → wpList Try.prog ops Q rest (a.put op.dst (.slice s n (cap - 1))) w) : wpList Try.prog ops Q (op :: rest) a w := by
  refine wpList_plain hg fun K hK => ?_
  have hh := h _ rfl
  unfold Oper.wp execOp
  rw [ho]
  simp only [hx, Option.map_some, Option.map_none]
  have i1 : (1 : Int) ≤ (n : Int) + 1 := by omega
  go_simp
  exact hK _ _ hh
theorem Chs.tail {w : World} {b o cap : Nat} {c : Chg} {cs : List Chg} {m : MC} {ms : List MC} (h : Chs w (some ⟨b, o, none⟩) cap (c :: cs) b o (m :: ms)) (s : Option Addr) (hs : s = if cap = 1 then some ⟨b, o, none⟩ else some ⟨b, o + 34, none⟩) : ∃ o', s = some ⟨b, o', none⟩ ∧ Chs w (some ⟨b, o', none⟩) (cap - 1) cs b o' ms := by
  have hl := h.le
  simp only [List.length_cons] at hl
  have hms : ms.length = cs.length := by have := h.says.1; simpa using this
  have hsay : SaysL w ms cs := ⟨hms, fun i hi => by have := h.says.2 (i + 1) (by simpa using hi); simpa using this⟩
  by_cases hc : cap = 1
  · rw [if_pos hc] at hs
    refine ⟨o, hs, ⟨by omega, by have := h.mx; omega, (fun e => by cases e), fun hp => by omega, fun i hi => by omega, hsay⟩⟩
  · rw [if_neg hc] at hs
    refine ⟨o + 34, hs, ⟨by omega, by have := h.mx; omega, (fun e => by cases e), fun hp => ⟨(h.pos (by simp)).1, rfl⟩, fun i hi => ?_, hsay⟩⟩
    have := h.rd (i + 1) (by simpa using hi)
    rw [show o + 34 + i * 34 = o + (i + 1) * 34 by omega]
    simpa using this
theorem OwnV.tail {w : World} {base : Nat} {c : Chg} {cs : List Chg} {m : MC} {ms : List MC} (h : OwnV w base (m :: ms) (c :: cs)) : OwnV w base ms cs ∧ m.key = c.key ∧ c.key.length = 32 ∧ m.del = c.del ∧ Own w base m.sv c.val :=
  ⟨⟨by have := h.1; simpa using this, fun i hi => by have := h.2 (i + 1) (by simpa using hi); simpa using this⟩, by have := h.2 0 (by simp); simpa using this⟩
theorem OwnV.append {w : World} {base : Nat} {ms ns : List MC} {cs ds : List Chg} (h : OwnV w base ms cs) (k : OwnV w base ns ds) : OwnV w base (ms ++ ns) (cs ++ ds) := by
  refine ⟨by simp [h.1, k.1], fun i hi => ?_⟩
  by_cases hlt : i < cs.length
  · have := h.2 i hlt
    rw [List.getD_eq_getElem?_getD, List.getElem?_append_left (by rw [h.1]; exact hlt), List.getD_eq_getElem?_getD, List.getElem?_append_left hlt]
    rwa [List.getD_eq_getElem?_getD, List.getD_eq_getElem?_getD] at this
  · have := k.2 (i - cs.length) (by simp at hi; omega)
    rw [List.getD_eq_getElem?_getD, List.getElem?_append_right (by rw [h.1]; omega), List.getD_eq_getElem?_getD, List.getElem?_append_right (by omega), h.1]
    rwa [List.getD_eq_getElem?_getD, List.getD_eq_getElem?_getD] at this
/-- append(own list of changes, a list of changes...). -/
theorem wpList_pushL {w : World} {ops : Array Oper} {rest : List Oper} {op : Oper} {a : Act} {Q : Exit → Act → World → Prop} (hgd : op.guard = none) (s x : Operand)
    (ho : op.op = .call { callee := .builtin .append, args := #[s, x], argTypes := #[29, 29] })
    (base : Nat) (v : Value) (ms : List MC) (hs : a.eval s = v) (hown : OwnM w base v ms) (b o cap : Nat) (cs : List Chg) (ns : List MC) (hx : a.eval x = .slice (some ⟨b, o, none⟩) cs.length cap) (hC : Chs w (some ⟨b, o, none⟩) cap cs b o ns)
    (hlen : ms.length + cs.length ≤ 2199023255552) (hbase : base ≤ w.heap.size)
    (h : ∀ v' w', OwnM w' base v' (ms ++ ns) → w.grownBy w' v.ownBlock → wpList Try.prog ops Q rest (a.put op.dst v') w') :
    wpList Try.prog ops Q (op :: rest) a w := by
  obtain ⟨i5, z, hi5, hz5, hc5, hs5, hy5⟩ := Try.infoC
  have hl := hC.says.mem
  have hf := flat_len ns hl
  have hnl := hC.says.1
  refine wpList_append_own_at _ hgd s x 29 ho base 40 i5 z 34 64 Try.underlying29 hi5 hz5 hs5 hy5 hc5 (by decide) v ms.length _ hs hown ⟨b, o, none⟩ cs.length cap (ns.flatMap encM) hx (by rw [hf, hnl]) ?_ ?_ (by unfold maxLen; omega) (by omega) hbase ?_
  · intro j u hu
    have hj := (List.getElem?_eq_some_iff.1 hu).1
    rw [hf] at hj
    have e := flat_get ns hl (j / 34) (j % 34) (Nat.mod_lt _ (by decide))
    rw [show j / 34 * 34 + j % 34 = j by omega, if_pos (by omega), hu] at e
    have := hC.rd (j / 34) (by omega) (j % 34) u e.symm
    rw [Addr.add_mid, show o + j = o + j / 34 * 34 + j % 34 by omega]
    exact this
  · intro y hy
    obtain ⟨m, hm, hy2⟩ := List.mem_flatMap.1 hy
    obtain ⟨i, hi, rfl⟩ := List.mem_iff_getElem.1 hm
    have := (hC.says.2 i (by omega)).one
    rw [List.getD_eq_getElem?_getD, List.getElem?_eq_getElem hi] at this
    exact this y hy2
  · intro v' w' q1 q2 _ q4
    refine h v' w' (by unfold OwnM; rw [List.length_append, List.flatMap_append, hnl]; simpa using q1) q2
set_option maxRecDepth 100000 in
set_option maxHeartbeats 2000000 in
theorem merge_any (w : World) (base : Nat) (hbase : base ≤ w.heap.size) (Es Ls : List Chg) (b1 o1 c1 b2 o2 c2 : Nat) (ms1 ms2 : List MC) (h1 : Chs w (some ⟨b1, o1, none⟩) c1 Es b1 o1 ms1) (v1 : OwnV w base ms1 Es) (h2 : Chs w (some ⟨b2, o2, none⟩) c2 Ls b2 o2 ms2) (v2 : OwnV w base ms2 Ls)
    (y1 : ∀ c ∈ Es, Byts c.key) (y2 : ∀ c ∈ Ls, Byts c.key) (hlen : Es.length + Ls.length ≤ 1000000000) :
    Calls Try.prog 43 #[.slice (some ⟨b1, o1, none⟩) Es.length c1, .slice (some ⟨b2, o2, none⟩) Ls.length c2] w fun e w' => ∃ v, e = .returned v ∧ Mine w' base v (mergeL Es Ls) ∧ Below w.heap.size w w' := by
  go_enter Try.func43, Try.ntmps43
  go_wp2
  obtain ⟨L, hL⟩ : ∃ L, L = Es.length + Ls.length := ⟨_, rfl⟩
  obtain ⟨R, hR⟩ : ∃ R, R = mergeL Es Ls := ⟨_, rfl⟩
  have HL := hid hL
  have HR := hid hR
  clear hL hR
  go_loopw [0, 1, 5] (fun ev lv mv wr => ∃ (es ls ds : List Chg) (b1 o1 c1 b2 o2 c2 : Nat) (ms1 ms2 rs : List MC), ev = .slice (some ⟨b1, o1, none⟩) es.length c1 ∧ lv = .slice (some ⟨b2, o2, none⟩) ls.length c2 ∧ Chs w (some ⟨b1, o1, none⟩) c1 es b1 o1 ms1 ∧ OwnV w base ms1 es ∧ Chs w (some ⟨b2, o2, none⟩) c2 ls b2 o2 ms2 ∧ OwnV w base ms2 ls ∧ (∀ c ∈ es, Byts c.key) ∧ (∀ c ∈ ls, Byts c.key) ∧ OwnM wr w.heap.size mv rs ∧ OwnV wr base rs ds ∧ R = ds ++ mergeL es ls ∧ ds.length + es.length + ls.length ≤ L ∧ Below w.heap.size w wr) (fun ev lv _ _ => slen ev + slen lv)
  case atStart => exact ⟨Es, Ls, [], b1, o1, c1, b2, o2, c2, ms1, ms2, [], rfl, rfl, h1, v1, h2, v2, y1, y2, OwnM.nil _ _, OwnV.nil _ _, HR.out, by rw [HL.out]; simp, Below.refl _ _⟩
  case round =>
    replace hlen := hid (show L ≤ 1000000000 by rw [HL.out]; exact hlen)
    clear h1 v1 h2 v2 y1 y2 HL
    clear b1 o1 c1 b2 o2 c2 ms1 ms2
    obtain ⟨es, ls, ds, b1, o1, c1, b2, o2, c2, ms1, ms2, rs, rfl, rfl, h1, v1, h2, v2, y1, y2, hO, hVr, hRR, hdl, hB⟩ := hrel
    have HRR := hid hRR
    have HDL := hid hdl
    clear hRR hdl
    have hlr := hVr.1
    match es, ls with
    | [], ls =>
      obtain rfl : ms1 = [] := List.eq_nil_of_length_eq_zero h1.says.1
      have HE := hid (show R = ds ++ [] ++ ls by rw [HRR.out]; simp [mergeL])
      have HLA := hid (show rs.length + ([] : List Chg).length ≤ 2199023255552 by have a1 := HDL.out; have a2 := hlen.out; have a3 := hVr.1; simp at *; omega)
      have HLB := hid (show (rs ++ ([] : List MC)).length + ls.length ≤ 2199023255552 by have a1 := HDL.out; have a2 := hlen.out; have a3 := hVr.1; simp at *; omega)
      have KE1 := hid h1
      have KE2 := hid h2
      clear h1 h2 HRR y1 y2
      go_wp2_with (first
        | (at_builtin; refine wpList_pushL rfl (.tmp 46) (.tmp 47) rfl w.heap.size _ rs rfl hO b1 o1 c1 _ _ rfl (KE1.out.below hB) HLA.out hB.size ?_; intro v7 w7 hO7 hg7)
        | (at_builtin; refine wpList_pushL rfl (.tmp 48) (.tmp 49) rfl w.heap.size _ _ rfl hO7 b2 o2 c2 _ _ rfl (KE2.out.below (hB.trans (grown_keeps hg7 (fun k hk => (hO.block k hk).1) hB.size))) HLB.out (hB.trans (grown_keeps hg7 (fun k hk => (hO.block k hk).1) hB.size)).size ?_; intro v8 w8 hO8 hg8))
      have hB7 := hB.trans (grown_keeps hg7 (fun k hk => (hO.block k hk).1) hB.size)
      have hB8 := hB7.trans (grown_keeps hg8 (fun k hk => (hO7.block k hk).1) hB7.size)
      have hV7 : OwnV w7 base rs ds := hVr.of_heap fun q x hx => hg7.block q (hlt_ hx) (fun e => by obtain ⟨_, _, y, hy⟩ := hO.block q e.symm; exact ne_of_type hx hy (by decide) rfl)
      have hV8 : OwnV w8 base rs ds := hV7.of_heap fun q x hx => hg8.block q (hlt_ hx) (fun e => by obtain ⟨_, _, y, hy⟩ := hO7.block q e.symm; exact ne_of_type hx hy (by decide) rfl)
      go_ret
      refine ⟨_, rfl, ⟨_, hO8.base hbase, ?_⟩, hB8⟩
      rw [← HR.out, HE.out]
      exact (hV8.append (v1.below hB8)).append (v2.below hB8)
    | e :: et, [] =>
      obtain rfl : ms2 = [] := List.eq_nil_of_length_eq_zero h2.says.1
      have HE := hid (show R = ds ++ (e :: et) ++ [] by rw [HRR.out]; simp [mergeL])
      have HLA := hid (show rs.length + (e :: et).length ≤ 2199023255552 by have a1 := HDL.out; have a2 := hlen.out; have a3 := hVr.1; simp at *; omega)
      have HLB := hid (show (rs ++ ms1).length + ([] : List Chg).length ≤ 2199023255552 by have a1 := HDL.out; have a2 := hlen.out; have a3 := hVr.1; have a4 := h1.says.1; simp at *; omega)
      have KE1 := hid h1
      have KE2 := hid h2
      clear h1 h2 HRR y1 y2
      go_wp2_with (first
        | (at_builtin; refine wpList_pushL rfl (.tmp 46) (.tmp 47) rfl w.heap.size _ rs rfl hO b1 o1 c1 _ _ rfl (KE1.out.below hB) HLA.out hB.size ?_; intro v7 w7 hO7 hg7)
        | (at_builtin; refine wpList_pushL rfl (.tmp 48) (.tmp 49) rfl w.heap.size _ _ rfl hO7 b2 o2 c2 _ _ rfl (KE2.out.below (hB.trans (grown_keeps hg7 (fun k hk => (hO.block k hk).1) hB.size))) HLB.out (hB.trans (grown_keeps hg7 (fun k hk => (hO.block k hk).1) hB.size)).size ?_; intro v8 w8 hO8 hg8))
      have hB7 := hB.trans (grown_keeps hg7 (fun k hk => (hO.block k hk).1) hB.size)
      have hB8 := hB7.trans (grown_keeps hg8 (fun k hk => (hO7.block k hk).1) hB7.size)
      have hV7 : OwnV w7 base rs ds := hVr.of_heap fun q x hx => hg7.block q (hlt_ hx) (fun e => by obtain ⟨_, _, y, hy⟩ := hO.block q e.symm; exact ne_of_type hx hy (by decide) rfl)
      have hV8 : OwnV w8 base rs ds := hV7.of_heap fun q x hx => hg8.block q (hlt_ hx) (fun e => by obtain ⟨_, _, y, hy⟩ := hO7.block q e.symm; exact ne_of_type hx hy (by decide) rfl)
      go_ret
      refine ⟨_, rfl, ⟨_, hO8.base hbase, ?_⟩, hB8⟩
      rw [← HR.out, HE.out]
      exact (hV8.append (v1.below hB8)).append (v2.below hB8)
    | e :: et, l :: lt =>
      cases ms1 with
      | nil => exact absurd h1.says.1 (by simp)
      | cons m1 mt1 =>
      cases ms2 with
      | nil => exact absurd h2.says.1 (by simp)
      | cons m2 mt2 =>
      obtain ⟨vt1, e1, e2, e3, e4⟩ := v1.tail
      obtain ⟨vt2, f1, f2, f3, f4⟩ := v2.tail
      have t1 := hid (h1.tail)
      have t2 := hid (h2.tail)
      obtain ⟨q1, _⟩ := h1.pos (by simp)
      obtain ⟨q2, _⟩ := h2.pos (by simp)
      obtain ⟨_, _, r1, _, _, _, _, _, _⟩ := h1.at 0 (by simp)
      obtain ⟨_, _, r2, _, _, _, _, _, _⟩ := h2.at 0 (by simp)
      have R1 := h1.rd 0 (by simp)
      have R2 := h2.rd 0 (by simp)
      have s1 := h1.says.2 0 (by simp)
      have s2 := h2.says.2 0 (by simp)
      simp only [List.getD_cons_zero, Nat.zero_mul, Nat.add_zero] at r1 r2 R1 R2 s1 s2
      have lm1 := s1.len
      have lm2 := s2.len
      have om1 := s1.one
      have om2 := s2.one
      have S1 := hid (show (Try.prog.info? 40).map (·.size) = some (encM m1).length by rw [chgSize, lm1])
      have S2 := hid (show (Try.prog.info? 40).map (·.size) = some (encM m2).length by rw [chgSize, lm2])
      have yk1 := y1 e (by simp)
      have yk2 := y2 l (by simp)
      have yt1 : ∀ c ∈ et, Byts c.key := fun c hc => y1 c (by simp [hc])
      have yt2 : ∀ c ∈ lt, Byts c.key := fun c hc => y2 c (by simp [hc])
      have hi1 : (Try.prog.info? 24).map (·.size) = some (ints .u8 e.key).length := by rw [keySize, ints_len, e2]
      have hi2 : (Try.prog.info? 24).map (·.size) = some (ints .u8 l.key).length := by rw [keySize, ints_len, f2]
      have KCM := hid (fun w => Compare_any w e.key l.key yk1 yk2 e2 f2)
      have hs0 := hB.size
      have HLR := hid (show rs.length + 1 ≤ 2199023255552 by have a1 := HDL.out; have a2 := hlen.out; simp at a1; omega)
      have r1' := rng_below r1 hB q1
      have r2' := rng_below r2 hB q2
      have R1' := rng_below R1 hB q1
      have R2' := rng_below R2 hB q2
      have i1 : (et.length : Int) ≤ 1000000000 := by have a1 := HDL.out; have a2 := hlen.out; simp at a1; omega
      have i2 : (lt.length : Int) ≤ 1000000000 := by have a1 := HDL.out; have a2 := hlen.out; simp at a1; omega
      have HM := hid (merge_step e et l lt)
      have HDE := hid (show ds.length + (et.length + 1) + (lt.length + 1) ≤ L by have := HDL.out; simpa using this)
      have V1 := hid v1
      have V2 := hid v2
      have H1 := hid h1
      have H2 := hid h2
      have Y1 := hid y1
      have Y2 := hid y2
      have E4 := hid e4
      have F4 := hid f4
      have E1 := hid e1
      have F1 := hid f1
      have E2 := hid e2
      have F2 := hid f2
      have E3 := hid e3
      have F3 := hid f3
      have HQ1 : b1 < wr.heap.size := by omega
      have HQ2 : b2 < wr.heap.size := by omega
      simp only [List.length_cons] at h1 h2 H1 H2 ⊢
      clear v1 v2 h1 h2 y1 y2 e4 f4 e1 f1 e3 f3 r1 r2 R1 R2 s1 s2 q1 q2 HDL e2 f2 yk1 yk2
      generalize hn1 : et.length = n1 at *
      generalize hn2 : lt.length = n2 at *
      have HN1 := hid hn1
      have HN2 := hid hn2
      clear hn1 hn2
      generalize hk1 : e.key = k1 at *
      generalize hk2 : l.key = k2 at *
      have HK1 := hid hk1
      have HK2 := hid hk2
      clear hk1 hk2
      rcases cmpK_cases k1 k2 with hc | hc | hc
      · have HRX := hid (show R = ds ++ [e] ++ mergeL et (l :: lt) by rw [HRR.out, HM.out.1 hc]; simp)
        have HDX := hid (show (ds ++ [e]).length + et.length + (l :: lt).length ≤ L by have a1 := HDE.out; have a2 := HN1.out; have a3 := HN2.out; simp only [List.length_append, List.length_cons, List.length_nil]; omega)
        rw [hc] at KCM
        clear HRR HDE hc
        go_wp2
        refine wp_region_noPanic ?_
        refine wp_region_held_drew (S := fun w' => Below wr.heap.size wr w') (by kernel_rfl) (Below.refl _ _).drew (fun hHeld => ?_)
        refine wpAnyH_take (i := 0) (oi := { dst := some 15, op := Op.move (Operand.tmp 0), type := 29, pos := "order.go:66", after := #[], guard := none }) (v := .slice (some ⟨b1, o1, none⟩) (n1 + 1) c1) rfl (by kernel_rfl) (by kernel_rfl) (by kernel_rfl) (fun _ _ _ h => h) (Or.inl ⟨by rfl, by intro w hS; go_simp⟩) hHeld ?_
        try simp only [Act.put, List.setIfInBounds_toArray, List.set_cons_zero, List.set_cons_succ]
        refine wpAnyH_take (i := 4) (oi := { dst := some 19, op := Op.move (Operand.tmp 1), type := 29, pos := "order.go:66", after := #[], guard := none }) (v := .slice (some ⟨b2, o2, none⟩) (n2 + 1) c2) rfl (by kernel_rfl) (by kernel_rfl) (by kernel_rfl) (fun _ _ _ h => h) (Or.inl ⟨by rfl, by intro w hS; go_simp⟩) hHeld ?_
        try simp only [Act.put, List.setIfInBounds_toArray, List.set_cons_zero, List.set_cons_succ]
        refine wpAnyH_take (i := 1) (oi := { dst := some 16, op := Op.indexAddr 29 (Operand.tmp 15) (Operand.const (Value.int IntKind.i64 0)), type := 0, pos := "order.go:66", after := #[{ on := 0, ground := Ground.data }], guard := none }) (v := .pointer (some ⟨b1, o1, none⟩)) rfl (by kernel_rfl) (by kernel_rfl) (by kernel_rfl) (fun _ _ _ h => h) (Or.inl ⟨by rfl, by intro w hS; go_simp⟩) hHeld ?_
        try simp only [Act.put, List.setIfInBounds_toArray, List.set_cons_zero, List.set_cons_succ]
        refine wpAnyH_take (i := 5) (oi := { dst := some 20, op := Op.indexAddr 29 (Operand.tmp 19) (Operand.const (Value.int IntKind.i64 0)), type := 0, pos := "order.go:66", after := #[{ on := 4, ground := Ground.data }], guard := none }) (v := .pointer (some ⟨b2, o2, none⟩)) rfl (by kernel_rfl) (by kernel_rfl) (by kernel_rfl) (fun _ _ _ h => h) (Or.inl ⟨by rfl, by intro w hS; go_simp⟩) hHeld ?_
        try simp only [Act.put, List.setIfInBounds_toArray, List.set_cons_zero, List.set_cons_succ]
        refine wpAnyH_take (i := 2) (oi := { dst := some 17, op := Op.fieldAddr 40 (Operand.tmp 16) 0, type := 0, pos := "order.go:66", after := #[{ on := 1, ground := Ground.data }], guard := none }) (v := .pointer (some ⟨b1, o1, none⟩)) rfl (by kernel_rfl) (by kernel_rfl) (by kernel_rfl) (fun _ _ _ h => h) (Or.inl ⟨by rfl, by intro w hS; go_simp⟩) hHeld ?_
        try simp only [Act.put, List.setIfInBounds_toArray, List.set_cons_zero, List.set_cons_succ]
        refine wpAnyH_take (i := 6) (oi := { dst := some 21, op := Op.fieldAddr 40 (Operand.tmp 20) 0, type := 0, pos := "order.go:66", after := #[{ on := 5, ground := Ground.data }], guard := none }) (v := .pointer (some ⟨b2, o2, none⟩)) rfl (by kernel_rfl) (by kernel_rfl) (by kernel_rfl) (fun _ _ _ h => h) (Or.inl ⟨by rfl, by intro w hS; go_simp⟩) hHeld ?_
        try simp only [Act.put, List.setIfInBounds_toArray, List.set_cons_zero, List.set_cons_succ]
        refine wpAnyH_take (i := 3) (oi := { dst := some 18, op := Op.load 24 (Operand.tmp 17), type := 24, pos := "order.go:66", after := #[{ on := 2, ground := Ground.data }], guard := none }) (v := .agg (ints .u8 k1).toArray) rfl (by kernel_rfl) (by kernel_rfl) (by kernel_rfl) (fun _ _ _ h => h) (yieldsIf_load_mid (by rfl) 24 _ rfl b1 (o1) rfl (ints .u8 k1) _ (fun w hS => rng_below r1' hS HQ1) Try.underlying24 rfl hi1) hHeld ?_
        try simp only [Act.put, List.setIfInBounds_toArray, List.set_cons_zero, List.set_cons_succ]
        refine wpAnyH_take (i := 7) (oi := { dst := some 22, op := Op.load 24 (Operand.tmp 21), type := 24, pos := "order.go:66", after := #[{ on := 6, ground := Ground.data }], guard := none }) (v := .agg (ints .u8 k2).toArray) rfl (by kernel_rfl) (by kernel_rfl) (by kernel_rfl) (fun _ _ _ h => h) (yieldsIf_load_mid (by rfl) 24 _ rfl b2 (o2) rfl (ints .u8 k2) _ (fun w hS => rng_below r2' hS HQ2) Try.underlying24 rfl hi2) hHeld ?_
        try simp only [Act.put, List.setIfInBounds_toArray, List.set_cons_zero, List.set_cons_succ]
        refine wpAnyH_ready (rs := [8]) (by kernel_rfl) (by simp) ?_
        refine (AllReadyH.cons (o := { dst := some 23, op := Op.call { callee := Callee.value (Operand.func 12), args := #[Operand.tmp 18, Operand.tmp 22], argTypes := #[24, 24] }, type := 3, pos := "order.go:66", after := #[{ on := 3, ground := Ground.data }, { on := 7, ground := Ground.data }], guard := none }) rfl (fun K hK => ?_) AllReadyH.nil)
        go_simp
        go_at_call 12
        refine (KCM.out _).mono ?_
        rintro e w4 ⟨rfl, hb4⟩
        go_wp2_with fail
        refine hK.out _ _ (hHeld.trans (hb4.mono hHeld.size)) (fun hHeld2 => ?_)
        clear hK K hHeld
        have hHeld := hHeld2
        clear hHeld2
        clear hb4
        try simp only [Act.put, List.setIfInBounds_toArray, List.set_cons_zero, List.set_cons_succ]
        refine wpAnyH_take (i := 9) (oi := { dst := some 6, op := Op.assign (Operand.tmp 23), type := 3, pos := "order.go:66", after := #[{ on := 8, ground := Ground.data }, { on := 8, ground := Ground.chain }, { on := 0, ground := Ground.phase }, { on := 1, ground := Ground.phase }, { on := 2, ground := Ground.phase }, { on := 3, ground := Ground.phase }, { on := 4, ground := Ground.phase }, { on := 5, ground := Ground.phase }, { on := 6, ground := Ground.phase }, { on := 7, ground := Ground.phase }, { on := 8, ground := Ground.phase }], guard := none }) (v := .int .i64 (-1)) rfl (by kernel_rfl) (by kernel_rfl) (by kernel_rfl) (fun _ _ _ h => h) (Or.inl ⟨by rfl, by intro w hS; go_simp⟩) hHeld ?_
        try simp only [Act.put, List.setIfInBounds_toArray, List.set_cons_zero, List.set_cons_succ]
        refine wpAnyH_done (by kernel_rfl) ?_ _
        refine NoPanic.normal ?_
        have hb5 := hHeld
        clear hHeld
        have hO4 := hO.below hb5 (Nat.le_refl _)
        have hV4 := hVr.below hb5
        have RX := rng_below R1' hb5 HQ1
        have hBx := hB.trans (hb5.mono hB.size)
        have hs4 := hBx.size
        clear hO hVr hb5 hB r1' r2' R1' R2'
        go_wp2_with (first
          | refine wpList_load_mid rfl 40 _ rfl b1 o1 rfl (encM m1) _ RX Try.underlying40 rfl S1.out ?_
          | refine wpList_slice rfl _ rfl (encM m1) lm1 rfl ?_
          | (at_builtin; refine wpList_pushC rfl (.tmp 26) (.tmp 30) rfl w.heap.size _ rs m1 rfl hO4 rfl lm1 om1 HLR.out hs4 _ _ ?_; intro v7 w7 hO7 hB7 hK7 hD7)
          | (refine wpList_cutC rfl (.tmp 40) rfl b1 o1 n1 c1 rfl ?_; intro s3 hs3; replace hs3 := hid hs3))
        obtain ⟨p1, rfl, T1⟩ := t1.out s3 hs3.out
        have hV7 : OwnV w7 base (rs ++ [m1]) (ds ++ [e]) := by
          have h0 := hV4.of_heap (w1 := w7) fun q x hx => hK7 q (hlt_ hx) fun e => by obtain ⟨_, _, y, hy⟩ := hO4.block q e; exact ne_of_type hx hy (by decide) rfl
          refine h0.snoc (E1.out.trans HK1.out.symm) (by rw [HK1.out]; exact E2.out) E3.out ((E4.out.below hBx (Nat.le_refl _)).of_heap fun q hq => ?_)
          have hx := (E4.out.below hBx (Nat.le_refl _))
          obtain ⟨q1, x, hx2⟩ := hx.ne_chg q hq
          exact hK7 q q1 fun e => by obtain ⟨_, _, y, hy⟩ := hO4.block q e; exact ne_of_type hx2 hy (by decide) rfl
        go_roundw
        case rel => exact ⟨et, (l :: lt), ds ++ [e], b1, p1, c1 - 1, b2, o2, c2, mt1, (m2 :: mt2), rs ++ [m1], by rw [HN1.out], by rw [List.length_cons, HN2.out], T1, vt1, H2.out, V2.out, yt1, Y2.out, hO7, hV7, HRX.out, HDX.out, hBx.trans hB7⟩
        case measure => simp [slen]; try omega
      · have HRX := hid (show R = ds ++ [l] ++ mergeL et lt by rw [HRR.out, HM.out.2.1 hc]; simp)
        have HDX := hid (show (ds ++ [l]).length + et.length + lt.length ≤ L by have a1 := HDE.out; have a2 := HN1.out; have a3 := HN2.out; simp only [List.length_append, List.length_cons, List.length_nil]; omega)
        rw [hc] at KCM
        clear HRR HDE hc
        go_wp2
        refine wp_region_noPanic ?_
        refine wp_region_held_drew (S := fun w' => Below wr.heap.size wr w') (by kernel_rfl) (Below.refl _ _).drew (fun hHeld => ?_)
        refine wpAnyH_take (i := 0) (oi := { dst := some 15, op := Op.move (Operand.tmp 0), type := 29, pos := "order.go:66", after := #[], guard := none }) (v := .slice (some ⟨b1, o1, none⟩) (n1 + 1) c1) rfl (by kernel_rfl) (by kernel_rfl) (by kernel_rfl) (fun _ _ _ h => h) (Or.inl ⟨by rfl, by intro w hS; go_simp⟩) hHeld ?_
        try simp only [Act.put, List.setIfInBounds_toArray, List.set_cons_zero, List.set_cons_succ]
        refine wpAnyH_take (i := 4) (oi := { dst := some 19, op := Op.move (Operand.tmp 1), type := 29, pos := "order.go:66", after := #[], guard := none }) (v := .slice (some ⟨b2, o2, none⟩) (n2 + 1) c2) rfl (by kernel_rfl) (by kernel_rfl) (by kernel_rfl) (fun _ _ _ h => h) (Or.inl ⟨by rfl, by intro w hS; go_simp⟩) hHeld ?_
        try simp only [Act.put, List.setIfInBounds_toArray, List.set_cons_zero, List.set_cons_succ]
        refine wpAnyH_take (i := 1) (oi := { dst := some 16, op := Op.indexAddr 29 (Operand.tmp 15) (Operand.const (Value.int IntKind.i64 0)), type := 0, pos := "order.go:66", after := #[{ on := 0, ground := Ground.data }], guard := none }) (v := .pointer (some ⟨b1, o1, none⟩)) rfl (by kernel_rfl) (by kernel_rfl) (by kernel_rfl) (fun _ _ _ h => h) (Or.inl ⟨by rfl, by intro w hS; go_simp⟩) hHeld ?_
        try simp only [Act.put, List.setIfInBounds_toArray, List.set_cons_zero, List.set_cons_succ]
        refine wpAnyH_take (i := 5) (oi := { dst := some 20, op := Op.indexAddr 29 (Operand.tmp 19) (Operand.const (Value.int IntKind.i64 0)), type := 0, pos := "order.go:66", after := #[{ on := 4, ground := Ground.data }], guard := none }) (v := .pointer (some ⟨b2, o2, none⟩)) rfl (by kernel_rfl) (by kernel_rfl) (by kernel_rfl) (fun _ _ _ h => h) (Or.inl ⟨by rfl, by intro w hS; go_simp⟩) hHeld ?_
        try simp only [Act.put, List.setIfInBounds_toArray, List.set_cons_zero, List.set_cons_succ]
        refine wpAnyH_take (i := 2) (oi := { dst := some 17, op := Op.fieldAddr 40 (Operand.tmp 16) 0, type := 0, pos := "order.go:66", after := #[{ on := 1, ground := Ground.data }], guard := none }) (v := .pointer (some ⟨b1, o1, none⟩)) rfl (by kernel_rfl) (by kernel_rfl) (by kernel_rfl) (fun _ _ _ h => h) (Or.inl ⟨by rfl, by intro w hS; go_simp⟩) hHeld ?_
        try simp only [Act.put, List.setIfInBounds_toArray, List.set_cons_zero, List.set_cons_succ]
        refine wpAnyH_take (i := 6) (oi := { dst := some 21, op := Op.fieldAddr 40 (Operand.tmp 20) 0, type := 0, pos := "order.go:66", after := #[{ on := 5, ground := Ground.data }], guard := none }) (v := .pointer (some ⟨b2, o2, none⟩)) rfl (by kernel_rfl) (by kernel_rfl) (by kernel_rfl) (fun _ _ _ h => h) (Or.inl ⟨by rfl, by intro w hS; go_simp⟩) hHeld ?_
        try simp only [Act.put, List.setIfInBounds_toArray, List.set_cons_zero, List.set_cons_succ]
        refine wpAnyH_take (i := 3) (oi := { dst := some 18, op := Op.load 24 (Operand.tmp 17), type := 24, pos := "order.go:66", after := #[{ on := 2, ground := Ground.data }], guard := none }) (v := .agg (ints .u8 k1).toArray) rfl (by kernel_rfl) (by kernel_rfl) (by kernel_rfl) (fun _ _ _ h => h) (yieldsIf_load_mid (by rfl) 24 _ rfl b1 (o1) rfl (ints .u8 k1) _ (fun w hS => rng_below r1' hS HQ1) Try.underlying24 rfl hi1) hHeld ?_
        try simp only [Act.put, List.setIfInBounds_toArray, List.set_cons_zero, List.set_cons_succ]
        refine wpAnyH_take (i := 7) (oi := { dst := some 22, op := Op.load 24 (Operand.tmp 21), type := 24, pos := "order.go:66", after := #[{ on := 6, ground := Ground.data }], guard := none }) (v := .agg (ints .u8 k2).toArray) rfl (by kernel_rfl) (by kernel_rfl) (by kernel_rfl) (fun _ _ _ h => h) (yieldsIf_load_mid (by rfl) 24 _ rfl b2 (o2) rfl (ints .u8 k2) _ (fun w hS => rng_below r2' hS HQ2) Try.underlying24 rfl hi2) hHeld ?_
        try simp only [Act.put, List.setIfInBounds_toArray, List.set_cons_zero, List.set_cons_succ]
        refine wpAnyH_ready (rs := [8]) (by kernel_rfl) (by simp) ?_
        refine (AllReadyH.cons (o := { dst := some 23, op := Op.call { callee := Callee.value (Operand.func 12), args := #[Operand.tmp 18, Operand.tmp 22], argTypes := #[24, 24] }, type := 3, pos := "order.go:66", after := #[{ on := 3, ground := Ground.data }, { on := 7, ground := Ground.data }], guard := none }) rfl (fun K hK => ?_) AllReadyH.nil)
        go_simp
        go_at_call 12
        refine (KCM.out _).mono ?_
        rintro e w4 ⟨rfl, hb4⟩
        go_wp2_with fail
        refine hK.out _ _ (hHeld.trans (hb4.mono hHeld.size)) (fun hHeld2 => ?_)
        clear hK K hHeld
        have hHeld := hHeld2
        clear hHeld2
        clear hb4
        try simp only [Act.put, List.setIfInBounds_toArray, List.set_cons_zero, List.set_cons_succ]
        refine wpAnyH_take (i := 9) (oi := { dst := some 6, op := Op.assign (Operand.tmp 23), type := 3, pos := "order.go:66", after := #[{ on := 8, ground := Ground.data }, { on := 8, ground := Ground.chain }, { on := 0, ground := Ground.phase }, { on := 1, ground := Ground.phase }, { on := 2, ground := Ground.phase }, { on := 3, ground := Ground.phase }, { on := 4, ground := Ground.phase }, { on := 5, ground := Ground.phase }, { on := 6, ground := Ground.phase }, { on := 7, ground := Ground.phase }, { on := 8, ground := Ground.phase }], guard := none }) (v := .int .i64 0) rfl (by kernel_rfl) (by kernel_rfl) (by kernel_rfl) (fun _ _ _ h => h) (Or.inl ⟨by rfl, by intro w hS; go_simp⟩) hHeld ?_
        try simp only [Act.put, List.setIfInBounds_toArray, List.set_cons_zero, List.set_cons_succ]
        refine wpAnyH_done (by kernel_rfl) ?_ _
        refine NoPanic.normal ?_
        have hb5 := hHeld
        clear hHeld
        have hO4 := hO.below hb5 (Nat.le_refl _)
        have hV4 := hVr.below hb5
        have RX := rng_below R2' hb5 HQ2
        have hBx := hB.trans (hb5.mono hB.size)
        have hs4 := hBx.size
        clear hO hVr hb5 hB r1' r2' R1' R2'
        go_wp2_with (first
          | refine wpList_load_mid rfl 40 _ rfl b2 o2 rfl (encM m2) _ RX Try.underlying40 rfl S2.out ?_
          | refine wpList_slice rfl _ rfl (encM m2) lm2 rfl ?_
          | (at_builtin; refine wpList_pushC rfl (.tmp 32) (.tmp 36) rfl w.heap.size _ rs m2 rfl hO4 rfl lm2 om2 HLR.out hs4 _ _ ?_; intro v7 w7 hO7 hB7 hK7 hD7)
          | (refine wpList_cutC rfl (.tmp 40) rfl b1 o1 n1 c1 rfl ?_; intro s3 hs3; replace hs3 := hid hs3)
          | (refine wpList_cutC rfl (.tmp 44) rfl b2 o2 n2 c2 rfl ?_; intro s4 hs5; replace hs5 := hid hs5))
        obtain ⟨p1, rfl, T1⟩ := t1.out s3 hs3.out
        obtain ⟨p2, rfl, T2⟩ := t2.out s4 hs5.out
        have hV7 : OwnV w7 base (rs ++ [m2]) (ds ++ [l]) := by
          have h0 := hV4.of_heap (w1 := w7) fun q x hx => hK7 q (hlt_ hx) fun e => by obtain ⟨_, _, y, hy⟩ := hO4.block q e; exact ne_of_type hx hy (by decide) rfl
          refine h0.snoc (F1.out.trans HK2.out.symm) (by rw [HK2.out]; exact F2.out) F3.out ((F4.out.below hBx (Nat.le_refl _)).of_heap fun q hq => ?_)
          have hx := (F4.out.below hBx (Nat.le_refl _))
          obtain ⟨q1, x, hx2⟩ := hx.ne_chg q hq
          exact hK7 q q1 fun e => by obtain ⟨_, _, y, hy⟩ := hO4.block q e; exact ne_of_type hx2 hy (by decide) rfl
        go_roundw
        case rel => exact ⟨et, lt, ds ++ [l], b1, p1, c1 - 1, b2, p2, c2 - 1, mt1, mt2, rs ++ [m2], by rw [HN1.out], by rw [HN2.out], T1, vt1, T2, vt2, yt1, yt2, hO7, hV7, HRX.out, HDX.out, hBx.trans hB7⟩
        case measure => simp [slen]; try omega
      · have HRX := hid (show R = ds ++ [l] ++ mergeL (e :: et) lt by rw [HRR.out, HM.out.2.2 hc]; simp)
        have HDX := hid (show (ds ++ [l]).length + (e :: et).length + lt.length ≤ L by have a1 := HDE.out; have a2 := HN1.out; have a3 := HN2.out; simp only [List.length_append, List.length_cons, List.length_nil]; omega)
        rw [hc] at KCM
        clear HRR HDE hc
        go_wp2
        refine wp_region_noPanic ?_
        refine wp_region_held_drew (S := fun w' => Below wr.heap.size wr w') (by kernel_rfl) (Below.refl _ _).drew (fun hHeld => ?_)
        refine wpAnyH_take (i := 0) (oi := { dst := some 15, op := Op.move (Operand.tmp 0), type := 29, pos := "order.go:66", after := #[], guard := none }) (v := .slice (some ⟨b1, o1, none⟩) (n1 + 1) c1) rfl (by kernel_rfl) (by kernel_rfl) (by kernel_rfl) (fun _ _ _ h => h) (Or.inl ⟨by rfl, by intro w hS; go_simp⟩) hHeld ?_
        try simp only [Act.put, List.setIfInBounds_toArray, List.set_cons_zero, List.set_cons_succ]
        refine wpAnyH_take (i := 4) (oi := { dst := some 19, op := Op.move (Operand.tmp 1), type := 29, pos := "order.go:66", after := #[], guard := none }) (v := .slice (some ⟨b2, o2, none⟩) (n2 + 1) c2) rfl (by kernel_rfl) (by kernel_rfl) (by kernel_rfl) (fun _ _ _ h => h) (Or.inl ⟨by rfl, by intro w hS; go_simp⟩) hHeld ?_
        try simp only [Act.put, List.setIfInBounds_toArray, List.set_cons_zero, List.set_cons_succ]
        refine wpAnyH_take (i := 1) (oi := { dst := some 16, op := Op.indexAddr 29 (Operand.tmp 15) (Operand.const (Value.int IntKind.i64 0)), type := 0, pos := "order.go:66", after := #[{ on := 0, ground := Ground.data }], guard := none }) (v := .pointer (some ⟨b1, o1, none⟩)) rfl (by kernel_rfl) (by kernel_rfl) (by kernel_rfl) (fun _ _ _ h => h) (Or.inl ⟨by rfl, by intro w hS; go_simp⟩) hHeld ?_
        try simp only [Act.put, List.setIfInBounds_toArray, List.set_cons_zero, List.set_cons_succ]
        refine wpAnyH_take (i := 5) (oi := { dst := some 20, op := Op.indexAddr 29 (Operand.tmp 19) (Operand.const (Value.int IntKind.i64 0)), type := 0, pos := "order.go:66", after := #[{ on := 4, ground := Ground.data }], guard := none }) (v := .pointer (some ⟨b2, o2, none⟩)) rfl (by kernel_rfl) (by kernel_rfl) (by kernel_rfl) (fun _ _ _ h => h) (Or.inl ⟨by rfl, by intro w hS; go_simp⟩) hHeld ?_
        try simp only [Act.put, List.setIfInBounds_toArray, List.set_cons_zero, List.set_cons_succ]
        refine wpAnyH_take (i := 2) (oi := { dst := some 17, op := Op.fieldAddr 40 (Operand.tmp 16) 0, type := 0, pos := "order.go:66", after := #[{ on := 1, ground := Ground.data }], guard := none }) (v := .pointer (some ⟨b1, o1, none⟩)) rfl (by kernel_rfl) (by kernel_rfl) (by kernel_rfl) (fun _ _ _ h => h) (Or.inl ⟨by rfl, by intro w hS; go_simp⟩) hHeld ?_
        try simp only [Act.put, List.setIfInBounds_toArray, List.set_cons_zero, List.set_cons_succ]
        refine wpAnyH_take (i := 6) (oi := { dst := some 21, op := Op.fieldAddr 40 (Operand.tmp 20) 0, type := 0, pos := "order.go:66", after := #[{ on := 5, ground := Ground.data }], guard := none }) (v := .pointer (some ⟨b2, o2, none⟩)) rfl (by kernel_rfl) (by kernel_rfl) (by kernel_rfl) (fun _ _ _ h => h) (Or.inl ⟨by rfl, by intro w hS; go_simp⟩) hHeld ?_
        try simp only [Act.put, List.setIfInBounds_toArray, List.set_cons_zero, List.set_cons_succ]
        refine wpAnyH_take (i := 3) (oi := { dst := some 18, op := Op.load 24 (Operand.tmp 17), type := 24, pos := "order.go:66", after := #[{ on := 2, ground := Ground.data }], guard := none }) (v := .agg (ints .u8 k1).toArray) rfl (by kernel_rfl) (by kernel_rfl) (by kernel_rfl) (fun _ _ _ h => h) (yieldsIf_load_mid (by rfl) 24 _ rfl b1 (o1) rfl (ints .u8 k1) _ (fun w hS => rng_below r1' hS HQ1) Try.underlying24 rfl hi1) hHeld ?_
        try simp only [Act.put, List.setIfInBounds_toArray, List.set_cons_zero, List.set_cons_succ]
        refine wpAnyH_take (i := 7) (oi := { dst := some 22, op := Op.load 24 (Operand.tmp 21), type := 24, pos := "order.go:66", after := #[{ on := 6, ground := Ground.data }], guard := none }) (v := .agg (ints .u8 k2).toArray) rfl (by kernel_rfl) (by kernel_rfl) (by kernel_rfl) (fun _ _ _ h => h) (yieldsIf_load_mid (by rfl) 24 _ rfl b2 (o2) rfl (ints .u8 k2) _ (fun w hS => rng_below r2' hS HQ2) Try.underlying24 rfl hi2) hHeld ?_
        try simp only [Act.put, List.setIfInBounds_toArray, List.set_cons_zero, List.set_cons_succ]
        refine wpAnyH_ready (rs := [8]) (by kernel_rfl) (by simp) ?_
        refine (AllReadyH.cons (o := { dst := some 23, op := Op.call { callee := Callee.value (Operand.func 12), args := #[Operand.tmp 18, Operand.tmp 22], argTypes := #[24, 24] }, type := 3, pos := "order.go:66", after := #[{ on := 3, ground := Ground.data }, { on := 7, ground := Ground.data }], guard := none }) rfl (fun K hK => ?_) AllReadyH.nil)
        go_simp
        go_at_call 12
        refine (KCM.out _).mono ?_
        rintro e w4 ⟨rfl, hb4⟩
        go_wp2_with fail
        refine hK.out _ _ (hHeld.trans (hb4.mono hHeld.size)) (fun hHeld2 => ?_)
        clear hK K hHeld
        have hHeld := hHeld2
        clear hHeld2
        clear hb4
        try simp only [Act.put, List.setIfInBounds_toArray, List.set_cons_zero, List.set_cons_succ]
        refine wpAnyH_take (i := 9) (oi := { dst := some 6, op := Op.assign (Operand.tmp 23), type := 3, pos := "order.go:66", after := #[{ on := 8, ground := Ground.data }, { on := 8, ground := Ground.chain }, { on := 0, ground := Ground.phase }, { on := 1, ground := Ground.phase }, { on := 2, ground := Ground.phase }, { on := 3, ground := Ground.phase }, { on := 4, ground := Ground.phase }, { on := 5, ground := Ground.phase }, { on := 6, ground := Ground.phase }, { on := 7, ground := Ground.phase }, { on := 8, ground := Ground.phase }], guard := none }) (v := .int .i64 1) rfl (by kernel_rfl) (by kernel_rfl) (by kernel_rfl) (fun _ _ _ h => h) (Or.inl ⟨by rfl, by intro w hS; go_simp⟩) hHeld ?_
        try simp only [Act.put, List.setIfInBounds_toArray, List.set_cons_zero, List.set_cons_succ]
        refine wpAnyH_done (by kernel_rfl) ?_ _
        refine NoPanic.normal ?_
        have hb5 := hHeld
        clear hHeld
        have hO4 := hO.below hb5 (Nat.le_refl _)
        have hV4 := hVr.below hb5
        have RX := rng_below R2' hb5 HQ2
        have hBx := hB.trans (hb5.mono hB.size)
        have hs4 := hBx.size
        clear hO hVr hb5 hB r1' r2' R1' R2'
        go_wp2_with (first
          | refine wpList_load_mid rfl 40 _ rfl b2 o2 rfl (encM m2) _ RX Try.underlying40 rfl S2.out ?_
          | refine wpList_slice rfl _ rfl (encM m2) lm2 rfl ?_
          | (at_builtin; refine wpList_pushC rfl (.tmp 32) (.tmp 36) rfl w.heap.size _ rs m2 rfl hO4 rfl lm2 om2 HLR.out hs4 _ _ ?_; intro v7 w7 hO7 hB7 hK7 hD7)
          | (refine wpList_cutC rfl (.tmp 44) rfl b2 o2 n2 c2 rfl ?_; intro s4 hs5; replace hs5 := hid hs5))
        obtain ⟨p2, rfl, T2⟩ := t2.out s4 hs5.out
        have hV7 : OwnV w7 base (rs ++ [m2]) (ds ++ [l]) := by
          have h0 := hV4.of_heap (w1 := w7) fun q x hx => hK7 q (hlt_ hx) fun e => by obtain ⟨_, _, y, hy⟩ := hO4.block q e; exact ne_of_type hx hy (by decide) rfl
          refine h0.snoc (F1.out.trans HK2.out.symm) (by rw [HK2.out]; exact F2.out) F3.out ((F4.out.below hBx (Nat.le_refl _)).of_heap fun q hq => ?_)
          have hx := (F4.out.below hBx (Nat.le_refl _))
          obtain ⟨q1, x, hx2⟩ := hx.ne_chg q hq
          exact hK7 q q1 fun e => by obtain ⟨_, _, y, hy⟩ := hO4.block q e; exact ne_of_type hx2 hy (by decide) rfl
        go_roundw
        case rel => exact ⟨(e :: et), lt, ds ++ [l], b1, o1, c1, b2, p2, c2 - 1, (m1 :: mt1), mt2, rs ++ [m2], by rw [List.length_cons, HN1.out], by rw [HN2.out], H1.out, V1.out, T2, vt2, Y1.out, yt2, hO7, hV7, HRX.out, HDX.out, hBx.trans hB7⟩
        case measure => simp [slen]; try omega
end Go.Proofs.Ytcifbnldohmbnaa
