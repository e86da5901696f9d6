import Derived.Test.YtpmjijadjblkeaaDoorTr
import Derived.Maps.AppendAt
import Derived.Deep.DeepCutAuto
namespace Go.Proofs.YtpmjijadjblkeaaDoor
set_option linter.unusedVariables false
set_option linter.unusedSimpArgs false
open Go.RowKit
attribute [local go_sem ↓] Go.wp_at_zero Go.wp_at_succ

/-- The cells of a slice of bytes, as append asks them. -/
theorem src_news {w : World} {sp : Addr} {cap : Nat} {zs : List Int} (h : Src w (some sp) cap zs) : ∀ j u, (ints .u8 zs)[j]? = some u → w.cell? (sp.add j) = some u := fun j u hu => by
  obtain ⟨_, _, b, o, _, hsp, hc⟩ := h
  have hj : j < zs.length := by have := (List.getElem?_eq_some_iff.1 hu).1; rwa [ints_len] at this
  rw [ints_get .u8 zs j hj] at hu
  obtain rfl := Option.some.inj (hsp (by omega))
  rw [Addr.add_mid, ← hu]; exact hc j hj

set_option maxRecDepth 100000 in
set_option maxHeartbeats 400000 in
theorem copied_any (w : World) (zs : List Int) (sp : Option Addr) (cap : Nat) (hS : Src w sp cap zs) (hnil : sp = none → cap = 0) (hlen : zs.length ≤ 1048576) :
    Calls Tryd.prog 14 #[.slice sp zs.length cap] w fun e w' => ∃ v, e = .returned v ∧ Own w' w.heap.size v zs ∧ Below w.heap.size w w' := by
  obtain ⟨i5, hi5, hz5, hs5, hy5⟩ := Tryd.info5
  have HI := hid hi5
  clear hi5
  have hO := Own.nil w w.heap.size
  cases sp with
  | none =>
    obtain rfl := hnil rfl
    obtain rfl : zs = [] := List.eq_nil_of_length_eq_zero (by have := hS.1; omega)
    go_enter Tryd.func14, Tryd.ntmps14
    go_wp2_with (first | (at_builtin; refine wpList_append_own_none rfl (.tmp 4) (.tmp 5) 26 rfl w.heap.size 5 i5 1 Tryd.underlying26 HI.out _ _ _ rfl hO rfl ?_))
    go_ret
    exact ⟨_, rfl, hO, Below.refl _ _⟩
  | some ad =>
    have A1 := hid (src_news hS)
    have A2 : Hid ((ints .u8 zs).length = zs.length * 1) := by show _ = _; rw [ints_len]; omega
    have A3 := hid (ints_one .u8 zs)
    have h63 : ([] : List Int).length + zs.length ≤ maxLen := by unfold maxLen; simp; omega
    have hby : (([] : List Int).length + zs.length) * 1 ≤ 140737488355328 := by simp; omega
    have A4 := hid h63
    have A5 := hid hby
    clear h63 hby
    go_enter Tryd.func14, Tryd.ntmps14
    go_wp2_with (first | (at_builtin; refine wpList_append_own _ rfl (.tmp 4) (.tmp 5) 26 rfl w.heap.size 5 i5 (.int .u8 0) 1 1 Tryd.underlying26 HI.out hz5 hs5 hy5 rfl Nat.one_pos (.slice none 0 0) ([] : List Int).length (ints .u8 []) rfl hO ad zs.length cap (ints .u8 zs) rfl A2.out A1.out A3.out A4.out A5.out (Nat.le_refl _) ?_; intro v' w5 hO5 hg5 _))
    go_ret
    exact ⟨_, rfl, (by have := Own.mk_append hO5; rwa [List.nil_append] at this), grown_keeps hg5 (fun k hk => by simp [Value.ownBlock] at hk) (Nat.le_refl _)⟩

/-- append(own, src...), src nil or not. -/
theorem wpList_append_any {w : World} {ops : Array Oper} {rest : List Oper} {o : Oper} {a : Act} {Q : Exit → Act → World → Prop} (hgd : o.guard = none) (s x : Operand)
    (ho : o.op = .call { callee := .builtin .append, args := #[s, x], argTypes := #[26, 26] })
    (base : Nat) (v : Value) (zs ys : List Int) (hs : a.eval s = v) (hown : Own w base v zs) (sp : Option Addr) (c : Nat) (hx : a.eval x = .slice sp ys.length c) (hnil : sp = none → c = 0) (hS : Src w sp c ys)
    (hlen : zs.length + ys.length ≤ 1048576) (hbase : base ≤ w.heap.size)
    (h : ∀ v' w', Own w' base v' (zs ++ ys) → w.grownBy w' v.ownBlock → (v'.ownBlock = v.ownBlock ∨ v'.ownBlock = some w.heap.size) → wpList Tryd.prog ops Q rest (a.put o.dst v') w') :
    wpList Tryd.prog ops Q (o :: rest) a w := by
  obtain ⟨i5, hi5, hz5, hs5, hy5⟩ := Tryd.info5
  cases sp with
  | none =>
    obtain rfl := hnil rfl
    obtain rfl : ys = [] := List.eq_nil_of_length_eq_zero (by have := hS.1; omega)
    refine wpList_append_own_none hgd s x 26 ho base 5 i5 1 Tryd.underlying26 hi5 v _ _ hs hown hx (h v w ?_ ⟨rfl, rfl, rfl, Nat.le_refl _, fun _ _ _ => rfl⟩ (Or.inl rfl))
    rw [List.append_nil]; exact hown
  | some ad =>
    refine wpList_append_own_at _ hgd s x 26 ho base 5 i5 (.int .u8 0) 1 1 Tryd.underlying26 hi5 hz5 hs5 hy5 rfl Nat.one_pos v zs.length (ints .u8 zs) hs hown ad ys.length c (ints .u8 ys) hx (by rw [ints_len]; omega) (src_news hS) (ints_one _ _) (by unfold maxLen; omega) (by omega) hbase ?_
    intro v' w' h1 h2 _ h4
    exact h v' w' (Own.mk_append h1) h2 h4

/-- Fork, of a hasher that has taken a text. -/
theorem forkT_any (w : World) (g : Nat) (m : List Int) (h : HsT w g m) :
    Calls Tryd.prog 13 #[.pointer (some ⟨g, 0, none⟩)] w fun e w' => e = .returned (.pointer (some ⟨w.heap.size, 0, none⟩)) ∧ HsT w' w.heap.size m ∧ Below w.heap.size w w' := by
  refine (fork_any w g _ _ _ h).mono ?_
  rintro e w' ⟨rfl, rfl⟩
  exact ⟨rfl, ⟨hnew w _, h.2.1, h.2.2⟩, (Below.refl _ _).alloc (Nat.le_refl _) _⟩
/-- Reset. -/
theorem resetT_any (w : World) (g : Nat) (m : List Int) (h : HsT w g m) (hG : Glob w) :
    Calls Tryd.prog 15 #[.pointer (some ⟨g, 0, none⟩)] w fun e w' => e = .returned (.tuple #[]) ∧ HsT w' g [] ∧ Keeps g w w' := by
  refine (reset_any w g _ _ _ h hG).mono ?_
  rintro e w' ⟨rfl, rfl⟩
  exact ⟨rfl, HsT.nil (setRow_heap _ _ _ _ _ _ h.1), (Keeps.refl g w).setRow _⟩
theorem flat_past (ps : List (List Int)) (n : Nat) (h : ps.length ≤ n) : flat ps (n + 1) = flat ps n := by
  rw [flat, flat, List.take_of_length_le h, List.take_of_length_le (by omega)]
def Dj (v1 v2 : Value) : Prop := ∀ k, v1.ownBlock = some k → v2.ownBlock = some k → False

/-- What holds of the three hashers and the two lists. -/
structure FS (w wr : World) (G1 G2 BA : Nat) (hd A A' B B' : List Int) (va vb : Value) : Prop where
  t : HsT wr w.heap.size A'
  u : HsT wr G1 B'
  x : HsT wr G2 hd
  oa : Own wr BA va A
  ob : Own wr BA vb B
  dj : Dj va vb
  bel : Below w.heap.size w wr
  c1 : w.heap.size < G1
  c2 : G1 < G2
  c3 : G2 < BA
  c4 : BA ≤ wr.heap.size
section
variable {w wr w1 : World} {G1 G2 BA : Nat} {hd A A' B B' p : List Int} {va vb v' : Value}
theorem FS.wl (h : FS w wr G1 G2 BA hd A A' B B' va vb) (ht : HsT w1 w.heap.size (A' ++ p)) (hk : Keeps w.heap.size wr w1) : FS w w1 G1 G2 BA hd A (A' ++ p) B B' va vb :=
  ⟨ht, h.u.keeps hk (by have := h.c1; omega), h.x.keeps hk (by have := h.c1; have := h.c2; omega), h.oa.keeps hk (by have := h.c1; have := h.c2; have := h.c3; omega), h.ob.keeps hk (by have := h.c1; have := h.c2; have := h.c3; omega), h.dj,
    h.bel.trans (hk.below_g (Nat.le_refl _) h.bel.size), h.c1, h.c2, h.c3, Nat.le_trans h.c4 hk.size⟩
theorem FS.wrt (h : FS w wr G1 G2 BA hd A A' B B' va vb) (ht : HsT w1 G1 (B' ++ p)) (hk : Keeps G1 wr w1) : FS w w1 G1 G2 BA hd A A' B (B' ++ p) va vb :=
  ⟨h.t.keeps hk (by have := h.c1; omega), ht, h.x.keeps hk (by have := h.c2; omega), h.oa.keeps hk (by have := h.c2; have := h.c3; omega), h.ob.keeps hk (by have := h.c2; have := h.c3; omega), h.dj,
    h.bel.trans (hk.below_g (by have := h.c1; omega) h.bel.size), h.c1, h.c2, h.c3, Nat.le_trans h.c4 hk.size⟩
theorem FS.wx (h : FS w wr G1 G2 BA hd A A' B B' va vb) (ht : HsT w1 G2 hd) (hk : Keeps G2 wr w1) : FS w w1 G1 G2 BA hd A A' B B' va vb :=
  ⟨h.t.keeps hk (by have := h.c1; have := h.c2; omega), h.u.keeps hk (by have := h.c2; omega), ht, h.oa.keeps hk (by have := h.c3; omega), h.ob.keeps hk (by have := h.c3; omega), h.dj,
    h.bel.trans (hk.below_g (by have := h.c1; have := h.c2; omega) h.bel.size), h.c1, h.c2, h.c3, Nat.le_trans h.c4 hk.size⟩
theorem FS.al (h : FS w wr G1 G2 BA hd A A' B B' va vb) (ho : Own w1 BA v' (A ++ p)) (hg : wr.grownBy w1 va.ownBlock) (hv : v'.ownBlock = va.ownBlock ∨ v'.ownBlock = some wr.heap.size) : FS w w1 G1 G2 BA hd (A ++ p) A' B B' v' vb := by
  have hb : Below BA wr w1 := grown_keeps hg (fun k hk => (h.oa.block k hk).1) h.c4
  have := h.c1; have := h.c2; have := h.c3
  refine ⟨h.t.below hb (by omega), h.u.below hb (by omega), h.x.below hb (by omega), ho, h.ob.of_heap (fun k hk => hg.block k (h.ob.block k hk).2 (fun e => h.dj k e.symm hk)), fun k k1 k2 => ?_, h.bel.trans (hb.mono (by omega)), h.c1, h.c2, h.c3, Nat.le_trans h.c4 hg.size⟩
  rcases hv with e | e
  · exact h.dj k (e ▸ k1) k2
  · rw [e] at k1; cases k1; have := (h.ob.block _ k2).2; omega
theorem FS.ar (h : FS w wr G1 G2 BA hd A A' B B' va vb) (ho : Own w1 BA v' (B ++ p)) (hg : wr.grownBy w1 vb.ownBlock) (hv : v'.ownBlock = vb.ownBlock ∨ v'.ownBlock = some wr.heap.size) : FS w w1 G1 G2 BA hd A A' (B ++ p) B' va v' := by
  have hb : Below BA wr w1 := grown_keeps hg (fun k hk => (h.ob.block k hk).1) h.c4
  have := h.c1; have := h.c2; have := h.c3
  refine ⟨h.t.below hb (by omega), h.u.below hb (by omega), h.x.below hb (by omega), h.oa.of_heap (fun k hk => hg.block k (h.oa.block k hk).2 (fun e => h.dj k hk e.symm)), ho, fun k k1 k2 => ?_, h.bel.trans (hb.mono (by omega)), h.c1, h.c2, h.c3, Nat.le_trans h.c4 hg.size⟩
  rcases hv with e | e
  · exact h.dj k k1 (e ▸ k2)
  · rw [e] at k2; cases k2; have := (h.oa.block _ k1).2; omega
theorem FS.quiet (h : FS w wr G1 G2 BA hd A A' B B' va vb) (hb : Below wr.heap.size wr w1) : FS w w1 G1 G2 BA hd A A' B B' va vb :=
  ⟨h.t.below hb (hlt h.t.1), h.u.below hb (hlt h.u.1), h.x.below hb (hlt h.x.1), h.oa.below hb (Nat.le_refl _), h.ob.below hb (Nat.le_refl _), h.dj, h.bel.trans (hb.mono h.bel.size), h.c1, h.c2, h.c3, Nat.le_trans h.c4 hb.size⟩
end
/-- A piece of a list of pieces, in a later world. -/
theorem Rws.piece {w wr : World} {sp : Option Addr} {ps : List (List Int)} (h : Rws w sp ps) (hb : Below w.heap.size w wr) (n : Nat) (hn : n < ps.length) :
    ∃ b o sp' c, sp = some ⟨b, o, none⟩ ∧ wr.cell? ⟨b, o + n, none⟩ = some (.slice sp' (ps.getD n []).length c) ∧ (sp' = none → c = 0) ∧ Src w sp' c (ps.getD n []) ∧ b < w.heap.size := by
  obtain ⟨b, o, h1, h2, h3⟩ := h
  obtain ⟨sp', c, h4, h5, h6⟩ := h3 n hn
  exact ⟨b, o, sp', c, h2 (by omega), (hb.cell (p := ⟨b, o + n, none⟩) h1).trans h4, h5, h6, h1⟩
theorem Src.other {w wr : World} {sp : Option Addr} {c g : Nat} {zs : List Int} (h : Src w sp c zs) (hb : Below w.heap.size w wr) (hg : w.heap.size ≤ g) : ∃ b o, b ≠ g ∧ (0 < zs.length → sp = some ⟨b, o, none⟩) ∧ ∀ j, j < zs.length → wr.cell? ⟨b, o + j, none⟩ = some (.int .u8 (zs.getD j 0)) := by
  obtain ⟨_, _, b, o, h3, h4, h5⟩ := h
  exact ⟨b, o, by omega, h4, fun j hj => (hb.cell (p := ⟨b, o + j, none⟩) h3).trans (h5 j hj)⟩

set_option maxRecDepth 100000 in
set_option maxHeartbeats 1000000 in
theorem forks_any (w : World) (hG : Glob w) (hd : List Int) (sph : Option Addr) (caph : Nat) (hSh : Src w sph caph hd) (hnh : sph = none → caph = 0)
    (ls rs : List (List Int)) (spl spr : Option Addr) (capl capr : Nat) (hRl : Rws w spl ls) (hRr : Rws w spr rs) (hcl : ls.length ≤ capl) (hclm : capl ≤ maxLen) (hcr : rs.length ≤ capr) (hcrm : capr ≤ maxLen)
    (hbulk : hd.length + ls.flatten.length + rs.flatten.length ≤ 1048576) :
    Calls Tryd.prog 5 #[.slice sph hd.length caph, .slice spl ls.length capl, .slice spr rs.length capr] w fun e w' => e = .returned (.bool true) ∧ Below w.heap.size w w' := by
  have hw0 := hG.1
  unfold maxLen at hclm hcrm
  have g23 := Tryd.guard23
  have q1 := eqD_self (wrt noneS 32) (wrt_len _ _)
  have Q1 := hid sha_nil
  go_enter Tryd.func5, Tryd.ntmps5
  go_wp2_with fail
  refine (new_any w hG).mono ?_
  rintro e w1 ⟨rfl, hw1⟩
  have b1 : Below w.heap.size w w1 := by rw [hw1]; exact (Below.refl _ _).alloc (Nat.le_refl _) _
  have t1 : HsT w1 w.heap.size [] := HsT.nil (by rw [hw1]; exact hnew w _)
  have hG1 := hG.below b1 hw0
  clear hw1
  go_wp2_with fail
  refine (dsum_any w1 [] none 0 (Src.nil (by have := hG1.1; omega)) hG1 (by simp)).mono ?_
  rintro e w2 ⟨rfl, b2⟩
  rw [Q1.out]
  have t2 := t1.below b2 (hlt t1.1)
  have b02 := b1.trans (b2.mono b1.size)
  clear b1 t1 hG1 b2
  go_wp2_with fail
  refine (written_any noneS rfl w2).mono ?_
  rintro e w3 ⟨rfl, b3⟩
  have t3 := t2.below b3 (hlt t2.1)
  have b03 := b02.trans (b3.mono b02.size)
  have hG3 := hG.below b03 hw0
  clear b02 t2 b3
  obtain ⟨hh1, hh2, bh, oh, hbh, hsph, hsch⟩ := hSh
  go_wp2_with fail
  refine (writeS_any w3 w.heap.size [] hd sph caph t3 hG3 hw0 (by simp; omega) ⟨bh, oh, by omega, hsph, fun j hj => (b03.cell (p := ⟨bh, oh + j, none⟩) hbh).trans (hsch j hj)⟩ hh1 hh2).mono ?_
  rintro e w4 ⟨rfl, t4, k4⟩
  rw [List.nil_append] at t4
  have b04 := b03.trans (k4.below_g (Nat.le_refl _) b03.size)
  clear t3 b03 hG3 k4
  go_wp2_with fail
  refine (forkT_any w4 w.heap.size hd t4).mono ?_
  rintro e w5 ⟨rfl, u5, b5⟩
  have t5 := t4.below b5 (hlt t4.1)
  have b05 := b04.trans (b5.mono b04.size)
  have c1 : w.heap.size < w4.heap.size := hlt t4.1
  clear t4 b04 b5
  generalize w4.heap.size = G1 at *
  go_wp2_with fail
  refine (forkT_any w5 w.heap.size hd t5).mono ?_
  rintro e w6 ⟨rfl, x6, b6⟩
  have t6 := t5.below b6 (hlt t5.1)
  have u6 := u5.below b6 (hlt u5.1)
  have b06 := b05.trans (b6.mono b05.size)
  have c2 : G1 < w5.heap.size := hlt u5.1
  clear t5 u5 b05 b6
  generalize w5.heap.size = G2 at *
  have hSh6 : Src w6 sph caph hd := ⟨hh1, hh2, bh, oh, by have := hlt x6.1; omega, hsph, fun j hj => (b06.cell (p := ⟨bh, oh + j, none⟩) hbh).trans (hsch j hj)⟩
  go_wp2_with fail
  refine (copied_any w6 hd sph caph hSh6 hnh (by omega)).mono ?_
  rintro e w7 ⟨va, rfl, oa, b7⟩
  have c3 : G2 < w6.heap.size := hlt x6.1
  have t7 := t6.below b7 (hlt t6.1)
  have u7 := u6.below b7 (hlt u6.1)
  have x7 := x6.below b7 (hlt x6.1)
  have b07 := b06.trans (b7.mono b06.size)
  have hSh7 := hSh6.below b7 (Nat.le_refl _)
  have z7 := b7.size
  clear t6 u6 x6 b06 b7 hSh6
  generalize w6.heap.size = BA at *
  go_wp2_with fail
  refine (copied_any w7 hd sph caph hSh7 hnh (by omega)).mono ?_
  rintro e w8 ⟨vb, rfl, ob, b8⟩
  have t8 := t7.below b8 (hlt t7.1)
  have u8 := u7.below b8 (hlt u7.1)
  have x8 := x7.below b8 (hlt x7.1)
  have oa8 := oa.below b8 (Nat.le_refl _)
  have b08 := b07.trans (b8.mono b07.size)
  have hdj : Dj va vb := fun k h1 h2 => by have := (oa.block k h1).2; have := (ob.block k h2).1; omega
  have ob8 : Own w8 BA vb hd := ⟨ob.1, by
    rcases ob.2 with h | ⟨g, cap, cur, h1, h2, h3⟩
    · exact Or.inl h
    · exact Or.inr ⟨g, cap, cur, h1, by omega, h3⟩⟩
  have z8 := b8.size
  clear t7 u7 x7 oa b07 b8 hSh7 ob g23 q1 Q1
  have F8 : FS w w8 G1 G2 BA hd (hd ++ flat ls 0) (hd ++ flat ls 0) (hd ++ flat rs 0) (hd ++ flat rs 0) va vb := by
    simp only [flat, List.take_zero, List.flatten_nil, List.append_nil]
    exact ⟨t8, u8, x8, oa8, ob8, hdj, b08, c1, c2, c3, by have := oa8; omega⟩
  clear t8 u8 x8 oa8 ob8 hdj b08 c1 c2 c3
  have hSh : Src w sph caph hd := ⟨hh1, hh2, bh, oh, hbh, hsph, hsch⟩
  clear hh1 hh2 hbh hsph hsch
  go_wp2_with fail
  go_loopw [10, 11, 12] (fun a b i wr => ∃ n : Nat, n ≤ max ls.length rs.length ∧ i = .int .i64 n ∧ FS w wr G1 G2 BA hd (hd ++ flat ls n) (hd ++ flat ls n) (hd ++ flat rs n) (hd ++ flat rs n) a b) (fun _ _ i _ => max ls.length rs.length - (intOf i).toNat)
  case atStart => exact ⟨0, by omega, rfl, F8⟩
  case round =>
    clear F8
    obtain ⟨n, hn, rfl, F⟩ := hrel
    have fl := flat_le ls n
    have fr := flat_le rs n
    have fl1 := flat_le ls (n + 1)
    have fr1 := flat_le rs (n + 1)
    have hGr := hG.below F.bel hw0
    have g23 := Tryd.guard23
    have i2 : (ls.length : Int) ≤ 9223372036854775807 := by omega
    have i4 : (rs.length : Int) ≤ 9223372036854775807 := by omega
    by_cases hl : n < ls.length
    · by_cases hr : n < rs.length
      · skip
        obtain ⟨br, or, sr, cr, rfl, hcelr, hnr, hsr, hbr⟩ := hRr.piece F.bel n hr
        have HFr := hid (flat_succ rs n hr)
        rw [HFr.out, List.length_append] at fr1
        have HC := hid ((F.bel.cell (p := ⟨br, or + n, none⟩) hbr).symm.trans hcelr)
        clear hcelr
        generalize rs.getD n [] = pr at *
        have i3 : (n : Int) < (rs.length : Int) := by omega

        obtain ⟨bl, ol, sl, cl, rfl, hcell, hnl, hsl, hbl⟩ := hRl.piece F.bel n hl
        have HFl := hid (flat_succ ls n hl)
        rw [HFl.out, List.length_append] at fl1
        generalize ls.getD n [] = pl at *
        have i1 : (n : Int) < (ls.length : Int) := by omega
        go_wp2_with fail
        refine (writeS_any wr w.heap.size (hd ++ flat ls n) pl sl cl F.t hGr hw0 (by simp; omega) (hsl.other F.bel (Nat.le_refl _)) hsl.1 hsl.2.1).mono ?_
        rintro e w9 ⟨rfl, t9, k9⟩
        have F9 := F.wl t9 k9
        have hc9 : w9.cell? ⟨bl, ol + n, none⟩ = some (.slice sl pl.length cl) := (F9.bel.cell (p := ⟨bl, ol + n, none⟩) hbl).trans ((F.bel.cell (p := ⟨bl, ol + n, none⟩) hbl).symm.trans hcell)
        clear t9 k9 F hcell
        have hlA : (hd ++ flat ls n).length + pl.length ≤ 1048576 := by simp; omega
        have hsl9 := hsl.below F9.bel (Nat.le_refl _)

        have hcr0 : w.cell? ⟨br, or + n, none⟩ = some (.slice sr pr.length cr) := HC.out
        go_wp2_with (first | (at_builtin; refine wpList_append_any rfl (.tmp 60) (.tmp 64) rfl BA _ _ _ rfl F9.oa sl cl rfl hnl hsl9 hlA F9.c4 ?_; intro v' w10 o10 g10 d10; have F10 := F9.al o10 g10 d10; have hcw := (F10.bel.cell (p := ⟨br, or + n, none⟩) hbr).trans hcr0))
        clear F9 o10 g10 d10 hc9

        refine (writeS_any w10 G1 (hd ++ flat rs n) pr sr cr F10.u (hG.below F10.bel hw0) (by have := F10.c1; omega) (by simp; omega) (hsr.other F10.bel (Nat.le_of_lt F10.c1)) hsr.1 hsr.2.1).mono ?_
        rintro e w11 ⟨rfl, t11, k11⟩
        have F11 := F10.wrt t11 k11
        have hc11 : w11.cell? ⟨br, or + n, none⟩ = some (.slice sr pr.length cr) := (F11.bel.cell (p := ⟨br, or + n, none⟩) hbr).trans hcr0
        clear t11 k11 F10
        have hlB : (hd ++ flat rs n).length + pr.length ≤ 1048576 := by simp; omega
        have hsr11 := hsr.below F11.bel (Nat.le_refl _)
        go_wp2_with (first | (at_builtin; refine wpList_append_any rfl (.tmp 76) (.tmp 80) rfl BA _ _ _ rfl F11.ob sr cr rfl hnr hsr11 hlB F11.c4 ?_; intro v2 w12 o12 g12 d12))
        have FE := F11.ar o12 g12 d12
        clear F11 o12 g12 d12 hc11

        have FE' : FS w w12 G1 G2 BA hd (hd ++ flat ls (n + 1)) (hd ++ flat ls (n + 1)) (hd ++ flat rs (n + 1)) (hd ++ flat rs (n + 1)) v' v2 := by rw [HFl.out, HFr.out, ← List.append_assoc, ← List.append_assoc]; exact FE
        clear FE
        have FE := FE'
        clear FE'
        go_wp2_with fail


        have FT := FE
        clear FE
        have hlenB : (hd ++ flat rs (n + 1)).length ≤ 1048576 := by have := flat_le rs (n + 1); simp; omega
        generalize hBB : hd ++ flat rs (n + 1) = B1 at *
        have HBB := hid hBB
        clear hBB
        obtain ⟨spb, cpb, hvb, hsb, _⟩ := FT.ob.form (by have := FT.c4; have := FT.c3; omega)
        rw [hvb] at FT ⊢
        have q1 := eqD_self (sha B1) (sha_len _)
        have q2 := eqD_self (sha hd) (sha_len _)
        refine (hsumT_any w12 G1 B1 FT.u (hG.below FT.bel hw0) (by omega)).mono ?_
        rintro e wa ⟨rfl, ba⟩
        have Fa := FT.quiet ba
        have sa := hsb.below ba (Nat.le_refl _)
        clear FT hsb ba
        go_wp2_with fail
        refine (dsum_any wa B1 spb cpb sa (hG.below Fa.bel hw0) (by omega)).mono ?_
        rintro e wb ⟨rfl, bb⟩
        have Fb := Fa.quiet bb
        clear Fa sa bb
        go_wp2_with fail
        refine (hsumT_any wb G2 hd Fb.x (hG.below Fb.bel hw0) (by omega)).mono ?_
        rintro e wc ⟨rfl, bc⟩
        have Fc := Fb.quiet bc
        clear Fb bc
        go_wp2_with fail
        refine (dsum_any wc hd sph caph (hSh.below Fc.bel (Nat.le_refl _)) (hG.below Fc.bel hw0) (by omega)).mono ?_
        rintro e wd ⟨rfl, bd⟩
        have Fd := Fc.quiet bd
        clear Fc bd
        by_cases hpar : (n : Int) % 2 = 1
        · have hp1 : ((n : Int) % 2 == 1) = true := by simp [hpar]
          clear hpar
          go_wp2_with fail
          refine (resetT_any wd G2 hd Fd.x (hG.below Fd.bel hw0)).mono ?_
          rintro e we ⟨rfl, te, ke⟩
          have bde : Below w.heap.size w we := Fd.bel.trans (ke.below_g (by have := Fd.c1; have := Fd.c2; omega) Fd.bel.size)
          go_wp2_with fail
          refine (writeS_any we G2 [] hd sph caph te (hG.below bde hw0) (by have := Fd.c1; have := Fd.c2; omega) (by simp; omega) (hSh.other bde (by have := Fd.c1; have := Fd.c2; omega)) hSh.1 hSh.2.1).mono ?_
          rintro e wf ⟨rfl, tf, kf⟩
          rw [List.nil_append] at tf
          have Ff := Fd.wx tf (ke.trans kf)
          clear Fd te ke tf kf bde
          go_wp2_with fail
          go_roundw
          case rel => exact ⟨n + 1, by omega, by go_num, by rw [HBB.out]; exact Ff⟩
          case measure => simp [intOf]; omega
        · have hp1 : ((n : Int) % 2 == 1) = false := by simp [hpar]
          clear hpar
          go_wp2_with fail
          go_roundw
          case rel => exact ⟨n + 1, by omega, by go_num, by rw [HBB.out]; exact Fd⟩
          case measure => simp [intOf]; omega
      · skip
        obtain ⟨bl, ol, sl, cl, rfl, hcell, hnl, hsl, hbl⟩ := hRl.piece F.bel n hl
        have HFl := hid (flat_succ ls n hl)
        rw [HFl.out, List.length_append] at fl1
        generalize ls.getD n [] = pl at *
        have i1 : (n : Int) < (ls.length : Int) := by omega
        go_wp2_with fail
        refine (writeS_any wr w.heap.size (hd ++ flat ls n) pl sl cl F.t hGr hw0 (by simp; omega) (hsl.other F.bel (Nat.le_refl _)) hsl.1 hsl.2.1).mono ?_
        rintro e w9 ⟨rfl, t9, k9⟩
        have F9 := F.wl t9 k9
        have hc9 : w9.cell? ⟨bl, ol + n, none⟩ = some (.slice sl pl.length cl) := (F9.bel.cell (p := ⟨bl, ol + n, none⟩) hbl).trans ((F.bel.cell (p := ⟨bl, ol + n, none⟩) hbl).symm.trans hcell)
        clear t9 k9 F hcell
        have hlA : (hd ++ flat ls n).length + pl.length ≤ 1048576 := by simp; omega
        have hsl9 := hsl.below F9.bel (Nat.le_refl _)

        have i3 : decide ((n : Int) < (rs.length : Int)) = false := by simp; omega
        go_wp2_with (first | (at_builtin; refine wpList_append_any rfl (.tmp 60) (.tmp 64) rfl BA _ _ _ rfl F9.oa sl cl rfl hnl hsl9 hlA F9.c4 ?_; intro v' w10 o10 g10 d10))
        have F10 := F9.al o10 g10 d10
        clear F9 o10 g10 d10 hc9
        have FE : FS w w10 G1 G2 BA hd (hd ++ flat ls (n + 1)) (hd ++ flat ls (n + 1)) (hd ++ flat rs (n + 1)) (hd ++ flat rs (n + 1)) v' u11 := by rw [HFl.out, flat_past rs n (by omega), ← List.append_assoc]; exact F10
        clear F10


        have FT := FE
        clear FE
        have hlenB : (hd ++ flat rs (n + 1)).length ≤ 1048576 := by have := flat_le rs (n + 1); simp; omega
        generalize hBB : hd ++ flat rs (n + 1) = B1 at *
        have HBB := hid hBB
        clear hBB
        obtain ⟨spb, cpb, hvb, hsb, _⟩ := FT.ob.form (by have := FT.c4; have := FT.c3; omega)
        rw [hvb] at FT ⊢
        have q1 := eqD_self (sha B1) (sha_len _)
        have q2 := eqD_self (sha hd) (sha_len _)
        refine (hsumT_any w10 G1 B1 FT.u (hG.below FT.bel hw0) (by omega)).mono ?_
        rintro e wa ⟨rfl, ba⟩
        have Fa := FT.quiet ba
        have sa := hsb.below ba (Nat.le_refl _)
        clear FT hsb ba
        go_wp2_with fail
        refine (dsum_any wa B1 spb cpb sa (hG.below Fa.bel hw0) (by omega)).mono ?_
        rintro e wb ⟨rfl, bb⟩
        have Fb := Fa.quiet bb
        clear Fa sa bb
        go_wp2_with fail
        refine (hsumT_any wb G2 hd Fb.x (hG.below Fb.bel hw0) (by omega)).mono ?_
        rintro e wc ⟨rfl, bc⟩
        have Fc := Fb.quiet bc
        clear Fb bc
        go_wp2_with fail
        refine (dsum_any wc hd sph caph (hSh.below Fc.bel (Nat.le_refl _)) (hG.below Fc.bel hw0) (by omega)).mono ?_
        rintro e wd ⟨rfl, bd⟩
        have Fd := Fc.quiet bd
        clear Fc bd
        by_cases hpar : (n : Int) % 2 = 1
        · have hp1 : ((n : Int) % 2 == 1) = true := by simp [hpar]
          clear hpar
          go_wp2_with fail
          refine (resetT_any wd G2 hd Fd.x (hG.below Fd.bel hw0)).mono ?_
          rintro e we ⟨rfl, te, ke⟩
          have bde : Below w.heap.size w we := Fd.bel.trans (ke.below_g (by have := Fd.c1; have := Fd.c2; omega) Fd.bel.size)
          go_wp2_with fail
          refine (writeS_any we G2 [] hd sph caph te (hG.below bde hw0) (by have := Fd.c1; have := Fd.c2; omega) (by simp; omega) (hSh.other bde (by have := Fd.c1; have := Fd.c2; omega)) hSh.1 hSh.2.1).mono ?_
          rintro e wf ⟨rfl, tf, kf⟩
          rw [List.nil_append] at tf
          have Ff := Fd.wx tf (ke.trans kf)
          clear Fd te ke tf kf bde
          go_wp2_with fail
          go_roundw
          case rel => exact ⟨n + 1, by omega, by go_num, by rw [HBB.out]; exact Ff⟩
          case measure => simp [intOf]; omega
        · have hp1 : ((n : Int) % 2 == 1) = false := by simp [hpar]
          clear hpar
          go_wp2_with fail
          go_roundw
          case rel => exact ⟨n + 1, by omega, by go_num, by rw [HBB.out]; exact Fd⟩
          case measure => simp [intOf]; omega
    · by_cases hr : n < rs.length
      · skip
        obtain ⟨br, or, sr, cr, rfl, hcelr, hnr, hsr, hbr⟩ := hRr.piece F.bel n hr
        have HFr := hid (flat_succ rs n hr)
        rw [HFr.out, List.length_append] at fr1
        have HC := hid ((F.bel.cell (p := ⟨br, or + n, none⟩) hbr).symm.trans hcelr)
        have hcelw := hcelr
        generalize rs.getD n [] = pr at *
        have i3 : (n : Int) < (rs.length : Int) := by omega

        have hcr0 : w.cell? ⟨br, or + n, none⟩ = some (.slice sr pr.length cr) := HC.out
        have i1 : decide ((n : Int) < (ls.length : Int)) = false := by simp; omega
        go_wp2_with fail

        refine (writeS_any wr G1 (hd ++ flat rs n) pr sr cr F.u (hG.below F.bel hw0) (by have := F.c1; omega) (by simp; omega) (hsr.other F.bel (Nat.le_of_lt F.c1)) hsr.1 hsr.2.1).mono ?_
        rintro e w11 ⟨rfl, t11, k11⟩
        have F11 := F.wrt t11 k11
        have hc11 : w11.cell? ⟨br, or + n, none⟩ = some (.slice sr pr.length cr) := (F11.bel.cell (p := ⟨br, or + n, none⟩) hbr).trans hcr0
        clear t11 k11 F
        have hlB : (hd ++ flat rs n).length + pr.length ≤ 1048576 := by simp; omega
        have hsr11 := hsr.below F11.bel (Nat.le_refl _)
        go_wp2_with (first | (at_builtin; refine wpList_append_any rfl (.tmp 76) (.tmp 80) rfl BA _ _ _ rfl F11.ob sr cr rfl hnr hsr11 hlB F11.c4 ?_; intro v2 w12 o12 g12 d12))
        have FE := F11.ar o12 g12 d12
        clear F11 o12 g12 d12 hc11

        have FE' : FS w w12 G1 G2 BA hd (hd ++ flat ls (n + 1)) (hd ++ flat ls (n + 1)) (hd ++ flat rs (n + 1)) (hd ++ flat rs (n + 1)) u10 v2 := by rw [flat_past ls n (by omega), HFr.out, ← List.append_assoc]; exact FE
        clear FE
        have FE := FE'
        clear FE'
        go_wp2_with fail


        have FT := FE
        clear FE
        have hlenB : (hd ++ flat rs (n + 1)).length ≤ 1048576 := by have := flat_le rs (n + 1); simp; omega
        generalize hBB : hd ++ flat rs (n + 1) = B1 at *
        have HBB := hid hBB
        clear hBB
        obtain ⟨spb, cpb, hvb, hsb, _⟩ := FT.ob.form (by have := FT.c4; have := FT.c3; omega)
        rw [hvb] at FT ⊢
        have q1 := eqD_self (sha B1) (sha_len _)
        have q2 := eqD_self (sha hd) (sha_len _)
        refine (hsumT_any w12 G1 B1 FT.u (hG.below FT.bel hw0) (by omega)).mono ?_
        rintro e wa ⟨rfl, ba⟩
        have Fa := FT.quiet ba
        have sa := hsb.below ba (Nat.le_refl _)
        clear FT hsb ba
        go_wp2_with fail
        refine (dsum_any wa B1 spb cpb sa (hG.below Fa.bel hw0) (by omega)).mono ?_
        rintro e wb ⟨rfl, bb⟩
        have Fb := Fa.quiet bb
        clear Fa sa bb
        go_wp2_with fail
        refine (hsumT_any wb G2 hd Fb.x (hG.below Fb.bel hw0) (by omega)).mono ?_
        rintro e wc ⟨rfl, bc⟩
        have Fc := Fb.quiet bc
        clear Fb bc
        go_wp2_with fail
        refine (dsum_any wc hd sph caph (hSh.below Fc.bel (Nat.le_refl _)) (hG.below Fc.bel hw0) (by omega)).mono ?_
        rintro e wd ⟨rfl, bd⟩
        have Fd := Fc.quiet bd
        clear Fc bd
        by_cases hpar : (n : Int) % 2 = 1
        · have hp1 : ((n : Int) % 2 == 1) = true := by simp [hpar]
          clear hpar
          go_wp2_with fail
          refine (resetT_any wd G2 hd Fd.x (hG.below Fd.bel hw0)).mono ?_
          rintro e we ⟨rfl, te, ke⟩
          have bde : Below w.heap.size w we := Fd.bel.trans (ke.below_g (by have := Fd.c1; have := Fd.c2; omega) Fd.bel.size)
          go_wp2_with fail
          refine (writeS_any we G2 [] hd sph caph te (hG.below bde hw0) (by have := Fd.c1; have := Fd.c2; omega) (by simp; omega) (hSh.other bde (by have := Fd.c1; have := Fd.c2; omega)) hSh.1 hSh.2.1).mono ?_
          rintro e wf ⟨rfl, tf, kf⟩
          rw [List.nil_append] at tf
          have Ff := Fd.wx tf (ke.trans kf)
          clear Fd te ke tf kf bde
          go_wp2_with fail
          go_roundw
          case rel => exact ⟨n + 1, by omega, by go_num, by rw [HBB.out]; exact Ff⟩
          case measure => simp [intOf]; omega
        · have hp1 : ((n : Int) % 2 == 1) = false := by simp [hpar]
          clear hpar
          go_wp2_with fail
          go_roundw
          case rel => exact ⟨n + 1, by omega, by go_num, by rw [HBB.out]; exact Fd⟩
          case measure => simp [intOf]; omega
      · skip
        have i1 : decide ((n : Int) < (ls.length : Int)) = false := by simp; omega
        have i3 : decide ((n : Int) < (rs.length : Int)) = false := by simp; omega
        have hlA : (hd ++ flat ls n).length ≤ 1048576 := by simp; omega
        have hlB : (hd ++ flat rs n).length ≤ 1048576 := by simp; omega
        generalize hd ++ flat ls n = A1 at *
        generalize hd ++ flat rs n = B1 at *
        obtain ⟨spa, cpa, hva, hsa, _⟩ := F.oa.form (by have := F.c4; have := F.c3; omega)
        obtain ⟨spb, cpb, hvb, hsb, _⟩ := F.ob.form (by have := F.c4; have := F.c3; omega)
        rw [hva, hvb] at F ⊢
        have q0 := eqD_self (sha A1) (sha_len _)
        have q1 := eqD_self (sha B1) (sha_len _)
        have q2 := eqD_self (sha hd) (sha_len _)
        go_wp2_with fail
        refine (hsumT_any wr w.heap.size A1 F.t hGr (by omega)).mono ?_
        rintro e wa ⟨rfl, ba⟩
        have Fa := F.quiet ba
        have sa := hsa.below ba (Nat.le_refl _)
        have sb := hsb.below ba (Nat.le_refl _)
        clear F hsa hsb ba
        go_wp2_with fail
        refine (dsum_any wa A1 spa cpa sa (hG.below Fa.bel hw0) (by omega)).mono ?_
        rintro e wb ⟨rfl, bb⟩
        have Fb := Fa.quiet bb
        have sb2 := sb.below bb (Nat.le_refl _)
        clear Fa sa sb bb
        go_wp2_with fail
        refine (hsumT_any wb G1 B1 Fb.u (hG.below Fb.bel hw0) (by omega)).mono ?_
        rintro e wc ⟨rfl, bc⟩
        have Fc := Fb.quiet bc
        have sb3 := sb2.below bc (Nat.le_refl _)
        clear Fb sb2 bc
        go_wp2_with fail
        refine (dsum_any wc B1 spb cpb sb3 (hG.below Fc.bel hw0) (by omega)).mono ?_
        rintro e wd ⟨rfl, bd⟩
        have Fd := Fc.quiet bd
        clear Fc sb3 bd
        go_wp2_with fail
        refine (hsumT_any wd G2 hd Fd.x (hG.below Fd.bel hw0) (by omega)).mono ?_
        rintro e we ⟨rfl, be⟩
        have Fe := Fd.quiet be
        clear Fd be
        go_wp2_with fail
        refine (dsum_any we hd sph caph (hSh.below Fe.bel (Nat.le_refl _)) (hG.below Fe.bel hw0) (by omega)).mono ?_
        rintro e wf ⟨rfl, bf⟩
        have Ff := Fe.quiet bf
        clear Fe bf
        go_wp2_with fail
        go_ret
        exact ⟨rfl, Ff.bel⟩
end Go.Proofs.YtpmjijadjblkeaaDoor
