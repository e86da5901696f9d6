import Derived.Test.YtbmjegcnfokagaaHb
namespace Go.Proofs.Ytbmjegcnfokagaa
set_option linter.unusedVariables false
set_option linter.unusedSimpArgs false
open Go.RowKit
attribute [local go_sem ↓] Go.wp_at_zero Go.wp_at_succ

/-- append(own, x), and what else stays. -/
theorem wpList_push_dj {w : World} {ops : Array Oper} {rest : List Oper} {o : Oper} {a : Act} {Q : Exit → Act → World → Prop} (hgd : o.guard = none) (s x : Operand)
    (ho : o.op = .call { callee := .builtin .append, args := #[s, x], argTypes := #[26, 26] })
    (base : Nat) (v : Value) (zs : List Int) (y : Int) (hs : a.eval s = v) (hown : Own w base v zs) (hx : a.eval x = .slice (some ⟨w.heap.size, 0, none⟩) 1 1)
    (hlen : zs.length + 1 ≤ 140737488355328) (hbase : base ≤ w.heap.size) (t : TypeId) (fr : Nat × Nat)
    (h : ∀ v' w', Own w' base v' (zs ++ [y]) → Below base w w' → (∀ k, k < w.heap.size → v.ownBlock ≠ some k → w'.heap[k]? = w.heap[k]?) → (v'.ownBlock = v.ownBlock ∨ ∃ k, v'.ownBlock = some k ∧ w.heap.size ≤ k) → wpList Try.prog ops Q rest (a.put o.dst v') w') :
    wpList Try.prog ops Q (o :: rest) a (w.alloc (.cells #[.int .u8 y] t fr)) := by
  obtain ⟨i5, hi5, hz5, hs5, hy5⟩ := Try.info5
  refine wpList_append_own_at _ hgd s x 26 ho base 5 i5 (.int .u8 0) 1 1 Try.underlying26 hi5 hz5 hs5 hy5 rfl Nat.one_pos v zs.length (ints .u8 zs) hs (own_pushes hown _) ⟨w.heap.size, 0, none⟩ 1 1 (ints .u8 [y]) hx rfl ?_ (ints_one _ _) (by unfold maxLen; omega) (by omega) (by simp; omega) ?_
  · intro j u hu
    have hj : j = 0 := by
      have := (List.getElem?_eq_some_iff.1 hu).1
      simp [ints] at this; exact this
    subst hj
    rw [show (⟨w.heap.size, 0, none⟩ : Addr).add 0 = ⟨w.heap.size, 0, none⟩ from rfl, cell_of_row _ _ _ _ _ _ (hnew w _)]
    simpa [ints] using hu
  · intro v' w' h1 h2 _ h4
    have hB1 : Below base w (w.alloc (.cells #[.int .u8 y] t fr)) := (Below.refl _ _).alloc hbase _
    refine h v' w' (Own.mk_append (ys := [y]) h1) (hB1.trans (grown_keeps h2 (fun k hk => (hown.block k hk).1) (by simp; omega))) (fun k hk hne => ?_) ?_
    · rw [h2.block k (by simp; omega) (fun e => hne e.symm)]
      show (w.heap.push _)[k]? = _
      rw [Array.getElem?_push, if_neg (by omega)]
    · rcases h4 with e | e
      · exact Or.inl e
      · exact Or.inr ⟨_, e, by simp⟩
def Dj (v1 v2 : Value) : Prop := ∀ k, v1.ownBlock = some k → v2.ownBlock = some k → False
theorem Own.push {w w' : World} {base : Nat} {u v : Value} {us : List Int} (h : Own w base u us) (hk : ∀ k, k < w.heap.size → v.ownBlock ≠ some k → w'.heap[k]? = w.heap[k]?) (hd : Dj v u) : Own w' base u us :=
  h.of_heap fun k hu => hk k (h.block k hu).2 (fun e => hd k e hu)
theorem Dj.push {w : World} {base : Nat} {u v v' : Value} {us : List Int} (h : Own w base u us) (hd : Dj v u) (hv : v'.ownBlock = v.ownBlock ∨ ∃ k, v'.ownBlock = some k ∧ w.heap.size ≤ k) : Dj v' u := fun k h1 h2 => by
  rcases hv with e | ⟨k', e, hk'⟩
  · exact hd k (e ▸ h1) h2
  · rw [e] at h1; cases h1; have := (h.block _ h2).2; omega
theorem Dj.symm {u v : Value} (h : Dj u v) : Dj v u := fun k h1 h2 => h k h2 h1
theorem Dj.nil (v : Value) : Dj (.slice none 0 0) v := fun k h => by simp [Value.ownBlock] at h

theorem xor_u8 (a b : Nat) (ha : a < 256) (hb : b < 256) : bits .xor .u8 (a : Int) (b : Int) = ((a ^^^ b : Nat) : Int) := by
  have hx : a ^^^ b < 2 ^ 8 := Nat.xor_lt_two_pow (by omega) (by omega)
  have h1 : (BitVec.ofInt 8 (a : Int)).toNat = a := by
    rw [BitVec.ofInt_natCast, BitVec.toNat_ofNat]; exact Nat.mod_eq_of_lt (by omega)
  have h2 : (BitVec.ofInt 8 (b : Int)).toNat = b := by
    rw [BitVec.ofInt_natCast, BitVec.toNat_ofNat]; exact Nat.mod_eq_of_lt (by omega)
  show IntKind.u8.wrap ((BitVec.ofInt 8 (a : Int) ^^^ BitVec.ofInt 8 (b : Int)).toNat : Int) = _
  rw [BitVec.toNat_xor, h1, h2, IntKind.wrap_u8]
  omega
theorem xor_u8_int (a b : Int) (ha : 0 ≤ a ∧ a < 256) (hb : 0 ≤ b ∧ b < 256) : bits .xor .u8 a b = ((a.toNat ^^^ b.toNat : Nat) : Int) := by
  obtain ⟨m, rfl⟩ := Int.eq_ofNat_of_zero_le ha.1
  obtain ⟨n, rfl⟩ := Int.eq_ofNat_of_zero_le hb.1
  exact xor_u8 m n (by omega) (by omega)
/-- The first k of a list that is told place by place. -/
def tab (f : Nat → Int) (k : Nat) : List Int := (List.range k).map f
theorem tab_succ (f : Nat → Int) (k : Nat) : tab f (k + 1) = tab f k ++ [f k] := by simp [tab, List.range_succ]
theorem tab_len (f : Nat → Int) (k : Nat) : (tab f k).length = k := by simp [tab]
theorem tab_self (xs : List Int) : tab (fun i => xs.getD i 0) xs.length = xs := by
  apply List.ext_getElem
  · simp [tab]
  · intro i h1 h2
    simp [tab, h2]
theorem getD_byte {xs : List Int} (h : Byts xs) (i : Nat) : 0 ≤ xs.getD i 0 ∧ xs.getD i 0 < 256 := by
  by_cases hi : i < xs.length
  · rw [List.getD_eq_getElem?_getD, List.getElem?_eq_getElem hi]; exact h _ (List.getElem_mem hi)
  · rw [List.getD_eq_getElem?_getD, List.getElem?_eq_none (by omega)]; simp
theorem tab_byts {f : Nat → Int} (h : ∀ i, 0 ≤ f i ∧ f i < 256) (k : Nat) : Byts (tab f k) := fun x hx => by
  obtain ⟨i, _, rfl⟩ := List.mem_map.1 hx; exact h i
theorem xor4' (a b c : Nat) (x y : Nat) : ((a ^^^ b) ^^^ c) ^^^ (x ^^^ y) = ((a ^^^ x) ^^^ (b ^^^ y)) ^^^ c := by
  rw [Nat.xor_assoc (a ^^^ b) c, Nat.xor_comm c, ← Nat.xor_assoc, xor4]
theorem feed_tab (f g : Nat → Int) (hf : ∀ i, 0 ≤ f i ∧ f i < 256) (hg : ∀ i, 0 ≤ g i ∧ g i < 256) (r : Nat) : ∀ k,
    feed r (tab (fun i => bits .xor .u8 (f i) (g i)) k) = (feed r (tab f k) ^^^ feed r (tab g k)) ^^^ feed r (tab (fun _ => 0) k) := by
  intro k
  induction k with
  | zero => simp [tab, feed]
  | succ k ih =>
    rw [tab_succ, tab_succ, tab_succ, tab_succ, feed_snoc, feed_snoc, feed_snoc, feed_snoc, ih, ← stepN_xor, ← stepN_xor]
    congr 1
    rw [xor_u8_int _ _ (hf k) (hg k), Int.toNat_natCast, xor4']
    simp
theorem cancel3 (o x y z : Nat) : ((o ^^^ x) ^^^ (o ^^^ y)) ^^^ (o ^^^ z) = o ^^^ ((x ^^^ y) ^^^ z) := by
  rw [xor4 o x o y, Nat.xor_self, Nat.zero_xor, xass]
theorem sum_tab (f g : Nat → Int) (hf : ∀ i, 0 ≤ f i ∧ f i < 256) (hg : ∀ i, 0 ≤ g i ∧ g i < 256) (k : Nat) :
    (sumF (tab f k) ^^^ sumF (tab g k)) ^^^ sumF (tab (fun _ => 0) k) = sumF (tab (fun i => bits .xor .u8 (f i) (g i)) k) := by
  unfold sumF updF
  rw [feed_tab f g hf hg]
  exact cancel3 _ _ _ _

set_option maxRecDepth 100000 in
set_option maxHeartbeats 1000000 in
theorem adds_any (w : World) (xs ws : List Int) (h8x : Byts xs) (h8w : Byts ws) (sp sq : Option Addr) (cap caq : Nat) (hS : Src w sp cap xs) (hQ : Src w sq caq ws) (hlen : xs.length ≤ 140737488355000) (hlen2 : ws.length ≤ 140737488355000) :
    Calls Try.prog 6 #[.slice sp xs.length cap, .slice sq ws.length caq] w fun e w' => e = .returned (.bool true) ∧ Below w.heap.size w w' := by
  have i0 : (xs.length : Int) ≤ 140737488355000 := by omega
  have j0 : (ws.length : Int) ≤ 140737488355000 := by omega
  go_enter Try.func6, Try.ntmps6
  go_wp2_with fail
  refine (copied_any w xs sp cap hS hlen).mono ?_
  rintro e w1 ⟨v, rfl, hO1, b1⟩
  obtain ⟨tp, tc, rfl, hT, hTn⟩ := hO1.form
  have hQ1 := hQ.below b1 (Nat.le_refl _)
  clear hO1 hTn hS hQ
  obtain ⟨h1, h2, b, o, h3, h4, h5⟩ := hT
  obtain ⟨g1, g2, bq, oq, g3, g4, g5⟩ := hQ1
  go_wp2
  go_loopw [6, 7, 8, 9] (fun vy vz vo i wr => ∃ k : Nat, k ≤ xs.length ∧ i = .int .i64 k ∧ Own wr w1.heap.size vy (tab (fun i => ws.getD i 0) k) ∧ Own wr w1.heap.size vz (tab (fun i => bits .xor .u8 (xs.getD i 0) (ws.getD i 0)) k) ∧ Own wr w1.heap.size vo (tab (fun _ => 0) k) ∧ Dj vy vz ∧ Dj vy vo ∧ Dj vz vo ∧ Below w1.heap.size w1 wr) (fun _ _ _ i _ => xs.length - (intOf i).toNat)
  case atStart => exact ⟨0, by omega, rfl, Own.nil _ _, Own.nil _ _, Own.nil _ _, Dj.nil _, Dj.nil _, Dj.nil _, Below.refl _ _⟩
  case round =>
    obtain ⟨k, hk, rfl, oy, oz, oo, dyz, dyo, dzo, hB⟩ := hrel
    by_cases hlt : k < xs.length
    · have i1 : (k : Int) < (xs.length : Int) := by omega
      obtain rfl := h4 (by omega)
      have TY := hid (tab_succ (fun i => ws.getD i 0) k)
      have TZ := hid (tab_succ (fun i => bits .xor .u8 (xs.getD i 0) (ws.getD i 0)) k)
      have TO := hid (tab_succ (fun _ => 0) k)
      have KX := hid (fun (w' : World) (B : Below w1.heap.size w1 w') => show w'.cell? ⟨b, o + k, none⟩ = some (.int .u8 (xs.getD k 0)) from (B.cell (p := ⟨b, o + k, none⟩) (h3 (by omega))).trans (h5 k hlt))
      have KY := hid (show (tab (fun i => ws.getD i 0) k).length + 1 ≤ 140737488355328 by rw [tab_len]; omega)
      have KZ := hid (show (tab (fun i => bits .xor .u8 (xs.getD i 0) (ws.getD i 0)) k).length + 1 ≤ 140737488355328 by rw [tab_len]; omega)
      have KO := hid (show (tab (fun _ => 0) k).length + 1 ≤ 140737488355328 by rw [tab_len]; omega)
      by_cases hw : k < ws.length
      · have i2 : (k : Int) < (ws.length : Int) := by omega
        obtain rfl := g4 (by omega)
        have c2 := (hB.cell (p := ⟨bq, oq + k, none⟩) (g3 (by omega))).trans (g5 k hw)
        try dsimp only at TY TZ TO
        generalize tab (fun i => bits .xor .u8 (xs.getD i 0) (ws.getD i 0)) k = tz at *
        generalize tab (fun i => ws.getD i 0) k = ty at *
        generalize tab (fun _ => 0) k = tO at *
        generalize ws.getD k 0 = cc at *
        generalize xs.getD k 0 = xx at *
        go_wp2_with (first
          | (at_builtin; refine wpList_push_dj rfl (.tmp 27) (.tmp 29) rfl w1.heap.size _ _ cc rfl oy rfl KY.out hB.size _ _ ?_; intro v2 w2 o2 b2 k2 e2; have B2 := hB.trans b2; have oz2 := oz.push k2 dyz; have oo2 := oo.push k2 dyo; have dyz2 := Dj.push oz dyz e2; have dyo2 := Dj.push oo dyo e2; have cx2 := KX.out w2 B2; clear k2 e2)
          | (at_builtin; refine wpList_push_dj rfl (.tmp 31) (.tmp 38) rfl w1.heap.size _ _ (bits .xor .u8 xx cc) rfl oz2 rfl KZ.out B2.size _ _ ?_; intro v3 w3 o3 b3 k3 e3; have B3 := B2.trans b3; have oy3 := o2.push k3 dyz2.symm; have oo3 := oo2.push k3 dzo; have dzy3 := Dj.push o2 dyz2.symm e3; have dzo3 := Dj.push oo2 dzo e3; clear k3 e3)
          | (at_builtin; refine wpList_push_dj rfl (.tmp 40) (.tmp 41) rfl w1.heap.size _ _ 0 rfl oo3 rfl KO.out B3.size _ _ ?_; intro v4 w4 o4 b4 k4 e4; have B4 := B3.trans b4; have oy4 := oy3.push k4 dyo2.symm; have oz4 := o3.push k4 dzo3.symm; have doy4 := Dj.push oy3 dyo2.symm e4; have doz4 := Dj.push o3 dzo3.symm e4; clear k4 e4))
        go_roundw
        case rel => exact ⟨k + 1, by omega, by go_num, (by rw [TY.out]; exact oy4), (by rw [TZ.out]; exact oz4), (by rw [TO.out]; exact o4), dzy3.symm, doy4.symm, doz4.symm, B4⟩
        case measure => simp [intOf]; omega
      · have i2 : ¬ (k : Int) < (ws.length : Int) := by omega
        have hcc : ws.getD k 0 = 0 := by rw [List.getD_eq_getElem?_getD, List.getElem?_eq_none (by omega)]; rfl
        try dsimp only at TY TZ TO
        generalize tab (fun i => bits .xor .u8 (xs.getD i 0) (ws.getD i 0)) k = tz at *
        generalize tab (fun i => ws.getD i 0) k = ty at *
        generalize tab (fun _ => 0) k = tO at *
        rw [hcc] at TY TZ
        clear hcc
        generalize xs.getD k 0 = xx at *
        go_wp2_with (first
          | (at_builtin; refine wpList_push_dj rfl (.tmp 27) (.tmp 29) rfl w1.heap.size _ _ 0 rfl oy rfl KY.out hB.size _ _ ?_; intro v2 w2 o2 b2 k2 e2; have B2 := hB.trans b2; have oz2 := oz.push k2 dyz; have oo2 := oo.push k2 dyo; have dyz2 := Dj.push oz dyz e2; have dyo2 := Dj.push oo dyo e2; have cx2 := KX.out w2 B2; clear k2 e2)
          | (at_builtin; refine wpList_push_dj rfl (.tmp 31) (.tmp 38) rfl w1.heap.size _ _ (bits .xor .u8 xx 0) rfl oz2 rfl KZ.out B2.size _ _ ?_; intro v3 w3 o3 b3 k3 e3; have B3 := B2.trans b3; have oy3 := o2.push k3 dyz2.symm; have oo3 := oo2.push k3 dzo; have dzy3 := Dj.push o2 dyz2.symm e3; have dzo3 := Dj.push oo2 dzo e3; clear k3 e3)
          | (at_builtin; refine wpList_push_dj rfl (.tmp 40) (.tmp 41) rfl w1.heap.size _ _ 0 rfl oo3 rfl KO.out B3.size _ _ ?_; intro v4 w4 o4 b4 k4 e4; have B4 := B3.trans b4; have oy4 := oy3.push k4 dyo2.symm; have oz4 := o3.push k4 dzo3.symm; have doy4 := Dj.push oy3 dyo2.symm e4; have doz4 := Dj.push o3 dzo3.symm e4; clear k4 e4))
        go_roundw
        case rel => exact ⟨k + 1, by omega, by go_num, (by rw [TY.out]; exact oy4), (by rw [TZ.out]; exact oz4), (by rw [TO.out]; exact o4), dzy3.symm, doy4.symm, doz4.symm, B4⟩
        case measure => simp [intOf]; omega
    · obtain rfl : k = xs.length := by omega
      clear hlt
      obtain ⟨yp, yc, rfl, sy, _⟩ := oy.form
      obtain ⟨zp, zc, rfl, sz, _⟩ := oz.form
      obtain ⟨op, oc, rfl, so, _⟩ := oo.form
      have sx : Src wr tp tc xs := Src.below (w := w1) ⟨h1, h2, b, o, h3, h4, h5⟩ hB (Nat.le_refl _)
      have q1 : ∀ i, 0 ≤ xs.getD i 0 ∧ xs.getD i 0 < 256 := getD_byte h8x
      have q2 : ∀ i, 0 ≤ ws.getD i 0 ∧ ws.getD i 0 < 256 := getD_byte h8w
      have y8 := tab_byts (f := fun i => ws.getD i 0) q2 xs.length
      have z8 : Byts (tab (fun i => bits .xor .u8 (xs.getD i 0) (ws.getD i 0)) xs.length) := tab_byts (fun i => by
        have := bits_lo_u8 .xor (xs.getD i 0) (ws.getD i 0)
        have := bits_hi_u8 .xor (xs.getD i 0) (ws.getD i 0)
        exact ⟨by omega, by omega⟩) _
      have o8 := tab_byts (f := fun _ => 0) (fun _ => by decide) xs.length
      have HS := sum_tab (fun i => xs.getD i 0) (fun i => ws.getD i 0) q1 q2 xs.length
      rw [tab_self] at HS
      have lx := sumF_lt h8x
      have ly := sumF_lt y8
      have lo := sumF_lt o8
      have BB := b1.trans (hB.mono b1.size)
      have HL := hid (tab_len (fun i => ws.getD i 0) xs.length)
      clear oy oz oo dyz dyo dzo hB q1 q2 h3 h4 h5 g3 g4 g5
      generalize tab (fun i => bits .xor .u8 (xs.getD i 0) (ws.getD i 0)) xs.length = tz at *
      generalize tab (fun i => ws.getD i 0) xs.length = ty at *
      generalize tab (fun _ => 0) xs.length = tO at *
      have E1 := xor_u32 _ _ lx ly
      have E2 := xor_u32 _ _ (xor_lt lx ly) lo
      rw [HS] at E2
      replace HS := hid HS
      go_wp2_with fail
      refine (known_any wr).mono ?_
      rintro e w2 ⟨rfl, b2⟩
      have sx2 := sx.below b2 (Nat.le_refl _)
      have sy2 := sy.below b2 (Nat.le_refl _)
      have sz2 := sz.below b2 (Nat.le_refl _)
      have so2 := so.below b2 (Nat.le_refl _)
      have B2 := BB.trans (b2.mono BB.size)
      clear sx sy sz so b2 BB
      go_wp2_with fail
      refine (sum_any w2 xs h8x tp tc sx2).mono ?_
      rintro e w3 ⟨rfl, b3⟩
      have sy3 := sy2.below b3 (Nat.le_refl _)
      have sz3 := sz2.below b3 (Nat.le_refl _)
      have so3 := so2.below b3 (Nat.le_refl _)
      have B3 := B2.trans (b3.mono B2.size)
      clear sx2 sy2 sz2 so2 b3 B2
      go_wp2_with fail
      refine (sum_any w3 ty y8 yp yc sy3).mono ?_
      rintro e w4 ⟨rfl, b4⟩
      have sz4 := sz3.below b4 (Nat.le_refl _)
      have so4 := so3.below b4 (Nat.le_refl _)
      have B4 := B3.trans (b4.mono B3.size)
      clear sy3 sz3 so3 b4 B3
      go_wp2_with fail
      refine (sum_any w4 tO o8 op oc so4).mono ?_
      rintro e w5 ⟨rfl, b5⟩
      have sz5 := sz4.below b5 (Nat.le_refl _)
      have B5 := B4.trans (b5.mono B4.size)
      clear sz4 so4 b5 B4
      go_wp2_with fail
      refine (sum_any w5 tz z8 zp zc sz5).mono ?_
      rintro e w6 ⟨rfl, b6⟩
      have B6 := B5.trans (b6.mono B5.size)
      go_wp2
      go_ret
      exact ⟨rfl, B6⟩
end Go.Proofs.Ytbmjegcnfokagaa
