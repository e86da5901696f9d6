import Derived.Test.YthhchbeaefcljaaKt
import Derived.ArgAppend
import Derived.Deep.DeepAppendRoom
namespace Go.Proofs.Ythhchbeaefcljaa
set_option linter.unusedVariables false
set_option linter.unusedSimpArgs false
open Go.RowKit
attribute [local go_sem ↓] Go.wp_at_zero Go.wp_at_succ

theorem cmpK_all {z y : List Int} (hl : z.length = y.length) (h : ∀ j, j < z.length → z.getD j 0 = y.getD j 0) : z = y := by
  apply List.ext_getElem hl
  intro i h1 h2
  have := h i h1
  simpa [List.getD_eq_getElem?_getD, List.getElem?_eq_getElem h1, List.getElem?_eq_getElem h2] using this
set_option maxRecDepth 100000 in
set_option maxHeartbeats 400000 in
theorem copyBytes_any (w : World) (zs : List Int) (sp : Option Addr) (cap : Nat) (hS : Src w sp cap zs) (hlen : zs.length ≤ 140737488355000) :
    Calls Try.prog 23 #[.slice sp zs.length cap] w fun e w' => ∃ v, e = .returned v ∧ Own w' w.heap.size v zs ∧ Below w.heap.size w w' := by
  obtain ⟨hc, hm, b, o, hb, hsp, hsrc⟩ := hS
  have hO := Own.nil w w.heap.size
  have i0 : (zs.length : Int) ≤ 140737488355000 := by omega
  go_enter Try.func23, Try.ntmps23
  go_wp2
  go_loopw [3, 4] (fun v i wr => ∃ k : Nat, k ≤ zs.length ∧ i = .int .i64 k ∧ Own wr w.heap.size v (zs.take k) ∧ Below w.heap.size w wr) (fun _ i _ => zs.length - (intOf i).toNat)
  case atStart => exact ⟨0, by omega, rfl, hO, Below.refl _ _⟩
  case round =>
    clear hO
    obtain ⟨k, hk, rfl, hO, hB⟩ := hrel
    by_cases hlt : k < zs.length
    · have i1 : (k : Int) < (zs.length : Int) := by omega
      obtain rfl := hsp (by omega)
      have c0 := (hB.cell (p := ⟨b, o + k, none⟩) (hb (by omega))).trans (hsrc k hlt)
      have HT := hid (show zs.take (k + 1) = zs.take k ++ [zs.getD k 0] by
        rw [List.take_succ_eq_append_getElem hlt, List.getD_eq_getElem?_getD, List.getElem?_eq_getElem hlt]; rfl)
      have KL := hid (show (zs.take k).length + 1 ≤ 140737488355328 by rw [List.length_take]; omega)
      generalize zs.getD k 0 = x at *
      generalize zs.take k = zk at *
      go_wp2_with (first | (at_builtin; refine wpList_push_any rfl (.tmp 11) (.tmp 16) rfl w.heap.size _ _ x rfl hO rfl KL.out hB.size _ _ ?_; intro v2 w2 hO2 hB2))
      go_roundw
      case rel => exact ⟨k + 1, by omega, by go_num, (by rw [HT.out]; exact hO2), hB.trans hB2⟩
      case measure => simp [intOf]; omega
    · obtain rfl : k = zs.length := by omega
      rw [List.take_length] at hO
      clear hlt
      go_wp2
      go_ret
      exact ⟨_, rfl, hO, hB⟩
set_option maxRecDepth 100000 in
set_option maxHeartbeats 400000 in
theorem sameBytes_any (w : World) (zs ys : List Int) (sp tp : Option Addr) (cap dap : Nat) (hS : Src w sp cap zs) (hT : Src w tp dap ys) :
    Calls Try.prog 20 #[.slice sp zs.length cap, .slice tp ys.length dap] w fun e w' => e = .returned (.bool (decide (zs = ys))) ∧ Below w.heap.size w w' := by
  obtain ⟨hc, hm, b, o, hb, hsp, hsrc⟩ := hS
  obtain ⟨hc2, hm2, b2, o2, hb2, hsp2, hsrc2⟩ := hT
  unfold maxLen at hm hm2
  by_cases hl : zs.length = ys.length
  · go_enter Try.func20, Try.ntmps20
    rw [hl] at hsp hsrc hb hc ⊢
    have hN := hid hl
    have i0 : (ys.length : Int) ≤ 9223372036854775807 := by omega
    generalize hn : ys.length = n at *
    have HN := hid hn
    clear hl hn
    go_wp2
    go_loopw [5] (fun i wr => ∃ k : Nat, k ≤ n ∧ i = .int .i64 k ∧ (∀ j, j < k → zs.getD j 0 = ys.getD j 0) ∧ Below w.heap.size w wr) (fun i _ => n - (intOf i).toNat)
    case atStart => exact ⟨0, by omega, rfl, fun j hj => by omega, Below.refl _ _⟩
    case round =>
      obtain ⟨k, hk, rfl, hsame, hB⟩ := hrel
      by_cases hlt : k < n
      · have i1 : (k : Int) < (n : Int) := by omega
        obtain rfl := hsp (by omega)
        obtain rfl := hsp2 (by omega)
        have c0 := (hB.cell (p := ⟨b, o + k, none⟩) (hb (by omega))).trans (hsrc k hlt)
        have c1 := (hB.cell (p := ⟨b2, o2 + k, none⟩) (hb2 (by omega))).trans (hsrc2 k hlt)
        by_cases he : zs.getD k 0 = ys.getD k 0
        · have HE := hid (show ∀ j, j < k + 1 → zs.getD j 0 = ys.getD j 0 from fun j hj => by rcases Nat.lt_succ_iff_lt_or_eq.1 hj with h | rfl; exact hsame j h; exact he)
          rw [he] at c0
          clear he hsame
          generalize ys.getD k 0 = x at *
          go_wp2
          go_quiet (fail)
          go_wp2
          go_roundw
          case rel => exact ⟨k + 1, by omega, by go_num, HE.out, below_drewN hB _⟩
          case measure => simp [intOf]; omega
        · have hne : zs ≠ ys := fun e => he (by rw [e])
          clear hsame
          generalize ys.getD k 0 = x at *
          generalize zs.getD k 0 = y at *
          have hd : decide (zs = ys) = false := by simp [hne]
          have HD := hid hd
          clear hd hne
          go_wp2
          go_quiet (fail)
          go_wp2
          go_ret
          exact ⟨(by rw [HD.out]; rfl), below_drewN hB _⟩
      · obtain rfl : k = n := by omega
        have e : zs = ys := cmpK_all (by rw [hN.out, HN.out]) fun j hj => hsame j (by have := hN.out; omega)
        have HD := hid (show decide (zs = ys) = true by simp [e])
        clear e hlt
        go_wp2
        go_ret
        exact ⟨(by rw [HD.out]; rfl), hB⟩
  · have hne : zs ≠ ys := fun e => hl (by rw [e])
    have HD := hid (show decide (zs = ys) = false by simp [hne])
    clear hne
    have hl2 : ¬ ((zs.length : Int) = (ys.length : Int)) := by omega
    generalize decide (zs = ys) = d at *
    generalize zs.length = n at *
    generalize ys.length = m at *
    go_enter Try.func20, Try.ntmps20
    go_wp2
    go_ret
    exact ⟨(by rw [HD.out]; rfl), Below.refl _ _⟩
/-- A list that a call made, not empty. -/
theorem Own.pos {w : World} {base : Nat} {v : Value} {zs : List Int} (h : Own w base v zs) (hp : 0 < zs.length) : ∃ g cap, v = .slice (some ⟨g, 0, none⟩) zs.length cap ∧ w.cell? ⟨g, 0, none⟩ = some (.int .u8 (zs.getD 0 0)) ∧ Src w (some ⟨g, 0, none⟩) cap zs ∧ g < w.heap.size := by
  obtain ⟨h1, ⟨rfl, hn⟩ | ⟨g, cap, cur, rfl, hg, hh, hc, hm, hs, ht⟩⟩ := h
  · omega
  · have hS : Src w (some ⟨g, 0, none⟩) cap zs := by
      refine ⟨hc, hm, g, 0, fun _ => hlt hh, fun _ => rfl, fun j hj => ?_⟩
      rw [Nat.zero_add, cell_of_row _ _ _ _ _ _ hh]
      have hg2 := ints_get .u8 zs j hj
      rw [← ht, List.getElem?_take, if_pos (by omega)] at hg2
      simpa using hg2
    refine ⟨g, cap, rfl, ?_, hS, hlt hh⟩
    obtain ⟨_, _, b, o, _, h4, h5⟩ := hS
    have e := h4 hp
    simp only [Option.some.injEq, Addr.mk.injEq] at e
    obtain ⟨rfl, rfl, _⟩ := e
    exact h5 0 hp
theorem same_self (w : World) (zs : List Int) (sp tp : Option Addr) (cap dap : Nat) (hS : Src w sp cap zs) (hT : Src w tp dap zs) :
    Calls Try.prog 20 #[.slice sp zs.length cap, .slice tp zs.length dap] w fun e w' => e = .returned (.bool true) ∧ Below w.heap.size w w' := by
  have := sameBytes_any w zs zs sp tp cap dap hS hT
  rwa [show decide (zs = zs) = true by simp] at this
end Go.Proofs.Ythhchbeaefcljaa
namespace Go.Proofs.Ythhchbeaefcljaa
set_option linter.unusedVariables false
set_option linter.unusedSimpArgs false
open Go.RowKit
attribute [local go_sem ↓] Go.wp_at_zero Go.wp_at_succ

/-- The mark of a place in a list. -/
def mkK (i k : Nat) : Int := IntKind.u8.wrap (37 * (i : Int) + 11 * (k : Int) + 91 * ((i / 256 : Nat) : Int) + 5 * ((k / 256 : Nat) : Int))
/-- A list of marks. -/
def mksK (i n : Nat) : List Int := (List.range n).map (mkK i)
theorem mksK_len (i n : Nat) : (mksK i n).length = n := by simp [mksK]
theorem mksK_get (i n j : Nat) (h : j < n) : (mksK i n).getD j 0 = mkK i j := by simp [mksK, List.getD_eq_getElem?_getD, h]
theorem mksK_succ (i n : Nat) : mksK i (n + 1) = mksK i n ++ [mkK i n] := by simp [mksK, List.range_succ]
set_option maxRecDepth 100000 in
set_option maxHeartbeats 400000 in
theorem mark_any (w : World) (i k : Nat) (hi : i ≤ 1048576000) (hk : k ≤ 140737488355328) :
    Calls Try.prog 46 #[.int .i64 i, .int .i64 k] w fun e w' => e = .returned (.int .u8 (mkK i k)) ∧ w' = w := by
  have i1 : (i : Int) ≤ 1048576000 := by omega
  have i2 : (k : Int) ≤ 140737488355328 := by omega
  have HM := hid (show mkK i k = IntKind.u8.wrap (37 * (i : Int) + 11 * (k : Int) + 91 * ((i : Int) / 256) + 5 * ((k : Int) / 256)) from rfl)
  go_enter Try.func46, Try.ntmps46
  go_wp2
  go_ret
  refine ⟨?_, rfl⟩
  rw [HM.out]; rfl
end Go.Proofs.Ythhchbeaefcljaa
namespace Go.Proofs.Ythhchbeaefcljaa
set_option linter.unusedVariables false
set_option linter.unusedSimpArgs false
open Go.RowKit
attribute [local go_sem ↓] Go.wp_at_zero Go.wp_at_succ

set_option maxRecDepth 100000 in
set_option maxHeartbeats 1000000 in
theorem marked_any (w : World) (ps : List (List Int)) (sp : Option Addr) (cap : Nat) (hR : Rws w sp ps) (hN : ps.length ≤ 1048576000) (hL : ∀ r, r < ps.length → (ps.getD r []).length ≤ 140737488355328) (hM : ∀ r, r < ps.length → ps.getD r [] = mksK r (ps.getD r []).length) :
    Calls Try.prog 47 #[.slice sp ps.length cap] w fun e w' => e = .returned (.bool true) ∧ Below w.heap.size w w' := by
  have i0 : (ps.length : Int) ≤ 1048576000 := by omega
  have HR := hid hR
  have HM := hid hM
  have HL := hid hL
  clear hR hM hL
  go_enter Try.func47, Try.ntmps47
  go_wp2
  go_loopw [3, 4] (fun i kv wr => ∃ n : Nat, n ≤ ps.length ∧ i = .int .i64 n ∧ Below w.heap.size w wr) (fun i _ _ => ps.length - (intOf i).toNat)
  case atStart => exact ⟨0, by omega, rfl, Below.refl _ _⟩
  case round =>
    obtain ⟨n, hn, rfl, hB⟩ := hrel
    by_cases hlt : n < ps.length
    · have i1 : (n : Int) < (ps.length : Int) := by omega
      obtain ⟨b, o, sp2, c2, rfl, c0, hnil, hS, hb⟩ := HR.out.piece (Below.refl _ _) n hlt
      obtain ⟨hc, hm, b2, o2, hb2, hsp, hsrc⟩ := hS
      have C0 := hid c0
      have hln := HL.out n hlt
      have i2 : ((ps.getD n []).length : Int) ≤ 140737488355328 := by omega
      have HSR := hid (fun j (hj : j < (ps.getD n []).length) => (hsrc j hj).trans (by rw [HM.out n hlt, mksK_get _ _ _ hj] : some (Value.int .u8 ((ps.getD n []).getD j 0)) = some (Value.int .u8 (mkK n j))))
      have HB := hid hb2
      have HSP := hid hsp
      clear hsrc hb2 hsp c0
      generalize (ps.getD n []).length = L at *
      go_wp2
      go_loopw [4] (fun i wr => ∃ k : Nat, k ≤ L ∧ i = .int .i64 k ∧ Below w.heap.size w wr) (fun i _ => L - (intOf i).toNat)
      case atStart => exact ⟨0, by omega, rfl, hB⟩
      case round =>
        clear hB
        obtain ⟨k, hk, rfl, hB2⟩ := hrel
        have c0 := (hB2.cell (p := ⟨b, o + n, none⟩) hb).trans C0.out
        by_cases hlk : k < L
        · have i3 : (k : Int) < (L : Int) := by omega
          have C1 := hid (HSR.out k hlk)
          have HB2 := hid (HB.out (by omega))
          obtain rfl := HSP.out (by omega)
          go_wp2
          refine wp_region_noPanic ?_
          refine wp_region_held_drew (S := fun w' => Below w.heap.size w w') (by kernel_rfl) hB2.drew (fun hHeld => ?_)
          refine wpAnyH_take (i := 0) (oi := { dst := some 20, op := Op.move (Operand.tmp 0), type := 29, pos := "keeper.go:33", after := #[], guard := none }) (v := .slice (some ⟨b, o, none⟩) ps.length cap) rfl (by kernel_rfl) (by kernel_rfl) (by kernel_rfl) (fun _ _ _ h => h) (Or.inl ⟨by rfl, by intro w hS; go_simp⟩) hHeld ?_
          try simp only [Act.put, List.setIfInBounds_toArray, List.set_cons_zero, List.set_cons_succ]
          refine wpAnyH_take (i := 1) (oi := { dst := some 21, op := Op.move (Operand.tmp 3), type := 3, pos := "keeper.go:33", after := #[], guard := none }) (v := .int .i64 n) rfl (by kernel_rfl) (by kernel_rfl) (by kernel_rfl) (fun _ _ _ h => h) (Or.inl ⟨by rfl, by intro w hS; go_simp⟩) hHeld ?_
          try simp only [Act.put, List.setIfInBounds_toArray, List.set_cons_zero, List.set_cons_succ]
          refine wpAnyH_take (i := 4) (oi := { dst := some 24, op := Op.move (Operand.tmp 4), type := 3, pos := "keeper.go:33", after := #[], guard := none }) (v := .int .i64 k) rfl (by kernel_rfl) (by kernel_rfl) (by kernel_rfl) (fun _ _ _ h => h) (Or.inl ⟨by rfl, by intro w hS; go_simp⟩) hHeld ?_
          try simp only [Act.put, List.setIfInBounds_toArray, List.set_cons_zero, List.set_cons_succ]
          refine wpAnyH_take (i := 7) (oi := { dst := some 27, op := Op.move (Operand.tmp 3), type := 3, pos := "keeper.go:33", after := #[], guard := none }) (v := .int .i64 n) rfl (by kernel_rfl) (by kernel_rfl) (by kernel_rfl) (fun _ _ _ h => h) (Or.inl ⟨by rfl, by intro w hS; go_simp⟩) hHeld ?_
          try simp only [Act.put, List.setIfInBounds_toArray, List.set_cons_zero, List.set_cons_succ]
          refine wpAnyH_take (i := 8) (oi := { dst := some 28, op := Op.move (Operand.tmp 4), type := 3, pos := "keeper.go:33", after := #[], guard := none }) (v := .int .i64 k) rfl (by kernel_rfl) (by kernel_rfl) (by kernel_rfl) (fun _ _ _ h => h) (Or.inl ⟨by rfl, by intro w hS; go_simp⟩) hHeld ?_
          try simp only [Act.put, List.setIfInBounds_toArray, List.set_cons_zero, List.set_cons_succ]
          refine wpAnyH_take (i := 2) (oi := { dst := some 22, op := Op.indexAddr 29 (Operand.tmp 20) (Operand.tmp 21), type := 0, pos := "keeper.go:33", after := #[{ on := 0, ground := Ground.data }, { on := 1, ground := Ground.data }], guard := none }) (v := .pointer (some ⟨b, o + n, none⟩)) rfl (by kernel_rfl) (by kernel_rfl) (by kernel_rfl) (fun _ _ _ h => h) (Or.inl ⟨by rfl, by intro w hS; go_simp⟩) hHeld ?_
          try simp only [Act.put, List.setIfInBounds_toArray, List.set_cons_zero, List.set_cons_succ]
          refine wpAnyH_take (i := 3) (oi := { dst := some 23, op := Op.load 33 (Operand.tmp 22), type := 33, pos := "keeper.go:33", after := #[{ on := 2, ground := Ground.data }], guard := none }) (v := .slice (some ⟨b2, o2, none⟩) L c2) rfl (by kernel_rfl) (by kernel_rfl) (by kernel_rfl) (fun _ _ _ h => h) (Or.inl ⟨by rfl, by intro w hS; have hc := hS.cell (p := ⟨b, o + n, none⟩) hb |>.trans C0.out; go_simp⟩) hHeld ?_
          try simp only [Act.put, List.setIfInBounds_toArray, List.set_cons_zero, List.set_cons_succ]
          refine wpAnyH_take (i := 5) (oi := { dst := some 25, op := Op.indexAddr 33 (Operand.tmp 23) (Operand.tmp 24), type := 0, pos := "keeper.go:33", after := #[{ on := 3, ground := Ground.data }, { on := 4, ground := Ground.data }], guard := none }) (v := .pointer (some ⟨b2, o2 + k, none⟩)) rfl (by kernel_rfl) (by kernel_rfl) (by kernel_rfl) (fun _ _ _ h => h) (Or.inl ⟨by rfl, by intro w hS; go_simp⟩) hHeld ?_
          try simp only [Act.put, List.setIfInBounds_toArray, List.set_cons_zero, List.set_cons_succ]
          refine wpAnyH_take (i := 6) (oi := { dst := some 26, op := Op.load 5 (Operand.tmp 25), type := 5, pos := "keeper.go:33", after := #[{ on := 5, ground := Ground.data }], guard := none }) (v := .int .u8 (mkK n k)) rfl (by kernel_rfl) (by kernel_rfl) (by kernel_rfl) (fun _ _ _ h => h) (Or.inl ⟨by rfl, by intro w hS; have hc := hS.cell (p := ⟨b2, o2 + k, none⟩) HB2.out |>.trans C1.out; go_simp⟩) hHeld ?_
          try simp only [Act.put, List.setIfInBounds_toArray, List.set_cons_zero, List.set_cons_succ]
          refine wpAnyH_ready (rs := [9]) (by kernel_rfl) (by simp) ?_
          refine (AllReadyH.cons (o := { dst := some 29, op := Op.call { callee := Callee.value (Operand.func 46), args := #[Operand.tmp 27, Operand.tmp 28], argTypes := #[3, 3] }, type := 5, pos := "keeper.go:33", after := #[{ on := 7, ground := Ground.data }, { on := 8, ground := Ground.data }], guard := none }) rfl (fun K hK => ?_) AllReadyH.nil)
          go_simp
          go_at_call 46
          refine (mark_any _ n k (by omega) (by omega)).mono ?_
          rintro e w4 ⟨rfl, rfl⟩
          go_wp2_with fail
          refine hK.out _ _ (hHeld) (fun hHeld2 => ?_)
          clear hK K hHeld
          have hHeld := hHeld2
          clear hHeld2
          try simp only [Act.put, List.setIfInBounds_toArray, List.set_cons_zero, List.set_cons_succ]
          refine wpAnyH_take (i := 10) (oi := { dst := some 30, op := Op.binOp BinOp.neq 5 (Operand.tmp 26) (Operand.tmp 29) 5, type := 4, pos := "keeper.go:33", after := #[{ on := 6, ground := Ground.data }, { on := 9, ground := Ground.data }], guard := none }) (v := .bool false) rfl (by kernel_rfl) (by kernel_rfl) (by kernel_rfl) (fun _ _ _ h => h) (Or.inl ⟨by rfl, by intro w hS; go_simp⟩) hHeld ?_
          try simp only [Act.put, List.setIfInBounds_toArray, List.set_cons_zero, List.set_cons_succ]
          refine wpAnyH_done (by kernel_rfl) ?_ _
          refine NoPanic.normal ?_
          have hf := hHeld
          clear hHeld
          go_wp2
          go_roundw
          case rel => exact ⟨k + 1, by omega, by go_num, hf⟩
          case measure => simp [intOf]; omega
        · have hkn : k = L := by omega
          clear hlk
          subst hkn
          go_wp2
          go_roundw
          case rel => exact ⟨n + 1, by omega, by go_num, hB2⟩
          case measure => simp [intOf]; omega
    · obtain rfl : n = ps.length := by omega
      clear hlt
      go_wp2
      go_ret
      exact ⟨rfl, hB⟩
end Go.Proofs.Ythhchbeaefcljaa
namespace Go.Proofs.Ythhchbeaefcljaa
set_option linter.unusedVariables false
set_option linter.unusedSimpArgs false
open Go.RowKit
attribute [local go_sem ↓] Go.wp_at_zero Go.wp_at_succ

def OwnK (w : World) (base : Nat) (v : Value) (vs : List Value) : Prop := w.ownsRow base 33 1 v vs.length vs
theorem OwnK.nil (w : World) (base : Nat) : OwnK w base (.slice none 0 0) [] := ⟨rfl, Or.inl ⟨rfl, rfl⟩⟩
theorem OwnK.heap {w : World} {base : Nat} {v : Value} {vs : List Value} (h : OwnK w base v vs) : ∀ k, v.ownBlock = some k → base ≤ k ∧ k < w.heap.size ∧ ∃ cs, w.heap[k]? = some (.cells cs 33 (0, 0)) := by
  intro k hk
  rcases h.2 with ⟨rfl, _⟩ | ⟨g, cap, cur, rfl, hg, hh, _⟩
  · simp [Value.ownBlock] at hk
  · simp [Value.ownBlock] at hk; subst hk; exact ⟨hg, hlt hh, cur, hh⟩
theorem OwnK.of_heap {w w1 : World} {base : Nat} {v : Value} {vs : List Value} (h : OwnK w base v vs) (hk : ∀ k, v.ownBlock = some k → w1.heap[k]? = w.heap[k]?) : OwnK w1 base v vs := by
  refine ⟨h.1, ?_⟩
  rcases h.2 with h2 | ⟨g, cap, cur, rfl, hg, hh, r⟩
  · exact Or.inl h2
  · exact Or.inr ⟨g, cap, cur, rfl, hg, (hk g rfl).trans hh, r⟩
/-- Where the elements lie. -/
theorem OwnK.at {w : World} {base : Nat} {v : Value} {vs : List Value} (h : OwnK w base v vs) : ∃ sp cap b, v = .slice sp vs.length cap ∧ vs.length ≤ cap ∧ cap ≤ maxLen ∧ (0 < vs.length → sp = some ⟨b, 0, none⟩) ∧ ∀ j, j < vs.length → w.cell? ⟨b, j, none⟩ = some (vs.getD j undef) := by
  obtain ⟨h1, ⟨rfl, hn⟩ | ⟨g, cap, cur, rfl, hg, hh, hc, hm, hs, ht⟩⟩ := h
  · exact ⟨none, 0, 0, by rw [hn], by omega, by simp [maxLen], fun h => by omega, fun j hj => by omega⟩
  · refine ⟨some ⟨g, 0, none⟩, cap, g, rfl, hc, hm, fun _ => rfl, fun j hj => ?_⟩
    rw [cell_of_row _ _ _ _ _ _ hh]
    have e : vs[j]? = cur.toList[j]? := by
      rw [← ht, List.getElem?_take, if_pos (by omega)]
    rw [List.getD_eq_getElem?_getD, e]
    have hj2 : j < cur.toList.length := by simp; omega
    rw [List.getElem?_eq_getElem hj2]
    simp
theorem ne_tyK {w : World} {a b : Nat} {x y : Array Value} {t u : TypeId} {f f' : Nat × Nat} (ha : w.heap[a]? = some (.cells x t f)) (hb : w.heap[b]? = some (.cells y u f')) (h : t ≠ u) : a ≠ b := by
  rintro rfl
  rw [ha] at hb
  cases hb
  exact h rfl
def DjB (v1 v2 : Value) : Prop := ∀ k, v1.ownBlock = some k → v2.ownBlock = some k → False
theorem DjB.symm {u v : Value} (h : DjB u v) : DjB v u := fun k h1 h2 => h k h2 h1
theorem DjB.nil (v : Value) : DjB (.slice none 0 0) v := fun k h => by simp [Value.ownBlock] at h
theorem DjK.push {w : World} {base : Nat} {u v v' : Value} {us : List Value} (h : OwnK w base u us) (hd : DjB v u) (hv : v'.ownBlock = v.ownBlock ∨ ∃ k, v'.ownBlock = some k ∧ w.heap.size ≤ k) : DjB v' u := fun k h1 h2 => by
  rcases hv with e | ⟨k', e, hk'⟩
  · exact hd k (e ▸ h1) h2
  · rw [e] at h1; cases h1; have := (h.heap _ h2).2.1; omega
theorem Try.infoKm : (Try.prog.info? 33).map (fun i => (i.zero, i.size, i.bytes)) = some (some (.slice none 0 0), 1, 24) := by kernel_rfl
theorem Try.infoK : ∃ i, Try.prog.info? 33 = some i ∧ i.zero = some (.slice none 0 0) ∧ i.size = 1 ∧ i.bytes = 24 := by
  have h := Try.infoKm
  cases hq : Try.prog.info? 33 with
  | none => rw [hq] at h; cases h
  | some i =>
    rw [hq] at h
    simp only [Option.map_some, Option.some.injEq, Prod.mk.injEq] at h
    exact ⟨i, rfl, h.1, h.2.1, h.2.2⟩
/-- append(own list of slices, x..), the new ones in a block of their own. -/
theorem wpList_pushKp {w : World} {ops : Array Oper} {rest : List Oper} {o : Oper} {a : Act} {Q : Exit → Act → World → Prop} (hgd : o.guard = none) (s x : Operand)
    (ho : o.op = .call { callee := .builtin .append, args := #[s, x], argTypes := #[29, 29] })
    (base : Nat) (v : Value) (vs ys : List Value) (hs : a.eval s = v) (hown : OwnK w base v vs) (hx : a.eval x = .slice (some ⟨w.heap.size, 0, none⟩) ys.length ys.length) (h1 : ∀ y ∈ ys, y.oneCell' = true)
    (hlen : vs.length + ys.length ≤ 1000000000000) (hbase : base ≤ w.heap.size) (t : TypeId) (fr : Nat × Nat)
    (h : ∀ v' w', OwnK w' base v' (vs ++ ys) → Below base w w' → (∀ k, k < w.heap.size → v.ownBlock ≠ some k → w'.heap[k]? = w.heap[k]?) → (v'.ownBlock = v.ownBlock ∨ ∃ k, v'.ownBlock = some k ∧ w.heap.size ≤ k) → wpList Try.prog ops Q rest (a.put o.dst v') w') :
    wpList Try.prog ops Q (o :: rest) a (w.alloc (.cells ys.toArray t fr)) := by
  obtain ⟨i5, hi5, hz5, hs5, hy5⟩ := Try.infoK
  have hown' : OwnK (w.alloc (.cells ys.toArray t fr)) base v vs := hown.of_heap fun k hk => by
    show (w.heap.push _)[k]? = _
    rw [Array.getElem?_push, if_neg (by have := (hown.heap k hk).2.1; omega)]
  refine wpList_append_own_at _ hgd s x 29 ho base 33 i5 (.slice none 0 0) 1 24 Try.underlying29 hi5 hz5 hs5 hy5 rfl Nat.one_pos v vs.length vs hs hown' ⟨w.heap.size, 0, none⟩ ys.length ys.length ys hx (by omega) ?_ h1 (by unfold maxLen; omega) (by omega) (by simp; omega) ?_
  · intro j u hu
    rw [Addr.add_mid, Nat.zero_add, cell_of_row _ _ _ _ _ _ (hnew w _)]
    simpa using hu
  · intro v' w' q1 q2 _ q4
    have hB1 : Below base w (w.alloc (.cells ys.toArray t fr)) := (Below.refl _ _).alloc hbase _
    refine h v' w' (by unfold OwnK; rw [List.length_append]; exact q1) (hB1.trans (grown_keeps q2 (fun k hk => (hown.heap k hk).1) (by simp; omega))) (fun k hk hne => ?_) ?_
    · rw [q2.block k (by simp; omega) (fun e => hne e.symm)]
      show (w.heap.push _)[k]? = _
      rw [Array.getElem?_push, if_neg (by omega)]
    · rcases q4 with e | e
      · exact Or.inl e
      · exact Or.inr ⟨_, e, by simp⟩
theorem step_pushKp {w : World} {ops : Array Oper} {o : Oper} {a : Act} {K : Act → World → Prop} {Q : Exit → Act → World → Prop} {E : Prop} (hgd : o.guard = none) (s x : Operand)
    (ho : o.op = .call { callee := .builtin .append, args := #[s, x], argTypes := #[29, 29] })
    (base : Nat) (v : Value) (vs : List Value) (y : Value) (hs : a.eval s = v) (hown : OwnK w base v vs) (b : Nat) (hbl : w.cell? ⟨b, 0, none⟩ = some y) (hx : a.eval x = .slice (some ⟨b, 0, none⟩) 1 1) (h1 : y.oneCell' = true)
    (hlen : vs.length + 1 ≤ 1000000000000) (hbase : base ≤ w.heap.size)
    (h : ∀ v' w', OwnK w' base v' (vs ++ [y]) → Below base w w' → (∀ k, k < w.heap.size → v.ownBlock ≠ some k → w'.heap[k]? = w.heap[k]?) → (v'.ownBlock = v.ownBlock ∨ ∃ k, v'.ownBlock = some k ∧ w.heap.size ≤ k) → K (a.put o.dst v') w') :
    if Region.wanted o (yielded ops a.tmps) = true then Oper.wp Try.prog o a w K Q else E := by
  have hw : Region.wanted o (yielded ops a.tmps) = true := by simp [Region.wanted, hgd]
  rw [if_pos hw]
  obtain ⟨i5, hi5, hz5, hs5, hy5⟩ := Try.infoK
  obtain ⟨v', w', hr, q1, q2, _, q4⟩ := run_append_own_at (P := Try.prog) w base 29 o.type 33 i5 (.slice none 0 0) 1 24 Try.underlying29 hi5 hz5 hs5 hy5 rfl Nat.one_pos v vs.length vs hown ⟨b, 0, none⟩ 1 1 [y] (by simp) (by
    intro j u hu
    have hj : j = 0 := by have := (List.getElem?_eq_some_iff.1 hu).1; simpa using this
    subst hj
    rw [Addr.add_mid, hbl]; simpa using hu) (by simpa using h1) (by unfold maxLen; omega) (by omega) hbase
  unfold Oper.wp execOp
  simp only [ho, resolve, invoke, builtin, Sem.run_bind, Sem.run_pure, Result.andThen_ok, List.map_toArray, List.map_cons, List.map_nil, hs, hx, hr]
  refine h v' w' (by unfold OwnK; rw [List.length_append]; exact q1) (grown_keeps q2 (fun k hk => (hown.heap k hk).1) hbase) (fun k hk hne => q2.block k hk (fun e => hne e.symm)) ?_
  rcases q4 with e | e
  · exact Or.inl e
  · exact Or.inr ⟨_, e, Nat.le_refl _⟩
/-- The keeper's own memory: its two lists. -/
structure PK (w : World) (base B : Nat) (v1 v2 : Value) (L1 L2 : List Value) : Prop where
  hb : base ≤ B
  bk : w.heap[B]? = some (.cells #[v1, v2] 67 (0, 0))
  o1 : OwnK w base v1 L1
  o2 : OwnK w base v2 L2
  dj : DjB v1 v2
/-- What a call of keep leaves: all but lists of lists and keepers. -/
def TF (w w' : World) : Prop := ∀ (k : Nat) (o : Obj), w.heap[k]? = some o → (∀ cs fr, o ≠ .cells cs 33 fr) → (∀ cs fr, o ≠ .cells cs 67 fr) → w'.heap[k]? = some o
theorem TF.refl (w : World) : TF w w := fun _ _ h _ _ => h
theorem TF.trans {a b c : World} (h : TF a b) (k : TF b c) : TF a c := fun i o ho h1 h2 => k i o (h i o ho h1 h2) h1 h2
theorem TF.below {a b : World} (h : Below a.heap.size a b) : TF a b := fun k o ho _ _ => hbel h ho (hlt ho)
theorem TF.bytes {a b : World} (h : TF a b) {k : Nat} {cs : Array Value} {fr : Nat × Nat} (hk : a.heap[k]? = some (.cells cs 5 fr)) : b.heap[k]? = some (.cells cs 5 fr) :=
  h k _ hk (fun _ _ e => by cases e) (fun _ _ e => by cases e)
theorem ownK_ne {w : World} {base B : Nat} {v : Value} {vs : List Value} {x : Array Value} (h : OwnK w base v vs) (hb : w.heap[B]? = some (.cells x 67 (0, 0))) : v.ownBlock ≠ some B := fun e => by
  obtain ⟨_, _, cs, hc⟩ := h.heap _ e
  exact ne_tyK hc hb (by decide) rfl
theorem PK.below {w w1 : World} {base B : Nat} {v1 v2 : Value} {L1 L2 : List Value} (h : PK w base B v1 v2 L1 L2) (hb : Below w.heap.size w w1) : PK w1 base B v1 v2 L1 L2 :=
  ⟨h.hb, hbel hb h.bk (hlt h.bk), h.o1.of_heap fun k e => hb.block k (h.o1.heap k e).2.1, h.o2.of_heap fun k e => hb.block k (h.o2.heap k e).2.1, h.dj⟩
theorem PK.c1 {w : World} {base B : Nat} {v1 v2 : Value} {L1 L2 : List Value} (h : PK w base B v1 v2 L1 L2) : w.cell? ⟨B, 0, none⟩ = some v1 := by rw [cell_of_row _ _ _ _ _ _ h.bk]; rfl
theorem PK.c2 {w : World} {base B : Nat} {v1 v2 : Value} {L1 L2 : List Value} (h : PK w base B v1 v2 L1 L2) : w.cell? ⟨B, 1, none⟩ = some v2 := by rw [cell_of_row _ _ _ _ _ _ h.bk]; rfl
theorem below_set {base : Nat} {w w1 : World} (h : Below base w w1) {a : Addr} (ha : base ≤ a.block) (v : Value) : Below base w (w1.setCell a v) :=
  ⟨h.os, h.tape, h.output, by rw [World.size_setCell]; exact h.size, fun k hk => by rw [heap_setCell_other w1 a k v (by omega)]; exact h.block k hk⟩
theorem tf_set {w w1 : World} {base B o : Nat} {v : Value} {vs : List Value} {x : Array Value} (hv : OwnK w base v vs) (hb : w.heap[B]? = some (.cells x 67 (0, 0)))
    (q3 : ∀ k, k < w.heap.size → v.ownBlock ≠ some k → w1.heap[k]? = w.heap[k]?) (y : Value) : TF w (w1.setCell ⟨B, o, none⟩ y) := fun k ob hk h1 h2 => by
  have hB : k ≠ B := by rintro rfl; rw [hb] at hk; cases hk; exact h2 _ _ rfl
  rw [heap_setCell_other w1 _ k _ hB, q3 k (hlt hk) (fun e => by
    obtain ⟨_, _, cs, hc⟩ := hv.heap _ e
    rw [hc] at hk; cases hk; exact h1 _ _ rfl)]
  exact hk
/-- What one push leaves: all but the keeper and the list's own block. -/
structure BU (base B : Nat) (v v' : Value) (w w' : World) : Prop where
  bel : Below base w w'
  nv : v'.ownBlock = v.ownBlock ∨ ∃ k, v'.ownBlock = some k ∧ w.heap.size ≤ k
  fr : ∀ k, k < w.heap.size → k ≠ B → v.ownBlock ≠ some k → w'.heap[k]? = w.heap[k]?
theorem BU.drew {base B : Nat} {v v' : Value} {w w' : World} (h : BU base B v v' w w') : BU base B v v' w w'.drew := ⟨h.bel.drew, h.nv, h.fr⟩
/-- What keep leaves: all but the keeper and its two lists of lists. -/
def UF (B : Nat) (v1 v2 : Value) (w w' : World) : Prop := ∀ k, k < w.heap.size → k ≠ B → v1.ownBlock ≠ some k → v2.ownBlock ≠ some k → w'.heap[k]? = w.heap[k]?
/-- Where the keeper's new lists of lists and copy lie. -/
def NB (w : World) (v1 v2 v1' v2' y : Value) : Prop := ∀ k, v1'.ownBlock = some k ∨ v2'.ownBlock = some k ∨ y.ownBlock = some k → v1.ownBlock = some k ∨ v2.ownBlock = some k ∨ w.heap.size ≤ k
theorem PK.push1 {w w1 : World} {base B : Nat} {v1 v2 v' x : Value} {L1 L2 : List Value} (h : PK w base B v1 v2 L1 L2) (q1 : OwnK w1 base v' (L1 ++ [x])) (q2 : Below base w w1)
    (q3 : ∀ k, k < w.heap.size → v1.ownBlock ≠ some k → w1.heap[k]? = w.heap[k]?) (q4 : v'.ownBlock = v1.ownBlock ∨ ∃ k, v'.ownBlock = some k ∧ w.heap.size ≤ k) :
    w1.heap[B]? = some (.cells #[v1, v2] 67 (0, 0)) ∧ PK (w1.setCell ⟨B, 0, none⟩ v') base B v' v2 (L1 ++ [x]) L2 ∧ TF w (w1.setCell ⟨B, 0, none⟩ v') ∧ BU base B v1 v' w (w1.setCell ⟨B, 0, none⟩ v') := by
  have e1 : w1.heap[B]? = some (.cells #[v1, v2] 67 (0, 0)) := (q3 B (hlt h.bk) (ownK_ne h.o1 h.bk)).trans h.bk
  refine ⟨e1, ⟨h.hb, ?_, ?_, ?_, ?_⟩, tf_set h.o1 h.bk q3 _, ⟨below_set q2 h.hb _, q4, fun k hk hB hv => (heap_setCell_other w1 _ k _ hB).trans (q3 k hk hv)⟩⟩
  · rw [heap_setCell_same _ _ _ _ _ _ e1]; rfl
  · exact q1.of_heap fun k e => heap_setCell_other w1 _ k _ (show k ≠ B from fun hh => ownK_ne q1 e1 (hh ▸ e))
  · exact h.o2.of_heap fun k e => by
      rw [heap_setCell_other w1 _ k _ (show k ≠ B from fun hh => ownK_ne h.o2 h.bk (hh ▸ e))]
      exact q3 k (h.o2.heap k e).2.1 (fun e1 => h.dj k e1 e)
  · exact DjK.push h.o2 h.dj q4
theorem PK.push2 {w w1 : World} {base B : Nat} {v1 v2 v' x : Value} {L1 L2 : List Value} (h : PK w base B v1 v2 L1 L2) (q1 : OwnK w1 base v' (L2 ++ [x])) (q2 : Below base w w1)
    (q3 : ∀ k, k < w.heap.size → v2.ownBlock ≠ some k → w1.heap[k]? = w.heap[k]?) (q4 : v'.ownBlock = v2.ownBlock ∨ ∃ k, v'.ownBlock = some k ∧ w.heap.size ≤ k) :
    w1.heap[B]? = some (.cells #[v1, v2] 67 (0, 0)) ∧ PK (w1.setCell ⟨B, 1, none⟩ v') base B v1 v' L1 (L2 ++ [x]) ∧ TF w (w1.setCell ⟨B, 1, none⟩ v') ∧ BU base B v2 v' w (w1.setCell ⟨B, 1, none⟩ v') := by
  have e1 : w1.heap[B]? = some (.cells #[v1, v2] 67 (0, 0)) := (q3 B (hlt h.bk) (ownK_ne h.o2 h.bk)).trans h.bk
  refine ⟨e1, ⟨h.hb, ?_, ?_, ?_, ?_⟩, tf_set h.o2 h.bk q3 _, ⟨below_set q2 h.hb _, q4, fun k hk hB hv => (heap_setCell_other w1 _ k _ hB).trans (q3 k hk hv)⟩⟩
  · rw [heap_setCell_same _ _ _ _ _ _ e1]; rfl
  · exact h.o1.of_heap fun k e => by
      rw [heap_setCell_other w1 _ k _ (show k ≠ B from fun hh => ownK_ne h.o1 h.bk (hh ▸ e))]
      exact q3 k (h.o1.heap k e).2.1 (fun e2 => h.dj k e e2)
  · exact q1.of_heap fun k e => heap_setCell_other w1 _ k _ (show k ≠ B from fun hh => ownK_ne q1 e1 (hh ▸ e))
  · exact (DjK.push h.o1 h.dj.symm q4).symm
theorem own_oneK {w : World} {base : Nat} {v : Value} {zs : List Int} (h : Own w base v zs) : v.oneCell' = true := by
  rcases h.2 with ⟨rfl, _⟩ | ⟨g, cap, cur, rfl, _⟩ <;> rfl
theorem own_tf {w w1 : World} {base : Nat} {v : Value} {zs : List Int} (h : Own w base v zs) (ht : TF w w1) : Own w1 base v zs := h.of_heap fun k e => by
  rcases h.2 with ⟨rfl, _⟩ | ⟨g, cap, cur, rfl, hg, hh, _⟩
  · simp [Value.ownBlock] at e
  · simp [Value.ownBlock] at e; subst e; rw [hh]; exact ht.bytes hh
/-- The keeper: its lists hold what they held when they came, and none has memory in common with another. -/
structure KP (w : World) (base B : Nat) (v1 v2 : Value) (L1 L2 : List Value) (zs : List (List Int)) : Prop where
  pk : PK w base B v1 v2 L1 L2
  l1 : L1.length = zs.length
  l2 : L2.length = zs.length
  e1 : ∀ i, i < zs.length → Own w base (L1.getD i undef) (zs.getD i [])
  e2 : ∀ i, i < zs.length → Own w base (L2.getD i undef) (zs.getD i [])
  ap : ∀ i j, i < j → j < zs.length → DjB (L1.getD i undef) (L1.getD j undef)
theorem getD_snocK (L : List Value) (x : Value) (i : Nat) : (L ++ [x]).getD i undef = if i = L.length then x else L.getD i undef := by
  by_cases h : i < L.length
  · rw [if_neg (by omega)]; simp [List.getD_eq_getElem?_getD, List.getElem?_append_left h]
  · by_cases e : i = L.length
    · subst e; simp [List.getD_eq_getElem?_getD]
    · rw [if_neg e]; simp only [List.getD_eq_getElem?_getD]; rw [List.getElem?_eq_none (by simp; omega), List.getElem?_eq_none (by omega)]
theorem getD_snocZ (L : List (List Int)) (x : List Int) (i : Nat) : (L ++ [x]).getD i [] = if i = L.length then x else L.getD i [] := by
  by_cases h : i < L.length
  · rw [if_neg (by omega)]; simp [List.getD_eq_getElem?_getD, List.getElem?_append_left h]
  · by_cases e : i = L.length
    · subst e; simp [List.getD_eq_getElem?_getD]
    · rw [if_neg e]; simp only [List.getD_eq_getElem?_getD]; rw [List.getElem?_eq_none (by simp; omega), List.getElem?_eq_none (by omega)]
theorem KP.below {w w1 : World} {base B : Nat} {v1 v2 : Value} {L1 L2 : List Value} {zs : List (List Int)} (h : KP w base B v1 v2 L1 L2 zs) (hb : Below w.heap.size w w1) : KP w1 base B v1 v2 L1 L2 zs :=
  ⟨h.pk.below hb, h.l1, h.l2, fun i hi => (h.e1 i hi).below hb (Nat.le_refl _), fun i hi => (h.e2 i hi).below hb (Nat.le_refl _), h.ap⟩
/-- One more list. -/
theorem KP.snoc {w w1 : World} {base B : Nat} {v1 v2 v1' v2' x y : Value} {L1 L2 : List Value} {zs : List (List Int)} {ys : List Int} (h : KP w base B v1 v2 L1 L2 zs) (hp : PK w1 base B v1' v2' (L1 ++ [x]) (L2 ++ [y])) (ht : TF w w1)
    (hx : Own w1 base x ys) (hy : Own w1 base y ys) (hd : ∀ i, i < zs.length → DjB (L1.getD i undef) x) : KP w1 base B v1' v2' (L1 ++ [x]) (L2 ++ [y]) (zs ++ [ys]) := by
  refine ⟨hp, by simp [h.l1], by simp [h.l2], fun i hi => ?_, fun i hi => ?_, fun i j hij hj => ?_⟩
  · rw [getD_snocK, getD_snocZ, h.l1]
    by_cases e : i = zs.length
    · rw [if_pos e, if_pos e]; exact hx
    · rw [if_neg e, if_neg e]; exact own_tf (h.e1 i (by simp at hi; omega)) ht
  · rw [getD_snocK, getD_snocZ, h.l2]
    by_cases e : i = zs.length
    · rw [if_pos e, if_pos e]; exact hy
    · rw [if_neg e, if_neg e]; exact own_tf (h.e2 i (by simp at hi; omega)) ht
  · simp at hj
    rw [getD_snocK, getD_snocK, h.l1, if_neg (by omega)]
    by_cases e : j = zs.length
    · rw [if_pos e]; exact hd i (by omega)
    · rw [if_neg e]; exact h.ap i j hij (by omega)
end Go.Proofs.Ythhchbeaefcljaa
namespace Go.Proofs.Ythhchbeaefcljaa
set_option linter.unusedVariables false
set_option linter.unusedSimpArgs false
open Go.RowKit
attribute [local go_sem ↓] Go.wp_at_zero Go.wp_at_succ

theorem OwnK.sl {w : World} {base : Nat} {v : Value} {vs : List Value} (h : OwnK w base v vs) : ∃ s n c, v = .slice s n c := by
  obtain ⟨s, c, b, e, _⟩ := h.at
  exact ⟨s, _, c, e⟩
theorem own_base {w : World} {base b : Nat} {v : Value} {zs : List Int} (h : Own w b v zs) (hb : base ≤ b) : Own w base v zs :=
  ⟨h.1, h.2.imp id fun ⟨g, cap, cur, e, hg, r⟩ => ⟨g, cap, cur, e, Nat.le_trans hb hg, r⟩⟩
theorem keep_fin {w w1 wB wC wz : World} {base B : Nat} {v1 v2 v1' v2' x y : Value} {L1 L2 : List Value} {zs : List (List Int)} {ys : List Int} {o : Obj} (h : KP w base B v1 v2 L1 L2 zs) (hx : Own w base x ys) (hd : ∀ i, i < zs.length → DjB (L1.getD i undef) x)
    (P1 : PK w1 base B v1' v2 (L1 ++ [x]) L2) (F1 : TF w w1) (b1 : BU base B v1 v1' w w1) (hOy : Own wB w1.heap.size y ys) (hB4 : Below w1.heap.size w1 wB)
    (P2 : PK (wC.setCell ⟨B, 1, none⟩ v2') base B v1' v2' (L1 ++ [x]) (L2 ++ [y])) (F2 : TF (wB.alloc o) (wC.setCell ⟨B, 1, none⟩ v2')) (b2 : BU base B v2 v2' (wB.alloc o) (wC.setCell ⟨B, 1, none⟩ v2')) (hz : wz = wC.setCell ⟨B, 1, none⟩ v2') :
    ∃ v1' v2' y, KP wz base B v1' v2' (L1 ++ [x]) (L2 ++ [y]) (zs ++ [ys]) ∧ TF w wz ∧ Below base w wz ∧ UF B v1 v2 w wz ∧ NB w v1 v2 v1' v2' y := by
  subst hz
  have hb1 : base ≤ w1.heap.size := Nat.le_trans P1.hb (Nat.le_of_lt (hlt P1.bk))
  have bA : Below wB.heap.size wB (wB.alloc o) := (Below.refl _ _).alloc (Nat.le_refl _) _
  have F3 : TF wB (wC.setCell ⟨B, 1, none⟩ v2') := (TF.below bA).trans F2
  have F4 : TF w (wC.setCell ⟨B, 1, none⟩ v2') := F1.trans ((TF.below hB4).trans F3)
  refine ⟨v1', v2', y, h.snoc P2 F4 (own_tf hx F4) (own_tf (own_base hOy hb1) F3) hd, F4, ?_, ?_, ?_⟩
  · exact b1.bel.trans ((hB4.mono hb1).trans ((bA.mono (Nat.le_trans hb1 hB4.size)).trans b2.bel))
  · intro k hk hB h1 h2
    have s1 := b1.bel.size
    have s2 := hB4.size
    have s3 := bA.size
    rw [b2.fr k (by omega) hB h2, bA.block k (by omega), hB4.block k (by omega), b1.fr k hk hB h1]
  · intro k hk
    have s1 := b1.bel.size
    have s2 := hB4.size
    have s3 := bA.size
    rcases hk with e | e | e
    · rcases b1.nv with e2 | ⟨k2, e2, h2⟩
      · exact Or.inl (e2 ▸ e)
      · rw [e2] at e; cases e; exact Or.inr (Or.inr h2)
    · rcases b2.nv with e2 | ⟨k2, e2, h2⟩
      · exact Or.inr (Or.inl (e2 ▸ e))
      · rw [e2] at e; cases e; exact Or.inr (Or.inr (by omega))
    · have := (hOy.block k e).1
      exact Or.inr (Or.inr (by omega))
set_option maxRecDepth 100000 in
set_option maxHeartbeats 2000000 in
theorem keep_any (w : World) (base B : Nat) (v1 v2 : Value) (L1 L2 : List Value) (zs : List (List Int)) (h : KP w base B v1 v2 L1 L2 zs) (hN : zs.length ≤ 100000000) (ys : List Int) (sp : Option Addr) (cap : Nat) (hx : Own w base (.slice sp ys.length cap) ys) (hlen : ys.length ≤ 140737488355000)
    (hd : ∀ i, i < zs.length → DjB (L1.getD i undef) (.slice sp ys.length cap)) :
    Calls Try.prog 22 #[.pointer (some ⟨B, 0, none⟩), .slice sp ys.length cap] w fun e w' => e = .returned (.tuple #[]) ∧ ∃ v1' v2' y, KP w' base B v1' v2' (L1 ++ [.slice sp ys.length cap]) (L2 ++ [y]) (zs ++ [ys]) ∧ TF w w' ∧ Below base w w' ∧ UF B v1 v2 w w' ∧ NB w v1 v2 v1' v2' y := by
  have c1 := h.pk.c1
  have KL1 := hid (show L1.length + [Value.slice sp ys.length cap].length ≤ 1000000000000 by rw [h.l1]; simp; omega)
  have KL2 := hid (show L2.length + 1 ≤ 1000000000000 by rw [h.l2]; omega)
  have bW := Nat.le_trans h.pk.hb (Nat.le_of_lt (hlt h.pk.bk))
  go_enter Try.func22, Try.ntmps22
  go_wp2_with (first
    | (at_builtin; refine wpList_pushKp rfl (.tmp 8) (.tmp 10) rfl base v1 L1 [.slice sp ys.length cap] rfl h.pk.o1 rfl (fun y hy => by simp at hy; rw [hy]; rfl) KL1.out bW _ _ ?_; intro v1' wA q1 q2 q3 q4
       obtain ⟨s1, n1, k1, rfl⟩ := q1.sl
       obtain ⟨e1, P1, F1, b1⟩ := h.pk.push1 q1 q2 q3 q4
       have cA : wA.cell? ⟨B, 0, none⟩ = some v1 := by rw [cell_of_row _ _ _ _ _ _ e1]; rfl
       have fA : wA.frozen? ⟨B, 0, none⟩ = false := frozen_of_row _ _ _ _ _ e1))
  clear cA fA q1 q2 q3 q4 e1 c1
  generalize wA.setCell ⟨B, 0, none⟩ (.slice s1 n1 k1) = w1 at *
  have PD : PK w1.drew base B (.slice s1 n1 k1) v2 (L1 ++ [.slice sp ys.length cap]) L2 := ⟨P1.hb, P1.bk, P1.o1, P1.o2, P1.dj⟩
  clear P1
  have c2 := PD.c2
  have hx1 : Own w1.drew base (.slice sp ys.length cap) ys := own_tf hx F1
  obtain ⟨sp', cap', he, hS1, hnil⟩ := hx1.form
  cases he
  refine wp_region_noPanic ?_
  refine wp_region_any (by kernel_rfl) ?_
  show wpAny _ _ _ _ _ _ _ w1.drew
  refine wpAny_take (i := 0) (oi := { dst := some 14, op := Op.move (Operand.tmp 0), type := 65, pos := "keeper.go:13", after := #[], guard := none }) (v := .pointer (some ⟨B, 0, none⟩)) rfl (by kernel_rfl) (by kernel_rfl) (by kernel_rfl) (fun _ _ _ h => h) (Or.inl ⟨by rfl, by intro w; go_simp⟩) ?_
  try simp only [Act.put, List.setIfInBounds_toArray, List.set_cons_zero, List.set_cons_succ]
  refine wpAny_take (i := 1) (oi := { dst := some 15, op := Op.move (Operand.tmp 0), type := 65, pos := "keeper.go:13", after := #[], guard := none }) (v := .pointer (some ⟨B, 0, none⟩)) rfl (by kernel_rfl) (by kernel_rfl) (by kernel_rfl) (fun _ _ _ h => h) (Or.inl ⟨by rfl, by intro w; go_simp⟩) ?_
  try simp only [Act.put, List.setIfInBounds_toArray, List.set_cons_zero, List.set_cons_succ]
  refine wpAny_take (i := 2) (oi := { dst := some 16, op := Op.nilCheck (Operand.tmp 15), type := 0, pos := "keeper.go:13", after := #[{ on := 1, ground := Ground.data }], guard := none }) (v := .pointer (some ⟨B, 0, none⟩)) rfl (by kernel_rfl) (by kernel_rfl) (by kernel_rfl) (fun _ _ _ h => h) (Or.inl ⟨by rfl, by intro w; go_simp⟩) ?_
  try simp only [Act.put, List.setIfInBounds_toArray, List.set_cons_zero, List.set_cons_succ]
  refine wpAny_take (i := 3) (oi := { dst := some 17, op := Op.fieldAddr 67 (Operand.tmp 16) 1, type := 0, pos := "keeper.go:13", after := #[{ on := 2, ground := Ground.data }], guard := none }) (v := .pointer (some ⟨B, 1, none⟩)) rfl (by kernel_rfl) (by kernel_rfl) (by kernel_rfl) (fun _ _ _ h => h) (Or.inl ⟨by rfl, by intro w; go_simp⟩) ?_
  try simp only [Act.put, List.setIfInBounds_toArray, List.set_cons_zero, List.set_cons_succ]
  refine wpAny_take (i := 5) (oi := { dst := some 19, op := Op.move (Operand.tmp 1), type := 33, pos := "keeper.go:13", after := #[], guard := none }) (v := .slice sp ys.length cap) rfl (by kernel_rfl) (by kernel_rfl) (by kernel_rfl) (fun _ _ _ h => h) (Or.inl ⟨by rfl, by intro w; go_simp⟩) ?_
  try simp only [Act.put, List.setIfInBounds_toArray, List.set_cons_zero, List.set_cons_succ]
  refine wpAny_ready (rs := [4, 6]) (by kernel_rfl) (by simp) ?_
  refine (AllReady.cons (o := { dst := some 18, op := Op.load 29 (Operand.tmp 17), type := 29, pos := "keeper.go:13", after := #[{ on := 3, ground := Ground.data }], guard := none }) rfl (fun K hK => ?_) (AllReady.cons (o := { dst := some 20, op := Op.call { callee := Callee.value (Operand.func 23), args := #[Operand.tmp 19], argTypes := #[33] }, type := 33, pos := "keeper.go:13", after := #[{ on := 5, ground := Ground.data }], guard := none }) rfl (fun K hK => ?_) AllReady.nil))
  · skip
    go_simp
    refine hK _ _ ?_
    clear hK K
    try simp only [Act.put, List.setIfInBounds_toArray, List.set_cons_zero, List.set_cons_succ]
    refine wpAny_ready (rs := [6]) (by kernel_rfl) (by simp) ?_
    refine (AllReady.cons (o := { dst := some 20, op := Op.call { callee := Callee.value (Operand.func 23), args := #[Operand.tmp 19], argTypes := #[33] }, type := 33, pos := "keeper.go:13", after := #[{ on := 5, ground := Ground.data }], guard := none }) rfl (fun K hK => ?_) AllReady.nil)
    go_simp
    go_at_call 23
    refine (copyBytes_any _ ys sp cap hS1 hlen).mono ?_
    rintro e wB ⟨y, rfl, hOy, hB4⟩
    go_wp2_with fail
    have PB := PD.below hB4
    have cB := PB.c2
    obtain ⟨sp3, cap3, rfl, _, _⟩ := hOy.form
    try simp only [Act.put, List.setIfInBounds_toArray, List.set_cons_zero, List.set_cons_succ]
    refine wpAny_ready (rs := [7]) (by kernel_rfl) (by simp) ?_
    refine (AllReady.cons (o := { dst := some 21, op := Op.buildSlice 29 1 #[(0, Operand.tmp 20)], type := 29, pos := "keeper.go:13", after := #[{ on := 6, ground := Ground.data }], guard := none }) rfl (fun K hK => ?_) AllReady.nil)
    go_simp
    refine hK _ _ ?_
    clear hK K
    try simp only [Act.put, List.setIfInBounds_toArray, List.set_cons_zero, List.set_cons_succ]
    have PC := PB.below ((Below.refl _ wB).alloc (Nat.le_refl _) (.cells #[.slice sp3 ys.length cap3] 33))
    have cN : (wB.alloc (.cells #[.slice sp3 ys.length cap3] 33)).cell? ⟨wB.heap.size, 0, none⟩ = some (.slice sp3 ys.length cap3) := by rw [cell_of_row _ _ _ _ _ _ (hnew wB _)]; rfl
    have bE := Nat.le_trans PC.hb (Nat.le_of_lt (hlt PC.bk))
    refine wpAny_ready (rs := [8]) (by kernel_rfl) (by simp) ?_
    refine (AllReady.cons (o := { dst := some 22, op := Op.call { callee := Callee.builtin Builtin.append, args := #[Operand.tmp 18, Operand.tmp 21], argTypes := #[29, 29] }, type := 29, pos := "keeper.go:13", after := #[{ on := 4, ground := Ground.data }, { on := 7, ground := Ground.data }, { on := 6, ground := Ground.chain }], guard := none }) rfl (fun K hK => ?_) AllReady.nil)
    refine step_pushKp rfl (.tmp 18) (.tmp 21) rfl base v2 L2 _ rfl PC.o2 _ cN rfl rfl KL2.out bE ?_
    intro v2' wC q1 q2 q3 q4
    refine hK _ _ ?_
    clear hK K
    try simp only [Act.put, List.setIfInBounds_toArray, List.set_cons_zero, List.set_cons_succ]
    obtain ⟨s2, n2, k2, rfl⟩ := q1.sl
    obtain ⟨e2, P2, F2, b2⟩ := PC.push2 q1 q2 q3 q4
    have cC : wC.cell? ⟨B, 1, none⟩ = some v2 := by rw [cell_of_row _ _ _ _ _ _ e2]; rfl
    have fC : wC.frozen? ⟨B, 1, none⟩ = false := frozen_of_row _ _ _ _ _ e2
    refine wpAny_take (i := 9) (oi := { dst := some 23, op := Op.nilCheck (Operand.tmp 14), type := 0, pos := "keeper.go:13", after := #[{ on := 0, ground := Ground.data }, { on := 0, ground := Ground.phase }, { on := 1, ground := Ground.phase }, { on := 2, ground := Ground.phase }, { on := 3, ground := Ground.phase }, { on := 4, ground := Ground.phase }, { on := 5, ground := Ground.phase }, { on := 6, ground := Ground.phase }, { on := 7, ground := Ground.phase }, { on := 8, ground := Ground.phase }], guard := none }) (v := .pointer (some ⟨B, 0, none⟩)) rfl (by kernel_rfl) (by kernel_rfl) (by kernel_rfl) (fun _ _ _ h => h) (Or.inl ⟨by rfl, by intro w; go_simp⟩) ?_
    try simp only [Act.put, List.setIfInBounds_toArray, List.set_cons_zero, List.set_cons_succ]
    refine wpAny_take (i := 10) (oi := { dst := some 24, op := Op.fieldAddr 67 (Operand.tmp 23) 1, type := 0, pos := "keeper.go:13", after := #[{ on := 9, ground := Ground.data }, { on := 0, ground := Ground.phase }, { on := 1, ground := Ground.phase }, { on := 2, ground := Ground.phase }, { on := 3, ground := Ground.phase }, { on := 4, ground := Ground.phase }, { on := 5, ground := Ground.phase }, { on := 6, ground := Ground.phase }, { on := 7, ground := Ground.phase }, { on := 8, ground := Ground.phase }], guard := none }) (v := .pointer (some ⟨B, 1, none⟩)) rfl (by kernel_rfl) (by kernel_rfl) (by kernel_rfl) (fun _ _ _ h => h) (Or.inl ⟨by rfl, by intro w; go_simp⟩) ?_
    try simp only [Act.put, List.setIfInBounds_toArray, List.set_cons_zero, List.set_cons_succ]
    have HF := hid (fun (wz : World) (hz : wz = wC.setCell ⟨B, 1, none⟩ (.slice s2 n2 k2)) => keep_fin h hx hd PD F1 b1.drew hOy hB4 P2 F2 b2 hz)
    clear P2 F2 b2 PC q1 q2 q3 q4 e2
    refine wpAny_ready (rs := [11]) (by kernel_rfl) (by simp) ?_
    refine (AllReady.cons (o := { dst := none, op := Op.store 29 (Operand.tmp 24) (Operand.tmp 22), type := 0, pos := "keeper.go:13", after := #[{ on := 10, ground := Ground.data }, { on := 8, ground := Ground.data }, { on := 8, ground := Ground.chain }, { on := 0, ground := Ground.phase }, { on := 1, ground := Ground.phase }, { on := 2, ground := Ground.phase }, { on := 3, ground := Ground.phase }, { on := 4, ground := Ground.phase }, { on := 5, ground := Ground.phase }, { on := 6, ground := Ground.phase }, { on := 7, ground := Ground.phase }, { on := 8, ground := Ground.phase }], guard := none }) rfl (fun K hK => ?_) AllReady.nil)
    go_simp
    refine hK _ _ ?_
    clear hK K
    try simp only [Act.put, List.setIfInBounds_toArray, List.set_cons_zero, List.set_cons_succ]
    refine wpAny_done (by kernel_rfl) ?_ _
    refine NoPanic.normal ?_
    go_end0
    exact ⟨rfl, HF.out _ rfl⟩
  · skip
    go_simp
    go_at_call 23
    refine (copyBytes_any _ ys sp cap hS1 hlen).mono ?_
    rintro e wB ⟨y, rfl, hOy, hB4⟩
    go_wp2_with fail
    have PB := PD.below hB4
    have cB := PB.c2
    obtain ⟨sp3, cap3, rfl, _, _⟩ := hOy.form
    try simp only [Act.put, List.setIfInBounds_toArray, List.set_cons_zero, List.set_cons_succ]
    refine wpAny_ready (rs := [4, 7]) (by kernel_rfl) (by simp) ?_
    refine (AllReady.cons (o := { dst := some 18, op := Op.load 29 (Operand.tmp 17), type := 29, pos := "keeper.go:13", after := #[{ on := 3, ground := Ground.data }], guard := none }) rfl (fun K hK => ?_) (AllReady.cons (o := { dst := some 21, op := Op.buildSlice 29 1 #[(0, Operand.tmp 20)], type := 29, pos := "keeper.go:13", after := #[{ on := 6, ground := Ground.data }], guard := none }) rfl (fun K hK => ?_) AllReady.nil))
    · skip
      go_simp
      refine hK _ _ ?_
      clear hK K
      try simp only [Act.put, List.setIfInBounds_toArray, List.set_cons_zero, List.set_cons_succ]
      refine wpAny_ready (rs := [7]) (by kernel_rfl) (by simp) ?_
      refine (AllReady.cons (o := { dst := some 21, op := Op.buildSlice 29 1 #[(0, Operand.tmp 20)], type := 29, pos := "keeper.go:13", after := #[{ on := 6, ground := Ground.data }], guard := none }) rfl (fun K hK => ?_) AllReady.nil)
      go_simp
      refine hK _ _ ?_
      clear hK K
      try simp only [Act.put, List.setIfInBounds_toArray, List.set_cons_zero, List.set_cons_succ]
      have PC := PB.below ((Below.refl _ wB).alloc (Nat.le_refl _) (.cells #[.slice sp3 ys.length cap3] 33))
      have cN : (wB.alloc (.cells #[.slice sp3 ys.length cap3] 33)).cell? ⟨wB.heap.size, 0, none⟩ = some (.slice sp3 ys.length cap3) := by rw [cell_of_row _ _ _ _ _ _ (hnew wB _)]; rfl
      have bE := Nat.le_trans PC.hb (Nat.le_of_lt (hlt PC.bk))
      refine wpAny_ready (rs := [8]) (by kernel_rfl) (by simp) ?_
      refine (AllReady.cons (o := { dst := some 22, op := Op.call { callee := Callee.builtin Builtin.append, args := #[Operand.tmp 18, Operand.tmp 21], argTypes := #[29, 29] }, type := 29, pos := "keeper.go:13", after := #[{ on := 4, ground := Ground.data }, { on := 7, ground := Ground.data }, { on := 6, ground := Ground.chain }], guard := none }) rfl (fun K hK => ?_) AllReady.nil)
      refine step_pushKp rfl (.tmp 18) (.tmp 21) rfl base v2 L2 _ rfl PC.o2 _ cN rfl rfl KL2.out bE ?_
      intro v2' wC q1 q2 q3 q4
      refine hK _ _ ?_
      clear hK K
      try simp only [Act.put, List.setIfInBounds_toArray, List.set_cons_zero, List.set_cons_succ]
      obtain ⟨s2, n2, k2, rfl⟩ := q1.sl
      obtain ⟨e2, P2, F2, b2⟩ := PC.push2 q1 q2 q3 q4
      have cC : wC.cell? ⟨B, 1, none⟩ = some v2 := by rw [cell_of_row _ _ _ _ _ _ e2]; rfl
      have fC : wC.frozen? ⟨B, 1, none⟩ = false := frozen_of_row _ _ _ _ _ e2
      refine wpAny_take (i := 9) (oi := { dst := some 23, op := Op.nilCheck (Operand.tmp 14), type := 0, pos := "keeper.go:13", after := #[{ on := 0, ground := Ground.data }, { on := 0, ground := Ground.phase }, { on := 1, ground := Ground.phase }, { on := 2, ground := Ground.phase }, { on := 3, ground := Ground.phase }, { on := 4, ground := Ground.phase }, { on := 5, ground := Ground.phase }, { on := 6, ground := Ground.phase }, { on := 7, ground := Ground.phase }, { on := 8, ground := Ground.phase }], guard := none }) (v := .pointer (some ⟨B, 0, none⟩)) rfl (by kernel_rfl) (by kernel_rfl) (by kernel_rfl) (fun _ _ _ h => h) (Or.inl ⟨by rfl, by intro w; go_simp⟩) ?_
      try simp only [Act.put, List.setIfInBounds_toArray, List.set_cons_zero, List.set_cons_succ]
      refine wpAny_take (i := 10) (oi := { dst := some 24, op := Op.fieldAddr 67 (Operand.tmp 23) 1, type := 0, pos := "keeper.go:13", after := #[{ on := 9, ground := Ground.data }, { on := 0, ground := Ground.phase }, { on := 1, ground := Ground.phase }, { on := 2, ground := Ground.phase }, { on := 3, ground := Ground.phase }, { on := 4, ground := Ground.phase }, { on := 5, ground := Ground.phase }, { on := 6, ground := Ground.phase }, { on := 7, ground := Ground.phase }, { on := 8, ground := Ground.phase }], guard := none }) (v := .pointer (some ⟨B, 1, none⟩)) rfl (by kernel_rfl) (by kernel_rfl) (by kernel_rfl) (fun _ _ _ h => h) (Or.inl ⟨by rfl, by intro w; go_simp⟩) ?_
      try simp only [Act.put, List.setIfInBounds_toArray, List.set_cons_zero, List.set_cons_succ]
      have HF := hid (fun (wz : World) (hz : wz = wC.setCell ⟨B, 1, none⟩ (.slice s2 n2 k2)) => keep_fin h hx hd PD F1 b1.drew hOy hB4 P2 F2 b2 hz)
      clear P2 F2 b2 PC q1 q2 q3 q4 e2
      refine wpAny_ready (rs := [11]) (by kernel_rfl) (by simp) ?_
      refine (AllReady.cons (o := { dst := none, op := Op.store 29 (Operand.tmp 24) (Operand.tmp 22), type := 0, pos := "keeper.go:13", after := #[{ on := 10, ground := Ground.data }, { on := 8, ground := Ground.data }, { on := 8, ground := Ground.chain }, { on := 0, ground := Ground.phase }, { on := 1, ground := Ground.phase }, { on := 2, ground := Ground.phase }, { on := 3, ground := Ground.phase }, { on := 4, ground := Ground.phase }, { on := 5, ground := Ground.phase }, { on := 6, ground := Ground.phase }, { on := 7, ground := Ground.phase }, { on := 8, ground := Ground.phase }], guard := none }) rfl (fun K hK => ?_) AllReady.nil)
      go_simp
      refine hK _ _ ?_
      clear hK K
      try simp only [Act.put, List.setIfInBounds_toArray, List.set_cons_zero, List.set_cons_succ]
      refine wpAny_done (by kernel_rfl) ?_ _
      refine NoPanic.normal ?_
      go_end0
      exact ⟨rfl, HF.out _ rfl⟩
    · skip
      go_simp
      refine hK _ _ ?_
      clear hK K
      try simp only [Act.put, List.setIfInBounds_toArray, List.set_cons_zero, List.set_cons_succ]
      have cB2 := (PB.below ((Below.refl _ wB).alloc (Nat.le_refl _) (.cells #[.slice sp3 ys.length cap3] 33))).c2
      refine wpAny_ready (rs := [4]) (by kernel_rfl) (by simp) ?_
      refine (AllReady.cons (o := { dst := some 18, op := Op.load 29 (Operand.tmp 17), type := 29, pos := "keeper.go:13", after := #[{ on := 3, ground := Ground.data }], guard := none }) rfl (fun K hK => ?_) AllReady.nil)
      go_simp
      refine hK _ _ ?_
      clear hK K
      try simp only [Act.put, List.setIfInBounds_toArray, List.set_cons_zero, List.set_cons_succ]
      have PC := PB.below ((Below.refl _ wB).alloc (Nat.le_refl _) (.cells #[.slice sp3 ys.length cap3] 33))
      have cN : (wB.alloc (.cells #[.slice sp3 ys.length cap3] 33)).cell? ⟨wB.heap.size, 0, none⟩ = some (.slice sp3 ys.length cap3) := by rw [cell_of_row _ _ _ _ _ _ (hnew wB _)]; rfl
      have bE := Nat.le_trans PC.hb (Nat.le_of_lt (hlt PC.bk))
      refine wpAny_ready (rs := [8]) (by kernel_rfl) (by simp) ?_
      refine (AllReady.cons (o := { dst := some 22, op := Op.call { callee := Callee.builtin Builtin.append, args := #[Operand.tmp 18, Operand.tmp 21], argTypes := #[29, 29] }, type := 29, pos := "keeper.go:13", after := #[{ on := 4, ground := Ground.data }, { on := 7, ground := Ground.data }, { on := 6, ground := Ground.chain }], guard := none }) rfl (fun K hK => ?_) AllReady.nil)
      refine step_pushKp rfl (.tmp 18) (.tmp 21) rfl base v2 L2 _ rfl PC.o2 _ cN rfl rfl KL2.out bE ?_
      intro v2' wC q1 q2 q3 q4
      refine hK _ _ ?_
      clear hK K
      try simp only [Act.put, List.setIfInBounds_toArray, List.set_cons_zero, List.set_cons_succ]
      obtain ⟨s2, n2, k2, rfl⟩ := q1.sl
      obtain ⟨e2, P2, F2, b2⟩ := PC.push2 q1 q2 q3 q4
      have cC : wC.cell? ⟨B, 1, none⟩ = some v2 := by rw [cell_of_row _ _ _ _ _ _ e2]; rfl
      have fC : wC.frozen? ⟨B, 1, none⟩ = false := frozen_of_row _ _ _ _ _ e2
      refine wpAny_take (i := 9) (oi := { dst := some 23, op := Op.nilCheck (Operand.tmp 14), type := 0, pos := "keeper.go:13", after := #[{ on := 0, ground := Ground.data }, { on := 0, ground := Ground.phase }, { on := 1, ground := Ground.phase }, { on := 2, ground := Ground.phase }, { on := 3, ground := Ground.phase }, { on := 4, ground := Ground.phase }, { on := 5, ground := Ground.phase }, { on := 6, ground := Ground.phase }, { on := 7, ground := Ground.phase }, { on := 8, ground := Ground.phase }], guard := none }) (v := .pointer (some ⟨B, 0, none⟩)) rfl (by kernel_rfl) (by kernel_rfl) (by kernel_rfl) (fun _ _ _ h => h) (Or.inl ⟨by rfl, by intro w; go_simp⟩) ?_
      try simp only [Act.put, List.setIfInBounds_toArray, List.set_cons_zero, List.set_cons_succ]
      refine wpAny_take (i := 10) (oi := { dst := some 24, op := Op.fieldAddr 67 (Operand.tmp 23) 1, type := 0, pos := "keeper.go:13", after := #[{ on := 9, ground := Ground.data }, { on := 0, ground := Ground.phase }, { on := 1, ground := Ground.phase }, { on := 2, ground := Ground.phase }, { on := 3, ground := Ground.phase }, { on := 4, ground := Ground.phase }, { on := 5, ground := Ground.phase }, { on := 6, ground := Ground.phase }, { on := 7, ground := Ground.phase }, { on := 8, ground := Ground.phase }], guard := none }) (v := .pointer (some ⟨B, 1, none⟩)) rfl (by kernel_rfl) (by kernel_rfl) (by kernel_rfl) (fun _ _ _ h => h) (Or.inl ⟨by rfl, by intro w; go_simp⟩) ?_
      try simp only [Act.put, List.setIfInBounds_toArray, List.set_cons_zero, List.set_cons_succ]
      have HF := hid (fun (wz : World) (hz : wz = wC.setCell ⟨B, 1, none⟩ (.slice s2 n2 k2)) => keep_fin h hx hd PD F1 b1.drew hOy hB4 P2 F2 b2 hz)
      clear P2 F2 b2 PC q1 q2 q3 q4 e2
      refine wpAny_ready (rs := [11]) (by kernel_rfl) (by simp) ?_
      refine (AllReady.cons (o := { dst := none, op := Op.store 29 (Operand.tmp 24) (Operand.tmp 22), type := 0, pos := "keeper.go:13", after := #[{ on := 10, ground := Ground.data }, { on := 8, ground := Ground.data }, { on := 8, ground := Ground.chain }, { on := 0, ground := Ground.phase }, { on := 1, ground := Ground.phase }, { on := 2, ground := Ground.phase }, { on := 3, ground := Ground.phase }, { on := 4, ground := Ground.phase }, { on := 5, ground := Ground.phase }, { on := 6, ground := Ground.phase }, { on := 7, ground := Ground.phase }, { on := 8, ground := Ground.phase }], guard := none }) rfl (fun K hK => ?_) AllReady.nil)
      go_simp
      refine hK _ _ ?_
      clear hK K
      try simp only [Act.put, List.setIfInBounds_toArray, List.set_cons_zero, List.set_cons_succ]
      refine wpAny_done (by kernel_rfl) ?_ _
      refine NoPanic.normal ?_
      go_end0
      exact ⟨rfl, HF.out _ rfl⟩
end Go.Proofs.Ythhchbeaefcljaa
namespace Go.Proofs.Ythhchbeaefcljaa
set_option linter.unusedVariables false
set_option linter.unusedSimpArgs false
open Go.RowKit
attribute [local go_sem ↓] Go.wp_at_zero Go.wp_at_succ

theorem OwnK.el {w : World} {base : Nat} {v : Value} {vs : List Value} (h : OwnK w base v vs) (j : Nat) (hj : j < vs.length) : ∃ b cap, v = .slice (some ⟨b, 0, none⟩) vs.length cap ∧ vs.length ≤ cap ∧ b < w.heap.size ∧ base ≤ b ∧ v.ownBlock = some b ∧ w.cell? ⟨b, j, none⟩ = some (vs.getD j undef) := by
  obtain ⟨sp, cap, b, e, hc, _, hp, hcell⟩ := h.at
  obtain rfl := hp (by omega)
  have ho : v.ownBlock = some b := by rw [e]; rfl
  obtain ⟨q1, q2, _⟩ := h.heap b ho
  exact ⟨b, cap, e, hc, q2, q1, ho, hcell j hj⟩
set_option maxRecDepth 100000 in
set_option maxHeartbeats 1000000 in
theorem untouched_any (w : World) (base B : Nat) (v1 v2 : Value) (L1 L2 : List Value) (zs : List (List Int)) (h : KP w base B v1 v2 L1 L2 zs) (hN : zs.length ≤ 100000000) :
    Calls Try.prog 24 #[.pointer (some ⟨B, 0, none⟩)] w fun e w' => e = .returned (.bool true) ∧ Below w.heap.size w w' := by
  have hBl : B < w.heap.size := hlt h.pk.bk
  obtain ⟨N, hNe⟩ : ∃ N, N = zs.length := ⟨_, rfl⟩
  have i0 : (N : Int) ≤ 100000000 := by omega
  obtain ⟨s1, k1, b1x, hv1, _⟩ := h.pk.o1.at
  rw [h.l1, ← hNe] at hv1
  have C1 := hid h.pk.c1
  rw [hv1] at C1
  have HK := hid h
  have HN := hid hNe
  have HV := hid hv1
  clear h hv1 hN hNe
  go_enter Try.func24, Try.ntmps24
  go_wp2
  go_loopw [3] (fun i wr => ∃ n : Nat, n ≤ N ∧ i = .int .i64 n ∧ Below w.heap.size w wr) (fun i _ => N - (intOf i).toNat)
  case atStart => exact ⟨0, by omega, rfl, Below.refl _ _⟩
  case round =>
    obtain ⟨n, hn, rfl, hB⟩ := hrel
    have c1 := (hB.cell (p := ⟨B, 0, none⟩) hBl).trans C1.out
    by_cases hlt1 : n < N
    · have i1 : (n : Int) < (N : Int) := by omega
      have hnz : n < zs.length := by have := HN.out; omega
      obtain ⟨b1, k1', q1, _, l1, _, _, E1⟩ := HK.out.pk.o1.el n (by rw [HK.out.l1]; exact hnz)
      obtain ⟨b2, k2, q2, _, l2, _, _, E2⟩ := HK.out.pk.o2.el n (by rw [HK.out.l2]; exact hnz)
      have C2 := hid HK.out.pk.c2
      rw [HV.out, HK.out.l1, ← HN.out] at q1
      cases q1
      rw [q2, HK.out.l2, ← HN.out] at C2
      obtain ⟨sp3, c3, g3, S3, _⟩ := (HK.out.e1 n hnz).form
      obtain ⟨sp4, c4, g4, S4, _⟩ := (HK.out.e2 n hnz).form
      rw [g3] at E1
      rw [g4] at E2
      replace E1 := hid E1
      replace E2 := hid E2
      clear g3 g4 q2
      generalize zs.getD n [] = ys at *
      go_wp2
      refine wp_region_noPanic ?_
      refine wp_region_held_drew (S := fun w' => Below w.heap.size w w') (by kernel_rfl) hB.drew (fun hHeld => ?_)
      refine wpAnyH_take (i := 0) (oi := { dst := some 13, op := Op.move (Operand.tmp 0), type := 65, pos := "keeper.go:19", after := #[], guard := none }) (v := .pointer (some ⟨B, 0, none⟩)) rfl (by kernel_rfl) (by kernel_rfl) (by kernel_rfl) (fun _ _ _ h => h) (Or.inl ⟨by rfl, by intro w hS; go_simp⟩) hHeld ?_
      try simp only [Act.put, List.setIfInBounds_toArray, List.set_cons_zero, List.set_cons_succ]
      refine wpAnyH_take (i := 4) (oi := { dst := some 17, op := Op.move (Operand.tmp 3), type := 3, pos := "keeper.go:19", after := #[], guard := none }) (v := .int .i64 n) rfl (by kernel_rfl) (by kernel_rfl) (by kernel_rfl) (fun _ _ _ h => h) (Or.inl ⟨by rfl, by intro w hS; go_simp⟩) hHeld ?_
      try simp only [Act.put, List.setIfInBounds_toArray, List.set_cons_zero, List.set_cons_succ]
      refine wpAnyH_take (i := 7) (oi := { dst := some 20, op := Op.move (Operand.tmp 0), type := 65, pos := "keeper.go:19", after := #[], guard := none }) (v := .pointer (some ⟨B, 0, none⟩)) rfl (by kernel_rfl) (by kernel_rfl) (by kernel_rfl) (fun _ _ _ h => h) (Or.inl ⟨by rfl, by intro w hS; go_simp⟩) hHeld ?_
      try simp only [Act.put, List.setIfInBounds_toArray, List.set_cons_zero, List.set_cons_succ]
      refine wpAnyH_take (i := 11) (oi := { dst := some 24, op := Op.move (Operand.tmp 3), type := 3, pos := "keeper.go:19", after := #[], guard := none }) (v := .int .i64 n) rfl (by kernel_rfl) (by kernel_rfl) (by kernel_rfl) (fun _ _ _ h => h) (Or.inl ⟨by rfl, by intro w hS; go_simp⟩) hHeld ?_
      try simp only [Act.put, List.setIfInBounds_toArray, List.set_cons_zero, List.set_cons_succ]
      refine wpAnyH_take (i := 1) (oi := { dst := some 14, op := Op.nilCheck (Operand.tmp 13), type := 0, pos := "keeper.go:19", after := #[{ on := 0, ground := Ground.data }], guard := none }) (v := .pointer (some ⟨B, 0, none⟩)) rfl (by kernel_rfl) (by kernel_rfl) (by kernel_rfl) (fun _ _ _ h => h) (Or.inl ⟨by rfl, by intro w hS; go_simp⟩) hHeld ?_
      try simp only [Act.put, List.setIfInBounds_toArray, List.set_cons_zero, List.set_cons_succ]
      refine wpAnyH_take (i := 8) (oi := { dst := some 21, op := Op.nilCheck (Operand.tmp 20), type := 0, pos := "keeper.go:19", after := #[{ on := 7, ground := Ground.data }], guard := none }) (v := .pointer (some ⟨B, 0, none⟩)) rfl (by kernel_rfl) (by kernel_rfl) (by kernel_rfl) (fun _ _ _ h => h) (Or.inl ⟨by rfl, by intro w hS; go_simp⟩) hHeld ?_
      try simp only [Act.put, List.setIfInBounds_toArray, List.set_cons_zero, List.set_cons_succ]
      refine wpAnyH_take (i := 2) (oi := { dst := some 15, op := Op.fieldAddr 67 (Operand.tmp 14) 0, type := 0, pos := "keeper.go:19", after := #[{ on := 1, ground := Ground.data }], guard := none }) (v := .pointer (some ⟨B, 0, none⟩)) rfl (by kernel_rfl) (by kernel_rfl) (by kernel_rfl) (fun _ _ _ h => h) (Or.inl ⟨by rfl, by intro w hS; go_simp⟩) hHeld ?_
      try simp only [Act.put, List.setIfInBounds_toArray, List.set_cons_zero, List.set_cons_succ]
      refine wpAnyH_take (i := 9) (oi := { dst := some 22, op := Op.fieldAddr 67 (Operand.tmp 21) 1, type := 0, pos := "keeper.go:19", after := #[{ on := 8, ground := Ground.data }], guard := none }) (v := .pointer (some ⟨B, 1, none⟩)) rfl (by kernel_rfl) (by kernel_rfl) (by kernel_rfl) (fun _ _ _ h => h) (Or.inl ⟨by rfl, by intro w hS; go_simp⟩) hHeld ?_
      try simp only [Act.put, List.setIfInBounds_toArray, List.set_cons_zero, List.set_cons_succ]
      refine wpAnyH_take (i := 3) (oi := { dst := some 16, op := Op.load 29 (Operand.tmp 15), type := 29, pos := "keeper.go:19", after := #[{ on := 2, ground := Ground.data }], guard := none }) (v := .slice (some ⟨b1, 0, none⟩) N k1) rfl (by kernel_rfl) (by kernel_rfl) (by kernel_rfl) (fun _ _ _ h => h) (Or.inl ⟨by rfl, by intro w hS; have hc := hS.cell (p := ⟨B, 0, none⟩) hBl |>.trans C1.out; go_simp⟩) hHeld ?_
      try simp only [Act.put, List.setIfInBounds_toArray, List.set_cons_zero, List.set_cons_succ]
      refine wpAnyH_take (i := 10) (oi := { dst := some 23, op := Op.load 29 (Operand.tmp 22), type := 29, pos := "keeper.go:19", after := #[{ on := 9, ground := Ground.data }], guard := none }) (v := .slice (some ⟨b2, 0, none⟩) N k2) rfl (by kernel_rfl) (by kernel_rfl) (by kernel_rfl) (fun _ _ _ h => h) (Or.inl ⟨by rfl, by intro w hS; have hc := hS.cell (p := ⟨B, 1, none⟩) hBl |>.trans C2.out; go_simp⟩) hHeld ?_
      try simp only [Act.put, List.setIfInBounds_toArray, List.set_cons_zero, List.set_cons_succ]
      refine wpAnyH_take (i := 5) (oi := { dst := some 18, op := Op.indexAddr 29 (Operand.tmp 16) (Operand.tmp 17), type := 0, pos := "keeper.go:19", after := #[{ on := 3, ground := Ground.data }, { on := 4, ground := Ground.data }], guard := none }) (v := .pointer (some ⟨b1, 0 + n, none⟩)) rfl (by kernel_rfl) (by kernel_rfl) (by kernel_rfl) (fun _ _ _ h => h) (Or.inl ⟨by rfl, by intro w hS; go_simp⟩) hHeld ?_
      try simp only [Act.put, List.setIfInBounds_toArray, List.set_cons_zero, List.set_cons_succ]
      refine wpAnyH_take (i := 12) (oi := { dst := some 25, op := Op.indexAddr 29 (Operand.tmp 23) (Operand.tmp 24), type := 0, pos := "keeper.go:19", after := #[{ on := 10, ground := Ground.data }, { on := 11, ground := Ground.data }], guard := none }) (v := .pointer (some ⟨b2, 0 + n, none⟩)) rfl (by kernel_rfl) (by kernel_rfl) (by kernel_rfl) (fun _ _ _ h => h) (Or.inl ⟨by rfl, by intro w hS; go_simp⟩) hHeld ?_
      try simp only [Act.put, List.setIfInBounds_toArray, List.set_cons_zero, List.set_cons_succ]
      refine wpAnyH_take (i := 6) (oi := { dst := some 19, op := Op.load 33 (Operand.tmp 18), type := 33, pos := "keeper.go:19", after := #[{ on := 5, ground := Ground.data }], guard := none }) (v := .slice sp3 ys.length c3) rfl (by kernel_rfl) (by kernel_rfl) (by kernel_rfl) (fun _ _ _ h => h) (Or.inl ⟨by rfl, by intro w hS; have hc := hS.cell (p := ⟨b1, n, none⟩) l1 |>.trans E1.out; go_simp⟩) hHeld ?_
      try simp only [Act.put, List.setIfInBounds_toArray, List.set_cons_zero, List.set_cons_succ]
      refine wpAnyH_take (i := 13) (oi := { dst := some 26, op := Op.load 33 (Operand.tmp 25), type := 33, pos := "keeper.go:19", after := #[{ on := 12, ground := Ground.data }], guard := none }) (v := .slice sp4 ys.length c4) rfl (by kernel_rfl) (by kernel_rfl) (by kernel_rfl) (fun _ _ _ h => h) (Or.inl ⟨by rfl, by intro w hS; have hc := hS.cell (p := ⟨b2, n, none⟩) l2 |>.trans E2.out; go_simp⟩) hHeld ?_
      try simp only [Act.put, List.setIfInBounds_toArray, List.set_cons_zero, List.set_cons_succ]
      refine wpAnyH_ready (rs := [14]) (by kernel_rfl) (by simp) ?_
      refine (AllReadyH.cons (o := { dst := some 27, op := Op.call { callee := Callee.value (Operand.func 20), args := #[Operand.tmp 19, Operand.tmp 26], argTypes := #[33, 33] }, type := 4, pos := "keeper.go:19", after := #[{ on := 6, ground := Ground.data }, { on := 13, ground := Ground.data }], guard := none }) rfl (fun K hK => ?_) AllReadyH.nil)
      go_simp
      go_at_call 20
      refine (same_self _ ys sp3 sp4 c3 c4 (S3.below hHeld (Nat.le_refl _)) (S4.below hHeld (Nat.le_refl _))).mono ?_
      rintro e w4 ⟨rfl, hb4⟩
      go_wp2_with fail
      refine hK.out _ _ (hHeld.trans (hb4.mono hHeld.size)) (fun hHeld2 => ?_)
      clear hK K hHeld
      have hHeld := hHeld2
      clear hHeld2
      try simp only [Act.put, List.setIfInBounds_toArray, List.set_cons_zero, List.set_cons_succ]
      refine wpAnyH_take (i := 15) (oi := { dst := some 28, op := Op.unOp UnOp.not 4 (Operand.tmp 27), type := 4, pos := "keeper.go:19", after := #[{ on := 14, ground := Ground.data }], guard := none }) (v := .bool false) rfl (by kernel_rfl) (by kernel_rfl) (by kernel_rfl) (fun _ _ _ h => h) (Or.inl ⟨by rfl, by intro w hS; go_simp⟩) hHeld ?_
      try simp only [Act.put, List.setIfInBounds_toArray, List.set_cons_zero, List.set_cons_succ]
      refine wpAnyH_done (by kernel_rfl) ?_ _
      refine NoPanic.normal ?_
      have hf := hHeld
      clear hHeld
      go_wp2
      go_roundw
      case rel => exact ⟨n + 1, by omega, by go_num, hf⟩
      case measure => simp [intOf]; omega
    · obtain rfl : n = N := by omega
      clear hlt1
      go_wp2
      go_ret
      exact ⟨rfl, hB⟩
end Go.Proofs.Ythhchbeaefcljaa
namespace Go.Proofs.Ythhchbeaefcljaa
set_option linter.unusedVariables false
set_option linter.unusedSimpArgs false
open Go.RowKit
attribute [local go_sem ↓] Go.wp_at_zero Go.wp_at_succ

/-- The keeper's first list. -/
structure AP (w : World) (base B : Nat) (v1 v2 : Value) (L1 : List Value) (cs : List (List Int)) : Prop where
  hb : base ≤ B
  bk : w.heap[B]? = some (.cells #[v1, v2] 67 (0, 0))
  o1 : OwnK w base v1 L1
  l1 : L1.length = cs.length
  e1 : ∀ i, i < cs.length → Own w base (L1.getD i undef) (cs.getD i [])
  ap : ∀ i j, i < j → j < cs.length → DjB (L1.getD i undef) (L1.getD j undef)
theorem KP.ap' {w : World} {base B : Nat} {v1 v2 : Value} {L1 L2 : List Value} {zs : List (List Int)} (h : KP w base B v1 v2 L1 L2 zs) : AP w base B v1 v2 L1 zs := ⟨h.pk.hb, h.pk.bk, h.pk.o1, h.l1, h.e1, h.ap⟩
theorem AP.below {w w1 : World} {base B : Nat} {v1 v2 : Value} {L1 : List Value} {cs : List (List Int)} (h : AP w base B v1 v2 L1 cs) (hb : Below w.heap.size w w1) : AP w1 base B v1 v2 L1 cs :=
  ⟨h.hb, hbel hb h.bk (hlt h.bk), h.o1.of_heap fun k e => hb.block k (h.o1.heap k e).2.1, h.l1, fun i hi => (h.e1 i hi).below hb (Nat.le_refl _), h.ap⟩
theorem own_block5 {w : World} {base : Nat} {v : Value} {zs : List Int} (h : Own w base v zs) {k : Nat} (hk : v.ownBlock = some k) : base ≤ k ∧ ∃ cs, w.heap[k]? = some (.cells cs 5 (0, 0)) := by
  rcases h.2 with ⟨rfl, _⟩ | ⟨g, cap, cur, rfl, hg, hh, _⟩
  · simp [Value.ownBlock] at hk
  · simp [Value.ownBlock] at hk; subst hk; exact ⟨hg, cur, hh⟩
/-- A cell of a list written. -/
theorem own_set {w : World} {base : Nat} {v : Value} {zs : List Int} (h : Own w base v zs) (k : Nat) (hk : k < zs.length) : ∃ g cap cur, v = .slice (some ⟨g, 0, none⟩) zs.length cap ∧ base ≤ g ∧ w.heap[g]? = some (.cells cur 5 (0, 0)) ∧ w.cell? ⟨g, k, none⟩ = some (.int .u8 (zs.getD k 0)) ∧ ∀ x, Own (w.setCell ⟨g, k, none⟩ (.int .u8 x)) base v (zs.set k x) := by
  obtain ⟨h1, ⟨rfl, hn⟩ | ⟨g, cap, cur, rfl, hg, hh, hc, hm, hs, ht⟩⟩ := h
  · omega
  · have hcell : w.cell? ⟨g, k, none⟩ = some (.int .u8 (zs.getD k 0)) := by
      rw [cell_of_row _ _ _ _ _ _ hh]
      have hg2 := ints_get .u8 zs k hk
      rw [← ht, List.getElem?_take, if_pos (by omega)] at hg2
      simpa using hg2
    refine ⟨g, cap, cur, rfl, hg, hh, hcell, fun x => ⟨by rw [ints_len, List.length_set, Nat.mul_one], Or.inr ⟨g, cap, cur.setIfInBounds k (.int .u8 x), by rw [List.length_set], hg, ?_, by rw [List.length_set]; exact hc, hm, by rw [Array.size_setIfInBounds]; exact hs, ?_⟩⟩⟩
    · rw [heap_setCell_same _ _ _ _ _ _ hh]
    · rw [Array.toList_setIfInBounds, List.length_set, List.take_set, ht]
      simp [ints, List.map_set]
theorem AP.set {w : World} {base B : Nat} {v1 v2 : Value} {L1 : List Value} {cs : List (List Int)} (h : AP w base B v1 v2 L1 cs) (i : Nat) (hi : i < cs.length) (k : Nat) (hk : k < (cs.getD i []).length) :
    ∃ g cap cur, L1.getD i undef = .slice (some ⟨g, 0, none⟩) (cs.getD i []).length cap ∧ base ≤ g ∧ w.heap[g]? = some (.cells cur 5 (0, 0)) ∧ w.cell? ⟨g, k, none⟩ = some (.int .u8 ((cs.getD i []).getD k 0)) ∧ ∀ x, AP (w.setCell ⟨g, k, none⟩ (.int .u8 x)) base B v1 v2 L1 (cs.set i ((cs.getD i []).set k x)) := by
  obtain ⟨g, cap, cur, hv, hg, hh, hc, hset⟩ := own_set (h.e1 i hi) k hk
  refine ⟨g, cap, cur, hv, hg, hh, hc, fun x => ⟨h.hb, ?_, ?_, by simp [h.l1], fun j hj => ?_, fun a b hab hb => h.ap a b hab (by simpa using hb)⟩⟩
  · exact heap_set_far h.bk _ _ (ne_tyK h.bk hh (by decide))
  · exact h.o1.of_heap fun q e => by
      obtain ⟨_, _, c2, hq⟩ := h.o1.heap q e
      rw [hq]; exact heap_set_far hq _ _ (ne_tyK hq hh (by decide))
  · rw [List.length_set] at hj
    by_cases e : j = i
    · subst e
      rw [show (cs.set j ((cs.getD j []).set k x)).getD j [] = (cs.getD j []).set k x by simp [List.getD_eq_getElem?_getD, hj]]
      exact hset x
    · rw [show (cs.set i ((cs.getD i []).set k x)).getD j [] = cs.getD j [] by simp only [List.getD_eq_getElem?_getD]; rw [List.getElem?_set_ne (by omega)]]
      refine (h.e1 j hj).of_heap fun q eq => ?_
      obtain ⟨_, c2, hq⟩ := own_block5 (h.e1 j hj) eq
      have hne : q ≠ g := by
        rintro rfl
        have e2 : (L1.getD i undef).ownBlock = some q := by rw [hv]; rfl
        rcases Nat.lt_or_gt_of_ne e with h1 | h1
        · exact h.ap j i h1 hi q eq e2
        · exact h.ap i j h1 hj q e2 eq
      rw [hq]; exact heap_set_far hq _ _ hne
theorem AP.rws {w : World} {base B : Nat} {v1 v2 : Value} {L1 : List Value} {cs : List (List Int)} (h : AP w base B v1 v2 L1 cs) : ∃ sp cap, v1 = .slice sp cs.length cap ∧ Rws w sp cs := by
  obtain ⟨sp, cap, b, e, hc, _, hp, hcell⟩ := h.o1.at
  rw [h.l1] at e
  by_cases h0 : 0 < cs.length
  · obtain ⟨b2, _, e2, _, l2, _⟩ := h.o1.el 0 (by rw [h.l1]; exact h0)
    rw [e, h.l1] at e2
    have hsp := hp (by rw [h.l1]; exact h0)
    refine ⟨sp, cap, e, b, 0, ?_, fun _ => hsp, fun r hr => ?_⟩
    · cases e2; cases hsp; exact l2
    · obtain ⟨sp', c, e3, hS, hn⟩ := (h.e1 r hr).form
      refine ⟨sp', c, ?_, hn, hS⟩
      rw [Nat.zero_add, hcell r (by rw [h.l1]; exact hr), e3]
  · exact ⟨sp, cap, e, B, 0, hlt h.bk, fun h1 => absurd h1 h0, fun r hr => absurd (Nat.lt_of_le_of_lt (Nat.zero_le _) hr) h0⟩
end Go.Proofs.Ythhchbeaefcljaa
namespace Go.Proofs.Ythhchbeaefcljaa
set_option linter.unusedVariables false
set_option linter.unusedSimpArgs false
open Go.RowKit
attribute [local go_sem ↓] Go.wp_at_zero Go.wp_at_succ

/-- append(own, x): what was in the list's block up to its length stays there, moved or not. -/
theorem wpList_growK {w : World} {ops : Array Oper} {rest : List Oper} {o : Oper} {a : Act} {Q : Exit → Act → World → Prop} (hgd : o.guard = none) (s x : Operand)
    (ho : o.op = .call { callee := .builtin .append, args := #[s, x], argTypes := #[33, 33] })
    (base : Nat) (v : Value) (zs : List Int) (y : Int) (hs : a.eval s = v) (hown : Own w base v zs) (hx : a.eval x = .slice (some ⟨w.heap.size, 0, none⟩) 1 1)
    (hlen : zs.length + 1 ≤ 140737488355328) (hbase : base ≤ w.heap.size) (t : TypeId) (fr : Nat × Nat)
    (h : ∀ v' w', Own w' base v' (zs ++ [y]) → Below base w w' → (∀ k, k < w.heap.size → v.ownBlock ≠ some k → w'.heap[k]? = w.heap[k]?) → (v'.ownBlock = v.ownBlock ∨ ∃ k, v'.ownBlock = some k ∧ w.heap.size ≤ k) →
      (∀ g j, v.ownBlock = some g → j < zs.length → w'.cell? ⟨g, j, none⟩ = some (.int .u8 (zs.getD j 0))) → (∀ g, v.ownBlock = some g → ∃ cur, w'.heap[g]? = some (.cells cur 5 (0, 0))) → wpList Try.prog ops Q rest (a.put o.dst v') w') :
    wpList Try.prog ops Q (o :: rest) a (w.alloc (.cells #[.int .u8 y] t fr)) := by
  obtain ⟨i5, hi5, hz5, hs5, hy5⟩ := Try.info5
  have bA : Below w.heap.size w (w.alloc (.cells #[.int .u8 y] t fr)) := (Below.refl _ _).alloc (Nat.le_refl _) _
  have hownA := own_pushes hown (.cells #[.int .u8 y] t fr)
  have hN : ∀ j u, (ints .u8 [y])[j]? = some u → (w.alloc (.cells #[.int .u8 y] t fr)).cell? ((⟨w.heap.size, 0, none⟩ : Addr).add j) = some u := fun j u hu => by
    have hj : j = 0 := by
      have := (List.getElem?_eq_some_iff.1 hu).1
      simp [ints] at this; exact this
    subst hj
    rw [show (⟨w.heap.size, 0, none⟩ : Addr).add 0 = ⟨w.heap.size, 0, none⟩ from rfl, cell_of_row _ _ _ _ _ _ (hnew w _)]
    simpa [ints] using hu
  have grow : ∀ (ao : Option Addr) (cap : Nat), v = .slice ao zs.length cap → (ao = none → zs.length = 0 ∧ cap = 0) → (∀ b, ao = some b → ∃ g, b = ⟨g, 0, none⟩ ∧ ∀ j, j < zs.length → w.cell? ⟨g, j, none⟩ = some (.int .u8 (zs.getD j 0))) → cap < zs.length + 1 → wpList Try.prog ops Q (o :: rest) a (w.alloc (.cells #[.int .u8 y] t fr)) := by
    intro ao cap hv hnone hold0 hfull
    refine wpList_append_grows _ hgd s x 33 ho 5 i5 (.int .u8 0) 1 1 Try.underlying33 hi5 hz5 hs5 hy5 rfl Nat.one_pos ao zs.length cap (ints .u8 zs) (hs.trans hv) hnone (by rw [ints_len]; omega) ?_ ⟨w.heap.size, 0, none⟩ 1 1 (ints .u8 [y]) hx rfl hN (ints_one _ _) hfull (by unfold maxLen; omega) (by omega) ?_
    · intro b hb j u hu
      obtain ⟨g, rfl, hc⟩ := hold0 b hb
      have hj : j < zs.length := by have := (List.getElem?_eq_some_iff.1 hu).1; rwa [ints_len] at this
      rw [ints_get .u8 zs j hj] at hu
      have hg : g < w.heap.size := by
        have := hown.block g (by rw [hv, hb]; rfl)
        exact this.2
      rw [Addr.add_mid, Nat.zero_add, bA.cell (p := ⟨g, j, none⟩) hg, hc j hj]; exact hu
    · intro v' w' q1 q2
      have bB : Below w.heap.size w w' := bA.trans (grown_keeps q2 (fun k hk => by cases hk) (by simp))
      have q3 : Own w' (w.alloc (.cells #[.int .u8 y] t fr)).heap.size v' (zs ++ [y]) := Own.mk_append (xs := zs) (ys := [y]) q1
      refine h v' w' (own_base q3 (by simp; omega)) (bB.mono hbase) (fun k hk _ => bB.block k hk) ?_ ?_ (fun g hg => by obtain ⟨_, c2, h2⟩ := own_block5 hown hg; exact ⟨c2, hbel bB h2 (hlt h2)⟩)
      · rcases q3.2 with ⟨_, hn⟩ | ⟨g', cap', cur, e1, e2, _⟩
        · simp at hn
        · refine Or.inr ⟨g', by rw [e1]; rfl, by simp at e2; omega⟩
      · intro g j hg hj
        have hgl := (hown.block g hg).2
        rw [bB.cell (p := ⟨g, j, none⟩) hgl]
        rw [hv] at hg
        cases ao with
        | none => simp [Value.ownBlock] at hg
        | some b =>
          obtain ⟨g2, rfl, hc⟩ := hold0 b rfl
          simp [Value.ownBlock] at hg; subst hg
          exact hc j hj
  have hown0 := hown
  obtain ⟨h1, ⟨hv, hn⟩ | ⟨g, cap, cur, hv, hg, hh, hc, hm, hsz, ht⟩⟩ := hown0
  · exact grow none 0 (by rw [hv, hn]) (fun _ => ⟨hn, rfl⟩) (fun b hb => by cases hb) (by omega)
  · have hcell : ∀ (w9 : World) (c9 : Array Value) (_ : w9.heap[g]? = some (.cells c9 5 (0, 0))) (xs : List Int) (_ : c9.toList.take (xs.length * 1) = ints .u8 xs) (j : Nat) (_ : j < xs.length), w9.cell? ⟨g, j, none⟩ = some (.int .u8 (xs.getD j 0)) := fun w9 c9 h9 xs t9 j hj => by
      rw [cell_of_row _ _ _ _ _ _ h9]
      have hg2 := ints_get .u8 xs j hj
      rw [← t9, List.getElem?_take, if_pos (by omega)] at hg2
      simpa using hg2
    by_cases hr : zs.length + 1 ≤ cap
    · subst hv
      refine wpList_append_own_spare _ hgd s x 33 ho base 5 i5 1 Try.underlying33 hi5 hs5 g zs.length cap (ints .u8 zs) hs hownA ⟨w.heap.size, 0, none⟩ 1 1 (ints .u8 [y]) hx rfl hN (ints_one _ _) hr ?_
      intro w' q1 q2
      have q3 : Own w' base (.slice (some ⟨g, 0, none⟩) (zs.length + 1) cap) (zs ++ [y]) := Own.mk_append (xs := zs) (ys := [y]) q1
      refine h _ w' q3 ((bA.mono hbase).trans (grown_keeps q2 (fun k hk => by cases hk; exact hg) (by simp; omega))) (fun k hk hne => ?_) (Or.inl rfl) (fun g2 j e hj => ?_) (fun g2 e => (own_block5 q3 e).2)
      · rw [q2.block k (by simp; omega) (fun e => hne (show some g = some k from e.symm ▸ rfl))]
        exact bA.block k hk
      · simp [Value.ownBlock] at e; subst e
        obtain ⟨_, ⟨e1, _⟩ | ⟨g3, cap3, cur3, e1, _, h3, _, _, _, t3⟩⟩ := q3
        · cases e1
        · have e4 : g3 = g := by simp only [Value.slice.injEq, Option.some.injEq, Addr.mk.injEq] at e1; exact e1.1.1.symm
          subst e4
          have := hcell w' cur3 h3 (zs ++ [y]) t3 j (by simp; omega)
          rw [this, List.getD_eq_getElem?_getD, List.getD_eq_getElem?_getD, List.getElem?_append_left hj]
    · exact grow (some ⟨g, 0, none⟩) cap hv (fun e => by cases e) (fun b hb => by cases hb; exact ⟨g, rfl, fun j hj => hcell w cur hh zs ht j hj⟩) (by omega)
end Go.Proofs.Ythhchbeaefcljaa
namespace Go.Proofs.Ythhchbeaefcljaa
set_option linter.unusedVariables false
set_option linter.unusedSimpArgs false
open Go.RowKit
attribute [local go_sem ↓] Go.wp_at_zero Go.wp_at_succ

/-- The lists with their marks, those below i grown by three hundred. -/
structure GR (w : World) (base B : Nat) (v1 v2 gv : Value) (L1 G : List Value) (cs : List (List Int)) (i : Nat) : Prop where
  hb : base ≤ B
  bk : w.heap[B]? = some (.cells #[v1, v2] 67 (0, 0))
  o1 : OwnK w base v1 L1
  og : OwnK w base gv G
  dj : DjB v1 gv
  l1 : L1.length = cs.length
  lg : G.length = i
  sr : ∀ r, r < cs.length → ∃ sp cap, L1.getD r undef = .slice sp (cs.getD r []).length cap ∧ (sp = none → cap = 0) ∧ Src w sp cap (cs.getD r []) ∧ ∀ g, (L1.getD r undef).ownBlock = some g → ∃ cur, w.heap[g]? = some (.cells cur 5 (0, 0))
  e1 : ∀ r, i ≤ r → r < cs.length → Own w base (L1.getD r undef) (cs.getD r [])
  eg : ∀ j, j < i → Own w base (G.getD j undef) (mksK j ((cs.getD j []).length + 300))
  ap : ∀ a b, a < b → b < cs.length → DjB (L1.getD a undef) (L1.getD b undef)
  ag : ∀ j r, j < i → i ≤ r → r < cs.length → DjB (G.getD j undef) (L1.getD r undef)
theorem AP.gr {w : World} {base B : Nat} {v1 v2 : Value} {L1 : List Value} {cs : List (List Int)} (h : AP w base B v1 v2 L1 cs) : GR w base B v1 v2 (.slice none 0 0) L1 [] cs 0 :=
  ⟨h.hb, h.bk, h.o1, OwnK.nil _ _, (DjB.nil _).symm, h.l1, rfl, fun r hr => by obtain ⟨sp, cap, e, hS, hn⟩ := (h.e1 r hr).form; exact ⟨sp, cap, e, hn, hS, fun g hg => (own_block5 (h.e1 r hr) hg).2⟩, fun r _ hr => h.e1 r hr, fun j hj => by omega, h.ap, fun j r hj => by omega⟩
/-- List i while it grows. -/
structure GI (w0 w : World) (base : Nat) (u v : Value) (i n t : Nat) : Prop where
  ow : Own w base v (mksK i (n + t))
  be : Below base w0 w
  fr : ∀ k, k < w0.heap.size → u.ownBlock ≠ some k → w.heap[k]? = w0.heap[k]?
  bl : v.ownBlock = u.ownBlock ∨ ∃ k, v.ownBlock = some k ∧ w0.heap.size ≤ k
  sr : ∀ g j, u.ownBlock = some g → j < n → w.cell? ⟨g, j, none⟩ = some (.int .u8 (mkK i j))
  ty : ∀ g, u.ownBlock = some g → ∃ cur, w.heap[g]? = some (.cells cur 5 (0, 0))
theorem GI.start {w : World} {base : Nat} {u : Value} {i n : Nat} (h : Own w base u (mksK i n)) : GI w w base u u i n 0 := by
  refine ⟨h, Below.refl _ _, fun _ _ _ => rfl, Or.inl rfl, fun g j hg hj => ?_, fun g hg => (own_block5 h hg).2⟩
  obtain ⟨g2, cap, cur, e, _, _, hc, _⟩ := own_set h j (by rw [mksK_len]; exact hj)
  rw [e] at hg; simp [Value.ownBlock] at hg; subst hg
  rw [hc, mksK_get _ _ _ hj]
theorem GI.step {w0 w w' : World} {base : Nat} {u v v' : Value} {i n t : Nat} (h : GI w0 w base u v i n t) (hu : ∀ k, u.ownBlock = some k → k < w0.heap.size) (hO : Own w' base v' (mksK i (n + t) ++ [mkK i (n + t)])) (hB : Below base w w')
    (q3 : ∀ k, k < w.heap.size → v.ownBlock ≠ some k → w'.heap[k]? = w.heap[k]?) (q4 : v'.ownBlock = v.ownBlock ∨ ∃ k, v'.ownBlock = some k ∧ w.heap.size ≤ k)
    (q5 : ∀ g j, v.ownBlock = some g → j < (mksK i (n + t)).length → w'.cell? ⟨g, j, none⟩ = some (.int .u8 ((mksK i (n + t)).getD j 0))) (q6 : ∀ g, v.ownBlock = some g → ∃ cur, w'.heap[g]? = some (.cells cur 5 (0, 0))) : GI w0 w' base u v' i n (t + 1) := by
  have hsz := h.be.size
  have hne : ∀ k, k < w0.heap.size → u.ownBlock ≠ some k → v.ownBlock ≠ some k := fun k hk hn e => by
    rcases h.bl with e2 | ⟨k2, e2, h2⟩
    · exact hn (e2 ▸ e)
    · rw [e2] at e; cases e; omega
  refine ⟨by rw [← Nat.add_assoc, mksK_succ]; exact hO, h.be.trans hB, fun k hk hn => (q3 k (by omega) (hne k hk hn)).trans (h.fr k hk hn), ?_, fun g j hg hj => ?_, fun g hg => ?_⟩
  · rcases q4 with e | ⟨k, e, hk⟩
    · rw [e]; exact h.bl
    · exact Or.inr ⟨k, e, by omega⟩
  · by_cases e : v.ownBlock = some g
    · rw [q5 g j e (by rw [mksK_len]; omega), mksK_get _ _ _ (by omega)]
    · have hg0 := hu g hg
      rw [← h.sr g j hg hj]
      have := q3 g (by omega) e
      simp only [World.cell?, this]
  · by_cases e : v.ownBlock = some g
    · exact q6 g e
    · obtain ⟨cur, hc⟩ := h.ty g hg
      exact ⟨cur, by rw [q3 g (hlt hc) e]; exact hc⟩
/-- List i has grown, and stands behind the grown ones. -/
theorem GR.next {w w2 w3 : World} {base B : Nat} {v1 v2 gv gv' v : Value} {L1 G : List Value} {cs : List (List Int)} {i : Nat} (h : GR w base B v1 v2 gv L1 G cs i) (hi : i < cs.length) (hm : cs.getD i [] = mksK i (cs.getD i []).length)
    (hI : GI w w2 base (L1.getD i undef) v i (cs.getD i []).length 300) (q1 : OwnK w3 base gv' (G ++ [v])) (q3 : ∀ k, k < w2.heap.size → gv.ownBlock ≠ some k → w3.heap[k]? = w2.heap[k]?)
    (q4 : gv'.ownBlock = gv.ownBlock ∨ ∃ k, gv'.ownBlock = some k ∧ w2.heap.size ≤ k) : GR w3 base B v1 v2 gv' L1 (G ++ [v]) cs (i + 1) := by
  have hsz := hI.be.size
  have hgT : ∀ k cur, w2.heap[k]? = some (.cells cur 5 (0, 0)) → gv.ownBlock ≠ some k := fun k cur hk e => by
    obtain ⟨_, hl, c2, h2⟩ := h.og.heap k e
    have hu : (L1.getD i undef).ownBlock ≠ some k := fun e2 => by
      obtain ⟨_, c3, h3⟩ := own_block5 (h.e1 i (Nat.le_refl _) hi) e2
      exact ne_tyK h2 h3 (by decide) rfl
    have := (hI.fr k hl hu).trans h2
    exact ne_tyK hk this (by decide) rfl
  have F : ∀ k, k < w.heap.size → (L1.getD i undef).ownBlock ≠ some k → gv.ownBlock ≠ some k → w3.heap[k]? = w.heap[k]? := fun k hk a b => (q3 k (by omega) b).trans (hI.fr k hk a)
  have uT : ∀ k cur t, w.heap[k]? = some (.cells cur t (0, 0)) → t ≠ 5 → (L1.getD i undef).ownBlock ≠ some k := fun k cur t hk ht e => by
    obtain ⟨_, c3, h3⟩ := own_block5 (h.e1 i (Nat.le_refl _) hi) e
    exact ne_tyK hk h3 ht rfl
  have F5 : ∀ k cur, w.heap[k]? = some (.cells cur 5 (0, 0)) → (L1.getD i undef).ownBlock ≠ some k → w3.heap[k]? = w.heap[k]? := fun k cur hk a => F k (hlt hk) a fun e => by
    obtain ⟨_, _, c2, h2⟩ := h.og.heap k e
    exact ne_tyK hk h2 (by decide) rfl
  have G5 : ∀ (k : Nat) (cur : Array Value), w2.heap[k]? = some (Obj.cells cur 5 (0, 0)) → w3.heap[k]? = some (Obj.cells cur 5 (0, 0)) := fun k cur hk => (q3 k (hlt hk) (hgT k cur hk)).trans hk
  have apn : ∀ r, r < cs.length → r ≠ i → DjB (L1.getD r undef) (L1.getD i undef) := fun r hr hne => by
    rcases Nat.lt_or_gt_of_ne hne with h1 | h1
    · exact h.ap r i h1 hi
    · exact (h.ap i r h1 hr).symm
  refine ⟨h.hb, ?_, ?_, q1, ?_, h.l1, by simp [h.lg], fun r hr => ?_, fun r hr1 hr => ?_, fun j hj => ?_, h.ap, fun j r hj hr1 hr => ?_⟩
  · rw [F B (hlt h.bk) (uT _ _ _ h.bk (by decide)) (ownK_ne h.og h.bk)]; exact h.bk
  · exact h.o1.of_heap fun k e => by
      obtain ⟨_, hl, c2, h2⟩ := h.o1.heap k e
      exact F k hl (uT _ _ _ h2 (by decide)) (fun e2 => h.dj k e e2)
  · intro k e1 e2
    obtain ⟨_, hl, _⟩ := h.o1.heap k e1
    rcases q4 with e | ⟨k2, e, hk⟩
    · exact h.dj k e1 (e ▸ e2)
    · rw [e] at e2; cases e2; omega
  · obtain ⟨sp, cap, e, hn, hS, hT⟩ := h.sr r hr
    by_cases hri : r = i
    · subst hri
      refine ⟨sp, cap, e, hn, ?_, fun g hg => by obtain ⟨cur, hc⟩ := hI.ty g hg; exact ⟨cur, G5 g cur hc⟩⟩
      obtain ⟨s1, s2, b, o, s3, s4, s5⟩ := hS
      by_cases h0 : 0 < (cs.getD r []).length
      · have hO := h.e1 r (Nat.le_refl _) hr
        obtain ⟨g, cap2, cur, e2, _, _, _, _⟩ := own_set hO 0 h0
        rw [e] at e2
        have hsp := s4 h0
        rw [hsp] at e2
        simp only [Value.slice.injEq, Option.some.injEq, Addr.mk.injEq] at e2
        obtain ⟨⟨rfl, rfl, _⟩, _, _⟩ := e2
        have hob : (L1.getD r undef).ownBlock = some b := by rw [e, hsp]; rfl
        obtain ⟨cur, hc⟩ := hI.ty b hob
        have hc3 := G5 b cur hc
        refine ⟨s1, s2, b, 0, fun _ => hlt hc3, fun _ => hsp, fun j hj => ?_⟩
        have := hI.sr b j hob hj
        rw [Nat.zero_add, show (cs.getD r []).getD j 0 = mkK r j by (have e9 := mksK_get r _ j hj; rw [← hm] at e9; exact e9), ← this]
        simp only [World.cell?, hc3, hc]
      · have hz : cs.getD r [] = [] := List.eq_nil_of_length_eq_zero (by omega)
        rw [hz]; exact Src.empty _ _ _ s2
    · have hd := apn r hr hri
      refine ⟨sp, cap, e, hn, ?_, fun g hg => by obtain ⟨cur, hc⟩ := hT g hg; exact ⟨cur, by rw [F5 g cur hc (fun e2 => hd g hg e2)]; exact hc⟩⟩
      obtain ⟨s1, s2, b, o, s3, s4, s5⟩ := hS
      by_cases h0 : 0 < (cs.getD r []).length
      · have hob : (L1.getD r undef).ownBlock = some b := by rw [e, s4 h0]; rfl
        obtain ⟨cur, hc⟩ := hT b hob
        have hc3 := F5 b cur hc (fun e2 => hd b hob e2)
        refine ⟨s1, s2, b, o, fun _ => hlt (hc3.trans hc), s4, fun j hj => ?_⟩
        rw [← s5 j hj]
        simp only [World.cell?, hc3]
      · have hz : cs.getD r [] = [] := List.eq_nil_of_length_eq_zero (by omega)
        rw [hz]; exact Src.empty _ _ _ s2
  · have hO := h.e1 r (by omega) hr
    exact hO.of_heap fun k e => by
      obtain ⟨_, cur, hc⟩ := own_block5 hO e
      exact F5 k cur hc (fun e2 => apn r hr (by omega) k e e2)
  · rw [getD_snocK, h.lg]
    by_cases e : j = i
    · rw [if_pos e]; subst e
      exact hI.ow.of_heap fun k e => by
        obtain ⟨_, cur, hc⟩ := own_block5 hI.ow e
        rw [G5 k cur hc, hc]
    · rw [if_neg e]
      have hO := h.eg j (by omega)
      exact hO.of_heap fun k e2 => by
        obtain ⟨_, cur, hc⟩ := own_block5 hO e2
        exact F5 k cur hc (fun e3 => h.ag j i (by omega) (Nat.le_refl _) hi k e2 e3)
  · rw [getD_snocK, h.lg]
    by_cases e : j = i
    · rw [if_pos e]
      intro k e1 e2
      have hO := h.e1 r (by omega) hr
      rcases hI.bl with e3 | ⟨k2, e3, hk⟩
      · exact apn r hr (by omega) k e2 (e3 ▸ e1)
      · rw [e3] at e1; cases e1
        obtain ⟨_, cur, hc⟩ := own_block5 hO e2
        have := hlt hc; omega
    · rw [if_neg e]; exact h.ag j r (by omega) (by omega) hr
end Go.Proofs.Ythhchbeaefcljaa
namespace Go.Proofs.Ythhchbeaefcljaa
set_option linter.unusedVariables false
set_option linter.unusedSimpArgs false
open Go.RowKit
attribute [local go_sem ↓] Go.wp_at_zero Go.wp_at_succ

theorem OwnK.row {w : World} {base : Nat} {v : Value} {vs : List Value} (h : OwnK w base v vs) (j : Nat) (hj : j < vs.length) : ∃ b cap cur, v = .slice (some ⟨b, 0, none⟩) vs.length cap ∧ w.heap[b]? = some (.cells cur 33 (0, 0)) ∧ cur[j]? = some (vs.getD j undef) := by
  obtain ⟨h1, ⟨rfl, hn⟩ | ⟨g, cap, cur, rfl, hg, hh, hc, hm, hs, ht⟩⟩ := h
  · omega
  · refine ⟨g, cap, cur, rfl, hh, ?_⟩
    have e : vs[j]? = cur.toList[j]? := by rw [← ht, List.getElem?_take, if_pos (by omega)]
    rw [List.getD_eq_getElem?_getD, e]
    have hj2 : j < cur.toList.length := by simp; omega
    rw [List.getElem?_eq_getElem hj2]
    simp
def Mk (zs cs : List (List Int)) (n k : Nat) : Prop := cs.length = zs.length ∧ (∀ r, (cs.getD r []).length = (zs.getD r []).length) ∧ (∀ r, r < n → r < zs.length → cs.getD r [] = mksK r (zs.getD r []).length) ∧ ∀ j, j < k → (cs.getD n []).getD j 0 = mkK n j
theorem Mk.set {zs cs : List (List Int)} {n k : Nat} (h : Mk zs cs n k) (hn : n < zs.length) (hk : k < (zs.getD n []).length) : Mk zs (cs.set n ((cs.getD n []).set k (mkK n k))) n (k + 1) := by
  have hnc : n < cs.length := by rw [h.1]; exact hn
  have e0 : (cs.set n ((cs.getD n []).set k (mkK n k))).getD n [] = (cs.getD n []).set k (mkK n k) := by simp [List.getD_eq_getElem?_getD, hnc]
  have e1 : ∀ r, r ≠ n → (cs.set n ((cs.getD n []).set k (mkK n k))).getD r [] = cs.getD r [] := fun r hr => by simp only [List.getD_eq_getElem?_getD]; rw [List.getElem?_set_ne (by omega)]
  refine ⟨by simp [h.1], fun r => ?_, fun r h1 h2 => ?_, fun j hj => ?_⟩
  · by_cases e : r = n
    · subst e; rw [e0, List.length_set]; exact h.2.1 r
    · rw [e1 r e]; exact h.2.1 r
  · rw [e1 r (by omega)]; exact h.2.2.1 r h1 h2
  · rw [e0]
    have hl : k < (cs.getD n []).length := by rw [h.2.1]; exact hk
    have h4 := h.2.2.2
    generalize cs.getD n [] = c at *
    by_cases e : j = k
    · subst e; simp only [List.getD_eq_getElem?_getD]; rw [List.getElem?_set_self (by omega)]; rfl
    · have := h4 j (by omega)
      simp only [List.getD_eq_getElem?_getD] at this ⊢
      rw [List.getElem?_set_ne (by omega)]; exact this
theorem Mk.next {zs cs : List (List Int)} {n : Nat} (h : Mk zs cs n (zs.getD n []).length) : Mk zs cs (n + 1) 0 := by
  refine ⟨h.1, h.2.1, fun r h1 h2 => ?_, fun j hj => by omega⟩
  by_cases e : r = n
  · subst e
    refine cmpK_all (by rw [h.2.1, mksK_len]) fun j hj => ?_
    rw [h.2.1] at hj
    rw [h.2.2.2 j hj, mksK_get _ _ _ hj]
  · exact h.2.2.1 r (by omega) h2
theorem AP.drew {w : World} {base B : Nat} {v1 v2 : Value} {L1 : List Value} {cs : List (List Int)} (h : AP w base B v1 v2 L1 cs) : AP w.drew base B v1 v2 L1 cs := ⟨h.hb, h.bk, h.o1, h.l1, h.e1, h.ap⟩
theorem GR.below {w w1 : World} {base B : Nat} {v1 v2 gv : Value} {L1 G : List Value} {cs : List (List Int)} {i : Nat} (h : GR w base B v1 v2 gv L1 G cs i) (hb : Below w.heap.size w w1) : GR w1 base B v1 v2 gv L1 G cs i :=
  ⟨h.hb, hbel hb h.bk (hlt h.bk), h.o1.of_heap fun k e => hb.block k (h.o1.heap k e).2.1, h.og.of_heap fun k e => hb.block k (h.og.heap k e).2.1, h.dj, h.l1, h.lg,
   fun r hr => by obtain ⟨sp, cap, e, hn, hS, hT⟩ := h.sr r hr; exact ⟨sp, cap, e, hn, hS.below hb (Nat.le_refl _), fun g hg => by obtain ⟨c, hc⟩ := hT g hg; exact ⟨c, hbel hb hc (hlt hc)⟩⟩,
   fun r h1 h2 => (h.e1 r h1 h2).below hb (Nat.le_refl _), fun j hj => (h.eg j hj).below hb (Nat.le_refl _), h.ap, h.ag⟩
theorem rws_of {w : World} {base : Nat} {v : Value} {vs : List Value} {ps : List (List Int)} (B0 : Nat) (hB0 : B0 < w.heap.size) (ho : OwnK w base v vs) (hl : vs.length = ps.length) (he : ∀ r, r < ps.length → ∃ sp cap, vs.getD r undef = .slice sp (ps.getD r []).length cap ∧ (sp = none → cap = 0) ∧ Src w sp cap (ps.getD r [])) : ∃ sp cap, v = .slice sp ps.length cap ∧ Rws w sp ps := by
  obtain ⟨sp, cap, b, e, hc, _, hp, hcell⟩ := ho.at
  rw [hl] at e
  by_cases h0 : 0 < ps.length
  · obtain ⟨b2, _, e2, _, l2, _⟩ := ho.el 0 (by rw [hl]; exact h0)
    rw [e, hl] at e2
    have hsp := hp (by rw [hl]; exact h0)
    refine ⟨sp, cap, e, b, 0, ?_, fun _ => hsp, fun r hr => ?_⟩
    · cases e2; cases hsp; exact l2
    · obtain ⟨sp', c, e3, hn, hS⟩ := he r hr
      refine ⟨sp', c, ?_, hn, hS⟩
      rw [Nat.zero_add, hcell r (by rw [hl]; exact hr), e3]
  · exact ⟨sp, cap, e, B0, 0, hB0, fun h1 => absurd h1 h0, fun r hr => absurd (Nat.lt_of_le_of_lt (Nat.zero_le _) hr) h0⟩
theorem GR.rws1 {w : World} {base B : Nat} {v1 v2 gv : Value} {L1 G : List Value} {cs : List (List Int)} {i : Nat} (h : GR w base B v1 v2 gv L1 G cs i) : ∃ sp cap, v1 = .slice sp cs.length cap ∧ Rws w sp cs :=
  rws_of B (hlt h.bk) h.o1 h.l1 fun r hr => by obtain ⟨sp, cap, e, hn, hS, _⟩ := h.sr r hr; exact ⟨sp, cap, e, hn, hS⟩
def grown (cs : List (List Int)) : List (List Int) := (List.range cs.length).map fun j => mksK j ((cs.getD j []).length + 300)
theorem grown_len (cs : List (List Int)) : (grown cs).length = cs.length := by simp [grown]
theorem grown_get (cs : List (List Int)) (j : Nat) (hj : j < cs.length) : (grown cs).getD j [] = mksK j ((cs.getD j []).length + 300) := by simp [grown, List.getD_eq_getElem?_getD, hj]
theorem GR.rwsG {w : World} {base B : Nat} {v1 v2 gv : Value} {L1 G : List Value} {cs : List (List Int)} (h : GR w base B v1 v2 gv L1 G cs cs.length) : ∃ sp cap, gv = .slice sp (grown cs).length cap ∧ Rws w sp (grown cs) :=
  rws_of B (hlt h.bk) h.og (by rw [h.lg, grown_len]) fun r hr => by
    rw [grown_len] at hr
    rw [grown_get cs r hr]
    obtain ⟨sp, cap, e, hS, hn⟩ := (h.eg r hr).form
    exact ⟨sp, cap, e, hn, hS⟩
end Go.Proofs.Ythhchbeaefcljaa
