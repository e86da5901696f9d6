import Derived.Test.YtcibcakgheegbaaE4l
namespace Go.Proofs.Ytcibcakgheegbaa
set_option linter.unusedVariables false
set_option linter.unusedSimpArgs false
open Go.RowKit
attribute [local go_sem ↓] Go.wp_at_zero Go.wp_at_succ

/-- A list of writes that a law is handed, below B. -/
def Wrs (w : World) (B : Nat) (sp : Option Addr) (rs : List WR) : Prop := ∃ b o, (0 < rs.length → b < B ∧ b < w.heap.size ∧ sp = some ⟨b, o, none⟩) ∧ ∀ i, i < rs.length → w.rangeAt b (o + i * 5) (encR (rs.getD i dR))
theorem Wrs.below {w w1 : World} {B : Nat} {sp : Option Addr} {rs : List WR} (h : Wrs w B sp rs) (hb : Below B w w1) : Wrs w1 B sp rs := by
  obtain ⟨b, o, h1, h2⟩ := h
  exact ⟨b, o, fun hp => ⟨(h1 hp).1, Nat.lt_of_lt_of_le (h1 hp).2.1 hb.size, (h1 hp).2.2⟩, fun i hi => rng_below (h2 i hi) hb (h1 (by omega)).1⟩
def owOf (n : Nat) (r : WR) : OW := ⟨pg r n, fil r⟩
def DS.laid (D : DS) (rs : List WR) : DS := { D with ops := D.ops ++ rs.map (owOf D.np), writes := D.writes + rs.length }
theorem laid_nil (D : DS) : D.laid [] = D := by simp [DS.laid]
theorem laid_np (D : DS) (rs : List WR) : (D.laid rs).np = D.np := rfl
theorem laid_snoc (D : DS) (rs : List WR) (r : WR) (ha : D.armed = 0) : (D.laid rs).wr ⟨pg r D.np, fil r⟩ = D.laid (rs ++ [r]) := by
  have e : ∀ E : DS, E.armed = 0 → E.acted = E := fun E h => by unfold DS.acted; rw [if_pos h]
  refine (e ({ (D.laid rs).pushed ⟨pg r D.np, fil r⟩ with writes := (D.laid rs).writes + 1 } : DS) ha).trans ?_
  simp [DS.laid, DS.pushed, owOf, List.append_assoc, Int.add_assoc]
theorem actE0 (D : DS) (ha : D.armed = 0) : D.actE = 0 := by unfold DS.actE; rw [ha]; rfl
theorem getD_memR (rs : List WR) (i : Nat) (hi : i < rs.length) : rs.getD i dR ∈ rs := by
  rw [List.getD_eq_getElem?_getD, List.getElem?_eq_getElem hi]; exact List.getElem_mem hi
theorem take_snocR (rs : List WR) (i : Nat) (hi : i < rs.length) : rs.take (i + 1) = rs.take i ++ [rs.getD i dR] := by
  rw [List.take_succ_eq_append_getElem hi, List.getD_eq_getElem?_getD, List.getElem?_eq_getElem hi]; rfl
set_option maxRecDepth 100000 in
set_option maxHeartbeats 1000000 in
theorem lays_any (w : World) (base : Nat) (F : List Nat) (p : Nat) (D : DS) (h : DA w base F p D) (hbw : base ≤ w.heap.size) (hpw : D.power = true) (hna : D.armed = 0) (rs : List WR) (hrs : ∀ r ∈ rs, WrOk r) (sp : Option Addr) (cap : Nat) (hW : Wrs w base sp rs)
    (hops : D.ops.length + rs.length ≤ 400000000000) (hwr : D.writes + rs.length ≤ 4000000000000000000) :
    Calls Try.prog 10 #[.pointer (some ⟨p, 0, none⟩), .slice sp rs.length cap] w fun e w' => e = .returned (.bool true) ∧ Nx base F p w (D.laid rs) w' := by
  obtain ⟨b, o, hb, hrd0⟩ := hW
  have hF0 := h.lt
  have hok := h.ok
  obtain ⟨h3, h4, _, _⟩ := hok.np
  obtain ⟨n, hn⟩ : ∃ n, n = D.np := ⟨_, rfl⟩
  rw [← hn] at h3 h4
  have HN := hid hn
  have hwl := hok.writes
  have i0 : (rs.length : Int) ≤ 400000000000 := by omega
  have h' : DA w base F p (D.laid (rs.take 0)) := by rw [List.take_zero, laid_nil]; exact h
  clear h hok hn
  go_enter Try.func10, Try.ntmps10
  go_wp2
  go_loopw [5] (fun iv wr => ∃ (i : Nat) (F' : List Nat), i ≤ rs.length ∧ iv = .int .i64 i ∧ DA wr base F' p (D.laid (rs.take i)) ∧ Fr F w wr ∧ Gr w F F') (fun iv _ => rs.length - (intOf iv).toNat)
  case atStart => exact ⟨0, F, by omega, rfl, h', Fr.refl _ _, Gr.refl _ _⟩
  case round =>
    clear h'
    obtain ⟨i, F', hi, rfl, hD, hF, hG⟩ := hrel
    by_cases hlt : i < rs.length
    · have i1 : (i : Int) < (rs.length : Int) := by omega
      obtain ⟨hbb, hbs, rfl⟩ := hb (by omega)
      obtain ⟨r, hre⟩ : ∃ r, r = rs.getD i dR := ⟨_, rfl⟩
      have hr : WrOk r := by rw [hre]; exact hrs _ (getD_memR rs i hlt)
      have hBw : Below base w wr := hF.below (fun k hk => (hF0 k hk).1) hbw
      have hrd : wr.drew.rangeAt b (o + i * 5) (encR r) := by rw [hre]; exact rng_below (hrd0 i hlt) hBw.drew hbb
      have hio : (Try.prog.info? 53).map (·.size) = some (encR r).length := by rw [sizeR, hr.len]
      have hF0' := hD.lt
      have hDd : DA wr.drew base F' p (D.laid (rs.take i)) := hD.below ⟨rfl, rfl, rfl, Nat.le_refl _, fun _ _ => rfl⟩
      have hnp : (D.laid (rs.take i)).np = n := by rw [laid_np, HN.out]
      have HPG := Pages_any wr.drew base F' p _ hDd
      rw [hnp] at HPG
      replace HPG := hid HPG
      have hws : b < wr.heap.size := Nat.lt_of_lt_of_le hbs hF.size
      have HLT := hid (show b < wr.drew.heap.size from hws)
      have hbase : base ≤ wr.drew.heap.size := Nat.le_trans hbw hF.size
      have hbF : b ∉ F' := fun e => by have := (hF0' b e).1; omega
      have HSN := hid (show (D.laid (rs.take i)).wr ⟨pg r n, fil r⟩ = D.laid (rs.take (i + 1)) by rw [HN.out, laid_snoc _ _ _ hna, take_snocR rs i hlt, hre])
      have hlt' : (rs.take i).length = i := by rw [List.length_take]; omega
      have hol : (D.laid (rs.take i)).ops.length = D.ops.length + i := by simp [DS.laid]; omega
      have hwl' : (D.laid (rs.take i)).writes = D.writes + i := by simp [DS.laid]; omega
      have KB := fun (w5 w6 : World) (a : Below wr.drew.heap.size wr.drew w5) (c : Below w5.heap.size w5 w6) => (show Below wr.drew.heap.size wr.drew w6 from a.trans (c.mono a.size))
      have KF := hid (fun (w5 w6 : World) (g6 : Nat) (a : Below wr.drew.heap.size wr.drew w5) (c : Below w5.heap.size w5 w6) (e : w6.heap[g6]? = some (.cells (ints .u8 (fil r)).toArray 5 (0, 0))) => (show g6 < w6.heap.size ∧ True ∧ w6.rangeAt b (o + i * 5) (encR r) from ⟨hlt_ e, trivial, rng_below hrd (KB w5 w6 a c) hws⟩))
      have KW := hid (fun (w5 w6 : World) (g6 : Nat) (a : Below wr.drew.heap.size wr.drew w5) (c : Below w5.heap.size w5 w6) (e : w6.heap[g6]? = some (.cells (ints .u8 (fil r)).toArray 5 (0, 0))) => (show Calls Try.prog 18 #[.pointer (some ⟨p, 0, none⟩), .int .i64 (pg r n), .slice (some ⟨g6, 0, none⟩) 256 256] w6 fun e w' => e = .returned (.int .i64 0) ∧ Nx base F' p w6 (D.laid (rs.take (i + 1))) w' by
        have := Write_any w6 base F' p _ (hDd.below (KB w5 w6 a c)) (Nat.le_trans hbase (KB w5 w6 a c).size) (show (D.laid (rs.take i)).power = true from hpw) (pg r n) (by rw [hnp]; exact pg_lt r n (by omega)) (fil r) (fil_len r) (fil_bts hr) (some ⟨g6, 0, none⟩) 256 (src_row (tl := []) (t := 5) (by rw [List.append_nil]; exact e) 256 (by rw [fil_len]; exact Nat.le_refl _) (by unfold maxLen; omega)) (by rw [hol]; omega) (by rw [hwl']; omega)
        rw [HSN.out, actE0 _ (show (D.laid (rs.take i)).armed = 0 from hna)] at this
        exact this))
      have KK := hid (fun (w5 w6 w7 : World) (a : Below wr.drew.heap.size wr.drew w5) (c : Below w5.heap.size w5 w6) (f : Fr F' w6 w7) => (show w7.rangeAt b (o + i * 5) (encR r) from rng_of_heap (rng_below hrd (KB w5 w6 a c) hws) (f.block b (Nat.lt_of_lt_of_le hws (KB w5 w6 a c).size) hbF)))
      have KD := hid (fun (w7 : World) (F7 : List Nat) (d : DA w7 base F7 p (D.laid (rs.take (i + 1)))) => d)
      have KR := hid (fun (w5 w6 w7 : World) (a : Below wr.drew.heap.size wr.drew w5) (c : Below w5.heap.size w5 w6) (f : Fr F' w6 w7) => (hF.drew.tail (F' := []) (KB w5 w6 a c)).trans f hG)
      have KG := hid (fun (w5 w6 : World) (F7 : List Nat) (a : Below wr.drew.heap.size wr.drew w5) (c : Below w5.heap.size w5 w6) (g : Gr w6 F' F7) => hG.trans g (Nat.le_trans hF.size (KB w5 w6 a c).size))
      clear hre hBw hD hDd hF hG hnp hlt' hol hwl' hF0' hbF KB hrd0 hb hF0 hbs hbb
      go_wp2
      refine wp_region_noPanic ?_
      refine wp_region_held_drew (S := fun w' => w'.rangeAt b (o + i * 5) (encR r)) (by kernel_rfl) hrd (fun hHeld => ?_)
      refine wpAnyH_take (i := 0) (oi := { dst := some 12, op := Op.move (Operand.tmp 0), type := 23, pos := "outright.go:50", after := #[], guard := none }) (v := .pointer (some ⟨p, 0, none⟩)) rfl (by kernel_rfl) (by kernel_rfl) (by kernel_rfl) (fun _ _ _ h => h) (Or.inl ⟨by rfl, by intro w hS; go_simp⟩) hHeld ?_
      try simp only [Act.put, List.setIfInBounds_toArray, List.set_cons_zero, List.set_cons_succ]
      refine wpAnyH_take (i := 1) (oi := { dst := some 13, op := Op.move (Operand.tmp 1), type := 22, pos := "outright.go:50", after := #[], guard := none }) (v := .slice (some ⟨b, o, none⟩) rs.length cap) rfl (by kernel_rfl) (by kernel_rfl) (by kernel_rfl) (fun _ _ _ h => h) (Or.inl ⟨by rfl, by intro w hS; go_simp⟩) hHeld ?_
      try simp only [Act.put, List.setIfInBounds_toArray, List.set_cons_zero, List.set_cons_succ]
      refine wpAnyH_take (i := 2) (oi := { dst := some 14, op := Op.move (Operand.tmp 5), type := 3, pos := "outright.go:50", after := #[], guard := none }) (v := .int .i64 i) rfl (by kernel_rfl) (by kernel_rfl) (by kernel_rfl) (fun _ _ _ h => h) (Or.inl ⟨by rfl, by intro w hS; go_simp⟩) hHeld ?_
      try simp only [Act.put, List.setIfInBounds_toArray, List.set_cons_zero, List.set_cons_succ]
      refine wpAnyH_take (i := 5) (oi := { dst := some 17, op := Op.move (Operand.tmp 0), type := 23, pos := "outright.go:50", after := #[], guard := none }) (v := .pointer (some ⟨p, 0, none⟩)) rfl (by kernel_rfl) (by kernel_rfl) (by kernel_rfl) (fun _ _ _ h => h) (Or.inl ⟨by rfl, by intro w hS; go_simp⟩) hHeld ?_
      try simp only [Act.put, List.setIfInBounds_toArray, List.set_cons_zero, List.set_cons_succ]
      refine wpAnyH_take (i := 8) (oi := { dst := some 20, op := Op.move (Operand.tmp 1), type := 22, pos := "outright.go:50", after := #[], guard := none }) (v := .slice (some ⟨b, o, none⟩) rs.length cap) rfl (by kernel_rfl) (by kernel_rfl) (by kernel_rfl) (fun _ _ _ h => h) (Or.inl ⟨by rfl, by intro w hS; go_simp⟩) hHeld ?_
      try simp only [Act.put, List.setIfInBounds_toArray, List.set_cons_zero, List.set_cons_succ]
      refine wpAnyH_take (i := 9) (oi := { dst := some 21, op := Op.move (Operand.tmp 5), type := 3, pos := "outright.go:50", after := #[], guard := none }) (v := .int .i64 i) rfl (by kernel_rfl) (by kernel_rfl) (by kernel_rfl) (fun _ _ _ h => h) (Or.inl ⟨by rfl, by intro w hS; go_simp⟩) hHeld ?_
      try simp only [Act.put, List.setIfInBounds_toArray, List.set_cons_zero, List.set_cons_succ]
      refine wpAnyH_take (i := 3) (oi := { dst := some 15, op := Op.indexAddr 22 (Operand.tmp 13) (Operand.tmp 14), type := 0, pos := "outright.go:50", after := #[{ on := 1, ground := Ground.data }, { on := 2, ground := Ground.data }], guard := none }) (v := .pointer (some ⟨b, o + i * 5, none⟩)) rfl (by kernel_rfl) (by kernel_rfl) (by kernel_rfl) (fun _ _ _ h => h) (Or.inl ⟨by rfl, by intro w hS; go_simp⟩) hHeld ?_
      try simp only [Act.put, List.setIfInBounds_toArray, List.set_cons_zero, List.set_cons_succ]
      refine wpAnyH_take (i := 10) (oi := { dst := some 22, op := Op.indexAddr 22 (Operand.tmp 20) (Operand.tmp 21), type := 0, pos := "outright.go:50", after := #[{ on := 8, ground := Ground.data }, { on := 9, ground := Ground.data }], guard := none }) (v := .pointer (some ⟨b, o + i * 5, none⟩)) rfl (by kernel_rfl) (by kernel_rfl) (by kernel_rfl) (fun _ _ _ h => h) (Or.inl ⟨by rfl, by intro w hS; go_simp⟩) hHeld ?_
      try simp only [Act.put, List.setIfInBounds_toArray, List.set_cons_zero, List.set_cons_succ]
      refine wpAnyH_take (i := 4) (oi := { dst := some 16, op := Op.load 53 (Operand.tmp 15), type := 53, pos := "outright.go:50", after := #[{ on := 3, ground := Ground.data }], guard := none }) (v := .agg (encR r).toArray) rfl (by kernel_rfl) (by kernel_rfl) (by kernel_rfl) (fun _ _ _ h => h) (yieldsIf_load_mid (by rfl) 53 _ rfl b (o + i * 5) rfl (encR r) _ (fun w hS => hS) Try.underlying53 rfl hio) hHeld ?_
      try simp only [Act.put, List.setIfInBounds_toArray, List.set_cons_zero, List.set_cons_succ]
      refine wpAnyH_take (i := 11) (oi := { dst := some 23, op := Op.load 53 (Operand.tmp 22), type := 53, pos := "outright.go:50", after := #[{ on := 10, ground := Ground.data }], guard := none }) (v := .agg (encR r).toArray) rfl (by kernel_rfl) (by kernel_rfl) (by kernel_rfl) (fun _ _ _ h => h) (yieldsIf_load_mid (by rfl) 53 _ rfl b (o + i * 5) rfl (encR r) _ (fun w hS => hS) Try.underlying53 rfl hio) hHeld ?_
      try simp only [Act.put, List.setIfInBounds_toArray, List.set_cons_zero, List.set_cons_succ]
      refine wpAnyH_ready (rs := [6]) (by kernel_rfl) (by simp) ?_
      refine (AllReadyH.cons (o := { dst := some 18, op := Op.call { callee := Callee.value (Operand.func 14), args := #[Operand.tmp 17], argTypes := #[23] }, type := 3, pos := "outright.go:50", after := #[{ on := 5, ground := Ground.data }], guard := none }) rfl (fun K hK => ?_) AllReadyH.nil)
      go_simp
      go_at_call 14
      refine HPG.out.mono ?_
      rintro e w4 ⟨rfl, rfl⟩
      go_wp2_with fail
      refine hK.out _ _ (hHeld) (fun hHeld2 => ?_)
      clear hK K hHeld
      have hHeld := hHeld2
      clear hHeld2
      try simp only [Act.put, List.setIfInBounds_toArray, List.set_cons_zero, List.set_cons_succ]
      refine wpAnyH_ready (rs := [7]) (by kernel_rfl) (by simp) ?_
      refine (AllReadyH.cons (o := { dst := some 19, op := Op.call { callee := Callee.value (Operand.func 23), args := #[Operand.tmp 16, Operand.tmp 18], argTypes := #[53, 3] }, type := 3, pos := "outright.go:50", after := #[{ on := 4, ground := Ground.data }, { on := 6, ground := Ground.data }, { on := 6, ground := Ground.chain }], guard := none }) rfl (fun K hK => ?_) AllReadyH.nil)
      go_simp
      go_at_call 23
      refine (of_any _ r hr n h3 h4).mono ?_
      rintro e w5 ⟨rfl, hB5⟩
      go_wp2_with fail
      refine hK.out _ _ (rng_below hHeld hB5 HLT.out) (fun hHeld2 => ?_)
      clear hK K hHeld
      have hHeld := hHeld2
      clear hHeld2
      try simp only [Act.put, List.setIfInBounds_toArray, List.set_cons_zero, List.set_cons_succ]
      refine wpAnyH_ready (rs := [12]) (by kernel_rfl) (by simp) ?_
      refine (AllReadyH.cons (o := { dst := some 24, op := Op.call { callee := Callee.value (Operand.func 25), args := #[Operand.tmp 23], argTypes := #[53] }, type := 28, pos := "outright.go:50", after := #[{ on := 11, ground := Ground.data }, { on := 7, ground := Ground.chain }], guard := none }) rfl (fun K hK => ?_) AllReadyH.nil)
      go_simp
      go_at_call 25
      refine (filled_any _ r hr).mono ?_
      rintro e w6 ⟨g6, rfl, hg6, hr6, hB6⟩
      go_wp2_with fail
      obtain ⟨hlt6, hF6, hS6⟩ := KF.out w5 w6 g6 hB5 hB6 hr6
      refine hK.out _ _ (hS6) (fun hHeld2 => ?_)
      clear hK K hHeld
      have hHeld := hHeld2
      clear hHeld2
      try simp only [Act.put, List.setIfInBounds_toArray, List.set_cons_zero, List.set_cons_succ]
      refine wpAnyH_ready (rs := [13]) (by kernel_rfl) (by simp) ?_
      refine (AllReadyH.cons (o := { dst := some 25, op := Op.call { callee := Callee.value (Operand.func 18), args := #[Operand.tmp 12, Operand.tmp 19, Operand.tmp 24], argTypes := #[23, 3, 28] }, type := 26, pos := "outright.go:50", after := #[{ on := 0, ground := Ground.data }, { on := 7, ground := Ground.data }, { on := 12, ground := Ground.data }, { on := 12, ground := Ground.chain }], guard := none }) rfl (fun K hK => ?_) AllReadyH.nil)
      go_simp
      go_at_call 18
      refine (KW.out w5 w6 g6 hB5 hB6 hr6).mono ?_
      rintro e w7 ⟨rfl, F7, hD7, hF7, hG7⟩
      go_wp2_with fail
      refine hK.out _ _ (KK.out w5 w6 w7 hB5 hB6 hF7) (fun hHeld2 => ?_)
      clear hK K hHeld
      have hHeld := hHeld2
      clear hHeld2
      try simp only [Act.put, List.setIfInBounds_toArray, List.set_cons_zero, List.set_cons_succ]
      refine wpAnyH_take (i := 14) (oi := { dst := some 26, op := Op.binOp BinOp.neq 26 (Operand.tmp 25) (Operand.const (Value.int IntKind.i64 0)) 26, type := 4, pos := "outright.go:50", after := #[{ on := 13, ground := Ground.data }], guard := none }) (v := .bool false) rfl (by kernel_rfl) (by kernel_rfl) (by kernel_rfl) (fun _ _ _ h => h) (Or.inl ⟨by rfl, by intro w hS; go_simp⟩) hHeld ?_
      try simp only [Act.put, List.setIfInBounds_toArray, List.set_cons_zero, List.set_cons_succ]
      refine wpAnyH_done (by kernel_rfl) ?_ _
      refine NoPanic.normal ?_
      clear hHeld
      go_wp2
      go_roundw
      case rel => exact ⟨i + 1, F7, by omega, by go_num, KD.out w7 F7 hD7, KR.out w5 w6 w7 hB5 hB6 hF7, KG.out w5 w6 F7 hB5 hB6 hG7⟩
      case measure => simp [intOf]; omega
    · obtain rfl : i = rs.length := by omega
      clear hlt
      rw [List.take_length] at hD
      go_wp2
      go_ret
      exact ⟨rfl, F', hD, hF, hG⟩
end Go.Proofs.Ytcibcakgheegbaa
