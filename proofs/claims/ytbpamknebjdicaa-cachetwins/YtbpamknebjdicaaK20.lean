import Derived.Test.YtbpamknebjdicaaL20
import Derived.Test.YtbpamknebjdicaaK14
namespace Go.Proofs.Ytbpamknebjdicaa
set_option linter.unusedVariables false
set_option linter.unusedSimpArgs false
open Go.RowKit
attribute [local go_sem ↓] Go.wp_at_zero Go.wp_at_succ

/-! Two caches that are asked the same. -/
def Tw (a b : AS Int Int) : Prop := a = { b with hits := b.hits + 1 }
theorem Tw.get {a b : AS Int Int} (h : Tw a b) (k : Int) : Tw (a.get k) (b.get k) := by
  subst h; unfold AS.get Tw
  simp only
  cases findL b.held k with
  | some x => rfl
  | none => simp only; cases findL b.clean k <;> rfl
theorem Tw.put {a b : AS Int Int} (h : Tw a b) (k v : Int) : Tw (a.put k v) (b.put k v) := by
  subst h; unfold AS.put Tw
  simp only
  cases findL b.held k <;> rfl
theorem Tw.hold {a b : AS Int Int} (h : Tw a b) (k v : Int) : Tw (a.hold k v) (b.hold k v) := by
  subst h; unfold AS.hold Tw
  simp only
  cases findL b.held k <;> rfl
theorem Tw.settle {a b : AS Int Int} (h : Tw a b) : Tw a.settle b.settle := by subst h; rfl
theorem Tw.release {a b : AS Int Int} (h : Tw a b) (n : Nat) : Tw (a.release n) (b.release n) := by subst h; rfl
theorem Tw.val {a b : AS Int Int} (h : Tw a b) (k : Int) : a.val k = b.val k := by subst h; rfl
theorem K2.CA.base {w : World} {base : Nat} {F : List Nat} {p N : Nat} {a : AS Int Int} (h : K2.CA w base F p N a) : base ≤ w.heap.size := by
  obtain ⟨m, n, s, L, rfl, h, _⟩ := h; exact h.base
theorem tx_left {w w1 : World} {base p q N M : Nat} {F G : List Nat} {a b a' : AS Int Int} (ha : CA w base F p N a) (hb : K2.CA w base G q M b) (ap : Apart F G) (h : Nx base F p N w a' w1) : ∃ F', CA w1 base F' p (N + 1) a' ∧ K2.CA w1 base G q M b ∧ Apart F' G ∧ Below base w w1 ∧ Fr F w w1 := by
  obtain ⟨F', h1, h2, h3⟩ := h
  exact ⟨F', h1, hb.other h2 ap, ap.step (fun k hk => (hb.lt k hk).2) h3, h2.below (fun k hk => (ha.lt k hk).1) ha.base, h2⟩
theorem tx_right {w w1 : World} {base p q N M : Nat} {F G : List Nat} {a b b' : AS Int Int} (ha : CA w base F p N a) (hb : K2.CA w base G q M b) (ap : Apart F G) (h : K2.Nx base G q M w b' w1) : ∃ G', CA w1 base F p N a ∧ K2.CA w1 base G' q (M + 1) b' ∧ Apart F G' ∧ Below base w w1 ∧ Fr G w w1 := by
  obtain ⟨F', h1, h2, h3⟩ := h
  exact ⟨F', ha.other h2 ap.symm, h1, (ap.symm.step (fun k hk => (ha.lt k hk).2) h3).symm, h2.below (fun k hk => (hb.lt k hk).1) hb.base, h2⟩
/-- What a step over both leaves. -/
def TR (base p q N : Nat) (w w' : World) : Prop := ∃ F G a' b', CA w' base F p (N + 1) a' ∧ K2.CA w' base G q (N + 1) b' ∧ Apart F G ∧ Tw a' b' ∧ Below base w w'
theorem CA.drew' {w : World} {base : Nat} {F : List Nat} {p N : Nat} {a : AS Int Int} (h : CA w base F p N a) : CA w.drew base F p N a := by
  obtain ⟨m, n, s, L, rfl, h, r⟩ := h
  exact ⟨m, n, s, L, rfl, h.drew, r⟩
theorem TR.below {base p q N : Nat} {w w' w2 : World} (h : TR base p q N w w') (hb : Below w'.heap.size w' w2) : TR base p q N w w2 := by
  obtain ⟨F, G, a, b, h1, h2, h3, h4, h5⟩ := h
  exact ⟨F, G, a, b, h1.below hb, h2.below hb, h3, h4, h5.trans (hb.mono h1.base)⟩
set_option maxRecDepth 100000 in
set_option maxHeartbeats 4000000 in
theorem twin_any (w : World) (base p q N : Nat) (F G : List Nat) (a b : AS Int Int) (ha0 : CA w base F p N a) (hb0 : K2.CA w base G q N b) (ap : Apart F G) (tw : Tw a b) (o : OP) (ho : OpOk o) (hN : N < 8796093022208) :
    Calls Try.prog 22 #[.pointer (some ⟨p, 0, none⟩), .pointer (some ⟨q, 0, none⟩), .agg (opL o).toArray] w fun e w' => e = .returned (.bool true) ∧ TR base p q N w w' := by
  have hHF : w.heap.size ∉ F := fun e => by have := (ha0.lt _ e).2; omega
  have hHG : w.heap.size ∉ G := fun e => by have := (hb0.lt _ e).2; omega
  have hB1 : Below w.heap.size w (w.alloc (.cells (opL o).toArray 37)) := (Below.refl _ w).alloc (Nat.le_refl _) _
  have ha := ha0.below hB1
  have hb := hb0.below hB1
  have hr := hnew w (.cells (opL o).toArray 37)
  have hbs := ha0.base
  have hsz : w.heap.size < (w.alloc (.cells (opL o).toArray 37)).heap.size := by simp
  have hB2 : Below base w (w.alloc (.cells (opL o).toArray 37)) := hB1.mono hbs
  clear ha0 hb0 hB1 hbs
  obtain ⟨c0, c2, c3⟩ := op_row hr
  have HBW := hid hB2
  have HOK := hid ho.2.2.1
  have HOV := hid ho.2.2.2
  clear hB2
  by_cases k2 : o.kind = 2
  · skip
    have n2 : (o.kind == 2) = true := by simp; omega
    have HX := hid (fun w2 (x : Nx base F p N (w.alloc (.cells (opL o).toArray 37)) (a.get o.k) w2) => tx_left ha hb ap x)
    have HRW := hid (fun w2 (x : Fr F (w.alloc (.cells (opL o).toArray 37)) w2) => (x.block _ hsz hHF).trans hr)
    have HG1 := hid (Get_any (w.alloc (.cells (opL o).toArray 37)) base F p N a ha o.k ho.2.2.1 (by omega))
    have HG2 := hid (fun w2 (x : K2.CA w2 base G q N b) => K2.Get_any w2 base G q N b x o.k ho.2.2.1 (by omega))
    have HND := hid (fun w2 w3 F2 (x1 : CA w2 base F2 p (N + 1) (a.get o.k)) (x2 : K2.CA w2 base G q N b) (x3 : Apart F2 G) (x4 : Below base (w.alloc (.cells (opL o).toArray 37)) w2) (x : K2.Nx base G q N w2 (b.get o.k) w3) => (by
      obtain ⟨G3, y1, y2, y3, y4, y5⟩ := tx_right x1 x2 x3 x
      exact ⟨F2, G3, _, _, y1, y2, y3, tw.get o.k, (HBW.out.trans x4).trans y4⟩ : TR base p q N w w3))
    have HGR := hid (fun w3 w4 (y : w3.heap[w.heap.size]? = some (.cells (opL o).toArray 37 (0, 0))) (x : K2.Nx base G q N w3 (b.get o.k) w4) => (by
      obtain ⟨F', h1, h2, h3⟩ := x
      exact (h2.block _ (hlt y) hHG).trans y : w4.heap[w.heap.size]? = some (.cells (opL o).toArray 37 (0, 0))))
    have htv := tw.val o.k
    cases hv : a.val o.k with
    | none =>
      rw [hv] at HG1
      rw [← htv, hv] at HG2
      have HPT := hid (fun w2 => path_any w2 o.k)
      clear htv ha hb tw ap ho hr hsz hHF hHG hv k2
      simp only [argK, argV, K2.argK, argP, K2.argV, K2.getV, Option.getD_none, Option.isSome_none, Option.getD_some, Option.isSome_some] at HG1 HG2
      go_enter Try.func22, Try.ntmps22
      go_wp2_with (first
        | (go_at_call 12; refine HG1.out.mono ?_; rintro e w2 ⟨rfl, hx⟩; obtain ⟨F2, x1, x2, x3, x4, x5⟩ := HX.out w2 hx; have r2 := HRW.out w2 x5; obtain ⟨d0, d2, d3⟩ := op_row r2; have HC2 := hid x1; have HK2 := hid x2; have HA2 := hid x3; have HB2 := hid x4; clear HG1 HX HRW hx x1 x2 x3 x4 x5 r2)
        | (go_at_call 20; refine (HPT.out w2).mono ?_; rintro e w3 ⟨rfl, hb3⟩; have HG3 := hid (HG2.out w3 (HK2.out.below hb3)); have HN3 := hid (fun w4 x => HND.out w3 w4 F2 (HC2.out.below hb3) (HK2.out.below hb3) HA2.out (HB2.out.trans (hb3.mono HC2.out.base)) x); clear HG2 HND HC2 HK2 HB2 hb3)
        | (go_at_call 43; refine HG3.out.mono ?_; rintro e w4 ⟨rfl, hx⟩; have HZ := hid (HN3.out w4 hx); clear hx HG3 HN3))
      go_ret
      exact ⟨rfl, HZ.out⟩
    | some z =>
      rw [hv] at HG1
      rw [← htv, hv] at HG2
      have HWD := hid (fun w4 => word_any w4 z)
      have HPT := hid (fun w2 => path_any w2 o.k)
      clear htv ha hb tw ap ho hr hsz hHF hHG hv k2
      simp only [argK, argV, K2.argK, argP, K2.argV, K2.getV, Option.getD_none, Option.isSome_none, Option.getD_some, Option.isSome_some] at HG1 HG2
      go_enter Try.func22, Try.ntmps22
      go_wp2_with (first
        | (go_at_call 12; refine HG1.out.mono ?_; rintro e w2 ⟨rfl, hx⟩; obtain ⟨F2, x1, x2, x3, x4, x5⟩ := HX.out w2 hx; have r2 := HRW.out w2 x5; obtain ⟨d0, d2, d3⟩ := op_row r2; have HC2 := hid x1; have HK2 := hid x2; have HA2 := hid x3; have HB2 := hid x4; clear HG1 HX HRW hx x1 x2 x3 x4 x5 r2)
        | (go_at_call 20; refine (HPT.out w2).mono ?_; rintro e w3 ⟨rfl, hb3⟩; have HG3 := hid (HG2.out w3 (HK2.out.below hb3)); have HN3 := hid (fun w4 x => HND.out w3 w4 F2 (HC2.out.below hb3) (HK2.out.below hb3) HA2.out (HB2.out.trans (hb3.mono HC2.out.base)) x); clear HG2 HND HC2 HK2 HB2 hb3)
        | (go_at_call 43; refine HG3.out.mono ?_; rintro e w4 ⟨rfl, hx⟩; have HZ := hid (HN3.out w4 hx); clear hx HG3 HN3)
        | (go_at_call 21; refine (HWD.out w4).mono ?_; rintro e w5 ⟨rfl, hb5⟩; have HZ5 := hid (HZ.out.below hb5); clear hb5 HWD))
      go_ret
      exact ⟨rfl, HZ5.out⟩
  by_cases k3 : o.kind = 3
  · skip
    have n2 : (o.kind == 2) = false := by simp; omega
    have n3 : (o.kind == 3) = true := by simp; omega
    have HX := hid (fun w2 (x : Nx base F p N (w.alloc (.cells (opL o).toArray 37)) (a.put o.k o.v) w2) => tx_left ha hb ap x)
    have HRW := hid (fun w2 (x : Fr F (w.alloc (.cells (opL o).toArray 37)) w2) => (x.block _ hsz hHF).trans hr)
    have HG1 := hid (Put_any (w.alloc (.cells (opL o).toArray 37)) base F p N a ha o.k o.v ho.2.2.1 (by omega))
    have HG2 := hid (fun w2 (x : K2.CA w2 base G q N b) => K2.Put_any w2 base G q N b x o.k o.v ho.2.2.1 (by omega))
    have HND := hid (fun w2 w3 F2 (x1 : CA w2 base F2 p (N + 1) (a.put o.k o.v)) (x2 : K2.CA w2 base G q N b) (x3 : Apart F2 G) (x4 : Below base (w.alloc (.cells (opL o).toArray 37)) w2) (x : K2.Nx base G q N w2 (b.put o.k o.v) w3) => (by
      obtain ⟨G3, y1, y2, y3, y4, y5⟩ := tx_right x1 x2 x3 x
      exact ⟨F2, G3, _, _, y1, y2, y3, tw.put o.k o.v, (HBW.out.trans x4).trans y4⟩ : TR base p q N w w3))
    have HGR := hid (fun w3 w4 (y : w3.heap[w.heap.size]? = some (.cells (opL o).toArray 37 (0, 0))) (x : K2.Nx base G q N w3 (b.put o.k o.v) w4) => (by
      obtain ⟨F', h1, h2, h3⟩ := x
      exact (h2.block _ (hlt y) hHG).trans y : w4.heap[w.heap.size]? = some (.cells (opL o).toArray 37 (0, 0))))
    clear tw ap ho hr hsz hHF hHG k3
    have HCA := hid ha
    clear ha hb
    simp only [argK, argV, K2.argK, argP, K2.argV] at HG1 HG2
    go_enter Try.func22, Try.ntmps22
    go_wp2_with (first
      | (go_at_call 9; refine HG1.out.mono ?_; rintro e w2 ⟨rfl, hx⟩; obtain ⟨F2, x1, x2, x3, x4, x5⟩ := HX.out w2 hx; have HR2 := hid (HRW.out w2 x5); have HPB := hid (fun x (y : Below w2.heap.size w2.drew x) => HG2.out x ((K2.CA.drew x2).below y)); have HNB := hid (fun x z (y : Below w2.heap.size w2.drew x) (n : K2.Nx base G q N x _ z) => HND.out x z F2 ((CA.drew' x1).below y) ((K2.CA.drew x2).below y) x3 (x4.trans ⟨y.os, y.tape, y.output, y.size, fun i hi => y.block i (Nat.lt_of_lt_of_le hi x1.base)⟩) n); clear HG1 HG2 HND HX HRW hx x1 x2 x3 x4 x5))
    refine wp_region_noPanic ?_
    refine wp_region_held_drew (S := fun w' => w'.heap[w.heap.size]? = some (.cells (opL o).toArray 37 (0, 0))) (by kernel_rfl) HR2.out (fun hHeld => ?_)
    refine wpAnyH_take (i := 0) (oi := { dst := some 62, op := Op.move (Operand.tmp 1), type := 40, pos := "law.go:264", after := #[], guard := none }) (v := .pointer (some ⟨q, 0, none⟩)) rfl (by kernel_rfl) (by kernel_rfl) (by kernel_rfl) (fun _ _ _ h => h) (Or.inl ⟨by rfl, by intro w hS; go_simp⟩) hHeld ?_
    try simp only [Act.put, List.setIfInBounds_toArray, List.set_cons_zero, List.set_cons_succ]
    refine wpAnyH_take (i := 1) (oi := { dst := some 63, op := Op.fieldAddr 37 (Operand.tmp 5) 2, type := 0, pos := "law.go:264", after := #[], guard := none }) (v := .pointer (some ⟨w.heap.size, 2, none⟩)) rfl (by kernel_rfl) (by kernel_rfl) (by kernel_rfl) (fun _ _ _ h => h) (Or.inl ⟨by rfl, by intro w hS; go_simp⟩) hHeld ?_
    try simp only [Act.put, List.setIfInBounds_toArray, List.set_cons_zero, List.set_cons_succ]
    refine wpAnyH_take (i := 4) (oi := { dst := some 66, op := Op.fieldAddr 37 (Operand.tmp 5) 3, type := 0, pos := "law.go:264", after := #[], guard := none }) (v := .pointer (some ⟨w.heap.size, 3, none⟩)) rfl (by kernel_rfl) (by kernel_rfl) (by kernel_rfl) (fun _ _ _ h => h) (Or.inl ⟨by rfl, by intro w hS; go_simp⟩) hHeld ?_
    try simp only [Act.put, List.setIfInBounds_toArray, List.set_cons_zero, List.set_cons_succ]
    refine wpAnyH_take (i := 2) (oi := { dst := some 64, op := Op.load 3 (Operand.tmp 63), type := 3, pos := "law.go:264", after := #[{ on := 1, ground := Ground.data }], guard := none }) (v := .int .i64 o.k) rfl (by kernel_rfl) (by kernel_rfl) (by kernel_rfl) (fun _ _ _ h => h) (Or.inl ⟨by rfl, by intro w hS; have hc := (op_row hS).2.1; go_simp⟩) hHeld ?_
    try simp only [Act.put, List.setIfInBounds_toArray, List.set_cons_zero, List.set_cons_succ]
    refine wpAnyH_take (i := 5) (oi := { dst := some 67, op := Op.load 3 (Operand.tmp 66), type := 3, pos := "law.go:264", after := #[{ on := 4, ground := Ground.data }], guard := none }) (v := .int .i64 o.v) rfl (by kernel_rfl) (by kernel_rfl) (by kernel_rfl) (fun _ _ _ h => h) (Or.inl ⟨by rfl, by intro w hS; have hc := (op_row hS).2.2; go_simp⟩) hHeld ?_
    try simp only [Act.put, List.setIfInBounds_toArray, List.set_cons_zero, List.set_cons_succ]
    refine wpAnyH_ready (rs := [3]) (by kernel_rfl) (by simp) ?_
    refine (AllReadyH.cons (o := { dst := some 65, op := Op.call { callee := Callee.value (Operand.func 20), args := #[Operand.tmp 64], argTypes := #[3] }, type := 43, pos := "law.go:264", after := #[{ on := 2, ground := Ground.data }], guard := none }) rfl (fun K hK => ?_) AllReadyH.nil)
    go_simp
    go_at_call 20
    refine (path_any _ o.k).mono ?_
    rintro e x1 ⟨rfl, hbx⟩
    have HX1 := hid hbx
    go_wp2_with fail
    refine hK.out _ _ ((hbx.block _ (hlt hHeld)).trans hHeld) (fun hHeld2 => ?_)
    clear hK K hHeld
    have hHeld := hHeld2
    clear hHeld2
    try simp only [Act.put, List.setIfInBounds_toArray, List.set_cons_zero, List.set_cons_succ]
    refine wpAnyH_ready (rs := [6]) (by kernel_rfl) (by simp) ?_
    refine (AllReadyH.cons (o := { dst := some 68, op := Op.call { callee := Callee.value (Operand.func 21), args := #[Operand.tmp 67], argTypes := #[3] }, type := 9, pos := "law.go:264", after := #[{ on := 5, ground := Ground.data }, { on := 3, ground := Ground.chain }], guard := none }) rfl (fun K hK => ?_) AllReadyH.nil)
    go_simp
    go_at_call 21
    refine (word_any _ o.v).mono ?_
    rintro e x2 ⟨rfl, hby⟩
    have HX2 := hid (HX1.out.trans (hby.mono HX1.out.size))
    go_wp2_with fail
    refine hK.out _ _ ((hby.block _ (hlt hHeld)).trans hHeld) (fun hHeld2 => ?_)
    clear hK K hHeld
    have hHeld := hHeld2
    clear hHeld2
    try simp only [Act.put, List.setIfInBounds_toArray, List.set_cons_zero, List.set_cons_succ]
    refine wpAnyH_ready (rs := [7]) (by kernel_rfl) (by simp) ?_
    refine (AllReadyH.cons (o := { dst := some 69, op := Op.call { callee := Callee.value (Operand.func 44), args := #[Operand.tmp 62, Operand.tmp 65, Operand.tmp 68], argTypes := #[40, 43, 9] }, type := 0, pos := "law.go:264", after := #[{ on := 0, ground := Ground.data }, { on := 3, ground := Ground.data }, { on := 6, ground := Ground.data }, { on := 6, ground := Ground.chain }], guard := none }) rfl (fun K hK => ?_) AllReadyH.nil)
    go_simp
    go_at_call 44
    refine (HPB.out x2 HX2.out).mono ?_
    rintro e x3 ⟨rfl, hz⟩
    have HZ := hid (HNB.out x2 x3 HX2.out hz)
    go_wp2_with fail
    refine hK.out _ _ (HGR.out x2 x3 hHeld hz) (fun hHeld2 => ?_)
    clear hK K hHeld
    have hHeld := hHeld2
    clear hHeld2
    try simp only [Act.put, List.setIfInBounds_toArray, List.set_cons_zero, List.set_cons_succ]
    refine wpAnyH_done (by kernel_rfl) ?_ _
    refine NoPanic.normal ?_
    go_wp2
    go_ret
    exact ⟨rfl, HZ.out⟩
  by_cases k4 : o.kind = 4
  · skip
    have n2 : (o.kind == 2) = false := by simp; omega
    have n3 : (o.kind == 3) = false := by simp; omega
    have n4 : (o.kind == 4) = true := by simp; omega
    have HX := hid (fun w2 (x : Nx base F p N (w.alloc (.cells (opL o).toArray 37)) (a.hold o.k o.v) w2) => tx_left ha hb ap x)
    have HRW := hid (fun w2 (x : Fr F (w.alloc (.cells (opL o).toArray 37)) w2) => (x.block _ hsz hHF).trans hr)
    have HG1 := hid (Hold_any (w.alloc (.cells (opL o).toArray 37)) base F p N a ha o.k o.v ho.2.2.1 (by omega))
    have HG2 := hid (fun w2 (x : K2.CA w2 base G q N b) => K2.Hold_any w2 base G q N b x o.k o.v ho.2.2.1 (by omega))
    have HND := hid (fun w2 w3 F2 (x1 : CA w2 base F2 p (N + 1) (a.hold o.k o.v)) (x2 : K2.CA w2 base G q N b) (x3 : Apart F2 G) (x4 : Below base (w.alloc (.cells (opL o).toArray 37)) w2) (x : K2.Nx base G q N w2 (b.hold o.k o.v) w3) => (by
      obtain ⟨G3, y1, y2, y3, y4, y5⟩ := tx_right x1 x2 x3 x
      exact ⟨F2, G3, _, _, y1, y2, y3, tw.hold o.k o.v, (HBW.out.trans x4).trans y4⟩ : TR base p q N w w3))
    have HGR := hid (fun w3 w4 (y : w3.heap[w.heap.size]? = some (.cells (opL o).toArray 37 (0, 0))) (x : K2.Nx base G q N w3 (b.hold o.k o.v) w4) => (by
      obtain ⟨F', h1, h2, h3⟩ := x
      exact (h2.block _ (hlt y) hHG).trans y : w4.heap[w.heap.size]? = some (.cells (opL o).toArray 37 (0, 0))))
    clear tw ap ho hr hsz hHF hHG k4
    have HCA := hid ha
    clear ha hb
    simp only [argK, argV, K2.argK, argP, K2.argV] at HG1 HG2
    go_enter Try.func22, Try.ntmps22
    go_wp2_with (first
      | (go_at_call 13; refine HG1.out.mono ?_; rintro e w2 ⟨rfl, hx⟩; obtain ⟨F2, x1, x2, x3, x4, x5⟩ := HX.out w2 hx; have HR2 := hid (HRW.out w2 x5); have HPB := hid (fun x (y : Below w2.heap.size w2.drew x) => HG2.out x ((K2.CA.drew x2).below y)); have HNB := hid (fun x z (y : Below w2.heap.size w2.drew x) (n : K2.Nx base G q N x _ z) => HND.out x z F2 ((CA.drew' x1).below y) ((K2.CA.drew x2).below y) x3 (x4.trans ⟨y.os, y.tape, y.output, y.size, fun i hi => y.block i (Nat.lt_of_lt_of_le hi x1.base)⟩) n); clear HG1 HG2 HND HX HRW hx x1 x2 x3 x4 x5))
    refine wp_region_noPanic ?_
    refine wp_region_held_drew (S := fun w' => w'.heap[w.heap.size]? = some (.cells (opL o).toArray 37 (0, 0))) (by kernel_rfl) HR2.out (fun hHeld => ?_)
    refine wpAnyH_take (i := 0) (oi := { dst := some 78, op := Op.move (Operand.tmp 1), type := 40, pos := "law.go:267", after := #[], guard := none }) (v := .pointer (some ⟨q, 0, none⟩)) rfl (by kernel_rfl) (by kernel_rfl) (by kernel_rfl) (fun _ _ _ h => h) (Or.inl ⟨by rfl, by intro w hS; go_simp⟩) hHeld ?_
    try simp only [Act.put, List.setIfInBounds_toArray, List.set_cons_zero, List.set_cons_succ]
    refine wpAnyH_take (i := 1) (oi := { dst := some 79, op := Op.fieldAddr 37 (Operand.tmp 5) 2, type := 0, pos := "law.go:267", after := #[], guard := none }) (v := .pointer (some ⟨w.heap.size, 2, none⟩)) rfl (by kernel_rfl) (by kernel_rfl) (by kernel_rfl) (fun _ _ _ h => h) (Or.inl ⟨by rfl, by intro w hS; go_simp⟩) hHeld ?_
    try simp only [Act.put, List.setIfInBounds_toArray, List.set_cons_zero, List.set_cons_succ]
    refine wpAnyH_take (i := 4) (oi := { dst := some 82, op := Op.fieldAddr 37 (Operand.tmp 5) 3, type := 0, pos := "law.go:267", after := #[], guard := none }) (v := .pointer (some ⟨w.heap.size, 3, none⟩)) rfl (by kernel_rfl) (by kernel_rfl) (by kernel_rfl) (fun _ _ _ h => h) (Or.inl ⟨by rfl, by intro w hS; go_simp⟩) hHeld ?_
    try simp only [Act.put, List.setIfInBounds_toArray, List.set_cons_zero, List.set_cons_succ]
    refine wpAnyH_take (i := 2) (oi := { dst := some 80, op := Op.load 3 (Operand.tmp 79), type := 3, pos := "law.go:267", after := #[{ on := 1, ground := Ground.data }], guard := none }) (v := .int .i64 o.k) rfl (by kernel_rfl) (by kernel_rfl) (by kernel_rfl) (fun _ _ _ h => h) (Or.inl ⟨by rfl, by intro w hS; have hc := (op_row hS).2.1; go_simp⟩) hHeld ?_
    try simp only [Act.put, List.setIfInBounds_toArray, List.set_cons_zero, List.set_cons_succ]
    refine wpAnyH_take (i := 5) (oi := { dst := some 83, op := Op.load 3 (Operand.tmp 82), type := 3, pos := "law.go:267", after := #[{ on := 4, ground := Ground.data }], guard := none }) (v := .int .i64 o.v) rfl (by kernel_rfl) (by kernel_rfl) (by kernel_rfl) (fun _ _ _ h => h) (Or.inl ⟨by rfl, by intro w hS; have hc := (op_row hS).2.2; go_simp⟩) hHeld ?_
    try simp only [Act.put, List.setIfInBounds_toArray, List.set_cons_zero, List.set_cons_succ]
    refine wpAnyH_ready (rs := [3]) (by kernel_rfl) (by simp) ?_
    refine (AllReadyH.cons (o := { dst := some 81, op := Op.call { callee := Callee.value (Operand.func 20), args := #[Operand.tmp 80], argTypes := #[3] }, type := 43, pos := "law.go:267", after := #[{ on := 2, ground := Ground.data }], guard := none }) rfl (fun K hK => ?_) AllReadyH.nil)
    go_simp
    go_at_call 20
    refine (path_any _ o.k).mono ?_
    rintro e x1 ⟨rfl, hbx⟩
    have HX1 := hid hbx
    go_wp2_with fail
    refine hK.out _ _ ((hbx.block _ (hlt hHeld)).trans hHeld) (fun hHeld2 => ?_)
    clear hK K hHeld
    have hHeld := hHeld2
    clear hHeld2
    try simp only [Act.put, List.setIfInBounds_toArray, List.set_cons_zero, List.set_cons_succ]
    refine wpAnyH_ready (rs := [6]) (by kernel_rfl) (by simp) ?_
    refine (AllReadyH.cons (o := { dst := some 84, op := Op.call { callee := Callee.value (Operand.func 21), args := #[Operand.tmp 83], argTypes := #[3] }, type := 9, pos := "law.go:267", after := #[{ on := 5, ground := Ground.data }, { on := 3, ground := Ground.chain }], guard := none }) rfl (fun K hK => ?_) AllReadyH.nil)
    go_simp
    go_at_call 21
    refine (word_any _ o.v).mono ?_
    rintro e x2 ⟨rfl, hby⟩
    have HX2 := hid (HX1.out.trans (hby.mono HX1.out.size))
    go_wp2_with fail
    refine hK.out _ _ ((hby.block _ (hlt hHeld)).trans hHeld) (fun hHeld2 => ?_)
    clear hK K hHeld
    have hHeld := hHeld2
    clear hHeld2
    try simp only [Act.put, List.setIfInBounds_toArray, List.set_cons_zero, List.set_cons_succ]
    refine wpAnyH_ready (rs := [7]) (by kernel_rfl) (by simp) ?_
    refine (AllReadyH.cons (o := { dst := some 85, op := Op.call { callee := Callee.value (Operand.func 19), args := #[Operand.tmp 78, Operand.tmp 81, Operand.tmp 84], argTypes := #[40, 43, 9] }, type := 0, pos := "law.go:267", after := #[{ on := 0, ground := Ground.data }, { on := 3, ground := Ground.data }, { on := 6, ground := Ground.data }, { on := 6, ground := Ground.chain }], guard := none }) rfl (fun K hK => ?_) AllReadyH.nil)
    go_simp
    go_at_call 19
    refine (HPB.out x2 HX2.out).mono ?_
    rintro e x3 ⟨rfl, hz⟩
    have HZ := hid (HNB.out x2 x3 HX2.out hz)
    go_wp2_with fail
    refine hK.out _ _ (HGR.out x2 x3 hHeld hz) (fun hHeld2 => ?_)
    clear hK K hHeld
    have hHeld := hHeld2
    clear hHeld2
    try simp only [Act.put, List.setIfInBounds_toArray, List.set_cons_zero, List.set_cons_succ]
    refine wpAnyH_done (by kernel_rfl) ?_ _
    refine NoPanic.normal ?_
    go_wp2
    go_ret
    exact ⟨rfl, HZ.out⟩
  by_cases k5 : o.kind = 5
  · skip
    have n2 : (o.kind == 2) = false := by simp; omega
    have n3 : (o.kind == 3) = false := by simp; omega
    have n4 : (o.kind == 4) = false := by simp; omega
    have n5 : (o.kind == 5) = true := by simp; omega
    have HX := hid (fun w2 (x : Nx base F p N (w.alloc (.cells (opL o).toArray 37)) a.settle w2) => tx_left ha hb ap x)
    have HRW := hid (fun w2 (x : Fr F (w.alloc (.cells (opL o).toArray 37)) w2) => (x.block _ hsz hHF).trans hr)
    have HG1 := hid (Settle_any (w.alloc (.cells (opL o).toArray 37)) base F p N a ha  (by omega))
    have HG2 := hid (fun w2 (x : K2.CA w2 base G q N b) => K2.Settle_any w2 base G q N b x  (by omega))
    have HND := hid (fun w2 w3 F2 (x1 : CA w2 base F2 p (N + 1) a.settle) (x2 : K2.CA w2 base G q N b) (x3 : Apart F2 G) (x4 : Below base (w.alloc (.cells (opL o).toArray 37)) w2) (x : K2.Nx base G q N w2 b.settle w3) => (by
      obtain ⟨G3, y1, y2, y3, y4, y5⟩ := tx_right x1 x2 x3 x
      exact ⟨F2, G3, _, _, y1, y2, y3, tw.settle, (HBW.out.trans x4).trans y4⟩ : TR base p q N w w3))
    have HGR := hid (fun w3 w4 (y : w3.heap[w.heap.size]? = some (.cells (opL o).toArray 37 (0, 0))) (x : K2.Nx base G q N w3 b.settle w4) => (by
      obtain ⟨F', h1, h2, h3⟩ := x
      exact (h2.block _ (hlt y) hHG).trans y : w4.heap[w.heap.size]? = some (.cells (opL o).toArray 37 (0, 0))))
    clear ha hb tw ap ho hr hsz hHF hHG k5
    go_enter Try.func22, Try.ntmps22
    go_wp2_with (first
      | (go_at_call 38; refine HG1.out.mono ?_; rintro e w2 ⟨rfl, hx⟩; obtain ⟨F2, x1, x2, x3, x4, x5⟩ := HX.out w2 hx; have r2 := HRW.out w2 x5; obtain ⟨d0, d2, d3⟩ := op_row r2; have HG3 := hid (HG2.out w2 x2); have HN3 := hid (fun w3 x => HND.out w2 w3 F2 x1 x2 x3 x4 x); clear HG1 HG2 HND HX HRW hx x1 x2 x3 x4 x5 r2)
      | (go_at_call 45; refine HG3.out.mono ?_; rintro e w3 ⟨rfl, hx⟩; have HZ := hid (HN3.out w3 hx); clear hx HG3 HN3))
    go_ret
    exact ⟨rfl, HZ.out⟩
  by_cases k6 : o.kind = 6
  · skip
    have n2 : (o.kind == 2) = false := by simp; omega
    have n3 : (o.kind == 3) = false := by simp; omega
    have n4 : (o.kind == 4) = false := by simp; omega
    have n5 : (o.kind == 5) = false := by simp; omega
    have n6 : (o.kind == 6) = true := by simp; omega
    have HX := hid (fun w2 (x : Nx base F p N (w.alloc (.cells (opL o).toArray 37)) (a.release o.k.toNat) w2) => tx_left ha hb ap x)
    have HRW := hid (fun w2 (x : Fr F (w.alloc (.cells (opL o).toArray 37)) w2) => (x.block _ hsz hHF).trans hr)
    have HG1 := hid (Release_any (w.alloc (.cells (opL o).toArray 37)) base F p N a ha o.k (by omega))
    have HG2 := hid (fun w2 (x : K2.CA w2 base G q N b) => K2.Release_any w2 base G q N b x o.k (by omega))
    have HND := hid (fun w2 w3 F2 (x1 : CA w2 base F2 p (N + 1) (a.release o.k.toNat)) (x2 : K2.CA w2 base G q N b) (x3 : Apart F2 G) (x4 : Below base (w.alloc (.cells (opL o).toArray 37)) w2) (x : K2.Nx base G q N w2 (b.release o.k.toNat) w3) => (by
      obtain ⟨G3, y1, y2, y3, y4, y5⟩ := tx_right x1 x2 x3 x
      exact ⟨F2, G3, _, _, y1, y2, y3, tw.release o.k.toNat, (HBW.out.trans x4).trans y4⟩ : TR base p q N w w3))
    have HGR := hid (fun w3 w4 (y : w3.heap[w.heap.size]? = some (.cells (opL o).toArray 37 (0, 0))) (x : K2.Nx base G q N w3 (b.release o.k.toNat) w4) => (by
      obtain ⟨F', h1, h2, h3⟩ := x
      exact (h2.block _ (hlt y) hHG).trans y : w4.heap[w.heap.size]? = some (.cells (opL o).toArray 37 (0, 0))))
    clear ha hb tw ap ho hr hsz hHF hHG k6
    go_enter Try.func22, Try.ntmps22
    go_wp2_with (first
      | (go_at_call 39; refine HG1.out.mono ?_; rintro e w2 ⟨rfl, hx⟩; obtain ⟨F2, x1, x2, x3, x4, x5⟩ := HX.out w2 hx; have r2 := HRW.out w2 x5; obtain ⟨d0, d2, d3⟩ := op_row r2; have HG3 := hid (HG2.out w2 x2); have HN3 := hid (fun w3 x => HND.out w2 w3 F2 x1 x2 x3 x4 x); clear HG1 HG2 HND HX HRW hx x1 x2 x3 x4 x5 r2)
      | (go_at_call 46; refine HG3.out.mono ?_; rintro e w3 ⟨rfl, hx⟩; have HZ := hid (HN3.out w3 hx); clear hx HG3 HN3))
    go_ret
    exact ⟨rfl, HZ.out⟩
  have n2 : (o.kind == 2) = false := by simp; omega
  have n3 : (o.kind == 3) = false := by simp; omega
  have n4 : (o.kind == 4) = false := by simp; omega
  have n5 : (o.kind == 5) = false := by simp; omega
  have n6 : (o.kind == 6) = false := by simp; omega
  have HZ := hid (⟨F, G, a, b, ha.mono (by omega), hb.mono (by omega), ap, tw, HBW.out⟩ : TR base p q N w (w.alloc (.cells (opL o).toArray 37)))
  clear ha hb tw ap ho hr hsz hHF hHG k2 k3 k4 k5 k6
  go_enter Try.func22, Try.ntmps22
  go_wp2_with (first | fail)
  go_ret
  exact ⟨rfl, HZ.out⟩
end Go.Proofs.Ytbpamknebjdicaa
