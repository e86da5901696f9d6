import Derived.Test.YtbpamknebjdicaaL15
import Derived.Test.YtbpamknebjdicaaL17
import Derived.Test.YtbpamknebjdicaaL19
import Derived.Test.YtbpamknebjdicaaLf
namespace Go.Proofs.Ytbpamknebjdicaa
set_option linter.unusedVariables false
set_option linter.unusedSimpArgs false
open Go.RowKit
attribute [local go_sem ↓] Go.wp_at_zero Go.wp_at_succ

theorem get_room (a : AS Int Int) (k : Int) : (a.get k).room = a.room := by unfold AS.get; split; rfl; split <;> rfl
theorem put_room (a : AS Int Int) (k v : Int) : (a.put k v).room = a.room := by unfold AS.put; split <;> rfl
theorem hold_room (a : AS Int Int) (k v : Int) : (a.hold k v).room = a.room := by unfold AS.hold; split <;> rfl
theorem nx_left {w w1 : World} {base p q N M : Nat} {F G : List Nat} {a b a' : AS Int Int} (ha : CA w base F p N a) (hb : CA w base G q M b) (ap : Apart F G) (h : Nx base F p N w a' w1) : ∃ F', CA w1 base F' p (N + 1) a' ∧ CA w1 base G q M b ∧ Apart F' G ∧ Below base w w1 ∧ Fr F w w1 := by
  obtain ⟨F', h1, h2, h3⟩ := h
  exact ⟨F', h1, hb.other h2 ap, ap.step (fun k hk => (hb.lt k hk).2) h3, h2.below (fun k hk => (ha.lt k hk).1) ha.base, h2⟩
theorem nx_right {w w1 : World} {base p q N M : Nat} {F G : List Nat} {a b b' : AS Int Int} (ha : CA w base F p N a) (hb : CA w base G q M b) (ap : Apart F G) (h : Nx base G q M w b' w1) : ∃ G', CA w1 base F p N a ∧ CA w1 base G' q (M + 1) b' ∧ Apart F G' ∧ Below base w w1 ∧ Fr G w w1 := by
  obtain ⟨F', h1, h2, h3, h4, h5⟩ := nx_left hb ha ap.symm h
  exact ⟨F', h2, h1, h3.symm, h4, h5⟩
/-- What a step over both leaves. -/
def NR (base p q N : Nat) (a b : AS Int Int) (w w' : World) : Prop := ∃ F G a' b', CA w' base F p (N + 1) a' ∧ CA w' base G q (N + 1) b' ∧ Apart F G ∧ Incl a' b' ∧ a'.room = a.room ∧ b'.room = b.room ∧ Below base w w'
theorem op_row {w : World} {H : Nat} {o : OP} (h : w.heap[H]? = some (.cells (opL o).toArray 37 (0, 0))) : w.cell? ⟨H, 0, none⟩ = some (.int .i64 o.kind) ∧ w.cell? ⟨H, 2, none⟩ = some (.int .i64 o.k) ∧ w.cell? ⟨H, 3, none⟩ = some (.int .i64 o.v) :=
  ⟨by rw [cell_of_row _ _ _ _ _ _ h]; rfl, by rw [cell_of_row _ _ _ _ _ _ h]; rfl, by rw [cell_of_row _ _ _ _ _ _ h]; rfl⟩
set_option maxRecDepth 100000 in
set_option maxHeartbeats 2000000 in
theorem nested_any (w : World) (base p q N : Nat) (F G : List Nat) (a b : AS Int Int) (ha0 : CA w base F p N a) (hb0 : CA w base G q N b) (ap : Apart F G) (inc : Incl a b) (o : OP) (ho : OpOk o) (hN : N < 8796093022208) :
    Calls Try.prog 14 #[.pointer (some ⟨p, 0, none⟩), .pointer (some ⟨q, 0, none⟩), .agg (opL o).toArray] w fun e w' => e = .returned (.bool true) ∧ NR base p q N a b w w' := by
  have hHF : w.heap.size ∉ F := fun e => by have := (ha0.lt _ e).2; omega
  have hB1 : Below w.heap.size w (w.alloc (.cells (opL o).toArray 37)) := (Below.refl _ w).alloc (Nat.le_refl _) _
  have ha := ha0.below hB1
  have hb := hb0.below hB1
  have hr := hnew w (.cells (opL o).toArray 37)
  have hbs := ha0.base
  have hsz : w.heap.size < (w.alloc (.cells (opL o).toArray 37)).heap.size := by simp
  have hB2 : Below base w (w.alloc (.cells (opL o).toArray 37)) := hB1.mono hbs
  clear ha0 hb0 hB1 hbs
  obtain ⟨c0, c2, c3⟩ := op_row hr
  have HBW := hid hB2
  clear hB2
  by_cases k2 : o.kind = 2
  · skip
    have n2 : (o.kind == 2) = true := by simp; omega
    have inv := (fun v => inc.val hb.once (k := o.k) (v := v))
    have HX := hid (fun w2 (x : Nx base F p N (w.alloc (.cells (opL o).toArray 37)) (a.get o.k) w2) => nx_left ha hb ap x)
    have HRW := hid (fun w2 (x : Fr F (w.alloc (.cells (opL o).toArray 37)) w2) => op_row ((x.block _ hsz hHF).trans hr))
    have HG1 := hid (Get_any (w.alloc (.cells (opL o).toArray 37)) base F p N a ha o.k ho.2.2.1 (by omega))
    have HG2 := hid (fun w2 G2 (x : CA w2 base G2 q N b) => Get_any w2 base G2 q N b x o.k ho.2.2.1 (by omega))
    have HND := hid (fun w2 w3 F2 (x1 : CA w2 base F2 p (N + 1) (a.get o.k)) (x2 : CA w2 base G q N b) (x3 : Apart F2 G) (x4 : Below base (w.alloc (.cells (opL o).toArray 37)) w2) (x : Nx base G q N w2 (b.get o.k) w3) => (by
      obtain ⟨G3, y1, y2, y3, y4, y5⟩ := nx_right x1 x2 x3 x
      exact ⟨F2, G3, _, _, y1, y2, y3, inc.get hb.once o.k, get_room a o.k, get_room b o.k, (HBW.out.trans x4).trans y4⟩ : NR base p q N a b w w3))
    cases hv : a.val o.k with
    | none =>
      rw [hv] at HG1
      cases hv2 : b.val o.k with
      | none =>
        rw [hv2] at HG2
        clear inv ha hb inc ap ho hr hsz hHF hv hv2 k2
        simp only [argK, argV, Option.getD_none, Option.isSome_none, Option.getD_some, Option.isSome_some] at HG1 HG2
        go_enter Try.func14, Try.ntmps14
        go_wp2_with (first
          | (go_at_call 12; refine HG1.out.mono ?_; rintro e w2 ⟨rfl, hx⟩; obtain ⟨F2, x1, x2, x3, x4, x5⟩ := HX.out w2 hx; obtain ⟨d0, d2, d3⟩ := HRW.out w2 x5; have HG3 := hid (HG2.out w2 G x2); have HN3 := hid (fun w3 x => HND.out w2 w3 F2 x1 x2 x3 x4 x); clear HG1 HG2 HND HX HRW hx x1 x2 x3 x4 x5)
          | (go_at_call 12; refine HG3.out.mono ?_; rintro e w3 ⟨rfl, hx⟩; have HZ := hid (HN3.out w3 hx); clear hx HG3 HN3))
        go_ret
        exact ⟨rfl, HZ.out⟩
      | some z2 =>
        rw [hv2] at HG2
        clear inv ha hb inc ap ho hr hsz hHF hv hv2 k2
        simp only [argK, argV, Option.getD_none, Option.isSome_none, Option.getD_some, Option.isSome_some] at HG1 HG2
        go_enter Try.func14, Try.ntmps14
        go_wp2_with (first
          | (go_at_call 12; refine HG1.out.mono ?_; rintro e w2 ⟨rfl, hx⟩; obtain ⟨F2, x1, x2, x3, x4, x5⟩ := HX.out w2 hx; obtain ⟨d0, d2, d3⟩ := HRW.out w2 x5; have HG3 := hid (HG2.out w2 G x2); have HN3 := hid (fun w3 x => HND.out w2 w3 F2 x1 x2 x3 x4 x); clear HG1 HG2 HND HX HRW hx x1 x2 x3 x4 x5)
          | (go_at_call 12; refine HG3.out.mono ?_; rintro e w3 ⟨rfl, hx⟩; have HZ := hid (HN3.out w3 hx); clear hx HG3 HN3))
        go_ret
        exact ⟨rfl, HZ.out⟩
    | some z =>
      rw [hv] at HG1
      rw [inv _ hv] at HG2
      clear inv ha hb inc ap ho hr hsz hHF hv k2
      simp only [argK, argV, Option.getD_none, Option.isSome_none, Option.getD_some, Option.isSome_some] at HG1 HG2
      go_enter Try.func14, Try.ntmps14
      go_wp2_with (first
        | (go_at_call 12; refine HG1.out.mono ?_; rintro e w2 ⟨rfl, hx⟩; obtain ⟨F2, x1, x2, x3, x4, x5⟩ := HX.out w2 hx; obtain ⟨d0, d2, d3⟩ := HRW.out w2 x5; have HG3 := hid (HG2.out w2 G x2); have HN3 := hid (fun w3 x => HND.out w2 w3 F2 x1 x2 x3 x4 x); clear HG1 HG2 HND HX HRW hx x1 x2 x3 x4 x5)
        | (go_at_call 12; refine HG3.out.mono ?_; rintro e w3 ⟨rfl, hx⟩; have HZ := hid (HN3.out w3 hx); clear hx HG3 HN3))
      go_ret
      exact ⟨rfl, HZ.out⟩
  by_cases k3 : o.kind = 3
  · skip
    have n2 : (o.kind == 2) = false := by simp; omega
    have n3 : (o.kind == 3) = true := by simp; omega
    have HX := hid (fun w2 (x : Nx base F p N (w.alloc (.cells (opL o).toArray 37)) (a.put o.k o.v) w2) => nx_left ha hb ap x)
    have HRW := hid (fun w2 (x : Fr F (w.alloc (.cells (opL o).toArray 37)) w2) => op_row ((x.block _ hsz hHF).trans hr))
    have HG1 := hid (Put_any (w.alloc (.cells (opL o).toArray 37)) base F p N a ha o.k o.v ho.2.2.1 (by omega))
    have HG2 := hid (fun w2 G2 (x : CA w2 base G2 q N b) => Put_any w2 base G2 q N b x o.k o.v ho.2.2.1 (by omega))
    have HND := hid (fun w2 w3 F2 (x1 : CA w2 base F2 p (N + 1) (a.put o.k o.v)) (x2 : CA w2 base G q N b) (x3 : Apart F2 G) (x4 : Below base (w.alloc (.cells (opL o).toArray 37)) w2) (x : Nx base G q N w2 (b.put o.k o.v) w3) => (by
      obtain ⟨G3, y1, y2, y3, y4, y5⟩ := nx_right x1 x2 x3 x
      exact ⟨F2, G3, _, _, y1, y2, y3, inc.put o.k o.v, put_room a o.k o.v, put_room b o.k o.v, (HBW.out.trans x4).trans y4⟩ : NR base p q N a b w w3))
    clear ha hb inc ap ho hr hsz hHF k3
    try simp only [argK, argV] at HG1 HG2
    go_enter Try.func14, Try.ntmps14
    go_wp2_with (first
      | (go_at_call 9; refine HG1.out.mono ?_; rintro e w2 ⟨rfl, hx⟩; obtain ⟨F2, x1, x2, x3, x4, x5⟩ := HX.out w2 hx; obtain ⟨d0, d2, d3⟩ := HRW.out w2 x5; have HG3 := hid (HG2.out w2 G x2); have HN3 := hid (fun w3 x => HND.out w2 w3 F2 x1 x2 x3 x4 x); clear HG1 HG2 HND HX HRW hx x1 x2 x3 x4 x5)
      | (go_at_call 9; refine HG3.out.mono ?_; rintro e w3 ⟨rfl, hx⟩; have HZ := hid (HN3.out w3 hx); clear hx HG3 HN3))
    go_ret
    exact ⟨rfl, HZ.out⟩
  by_cases k4 : o.kind = 4
  · skip
    have n2 : (o.kind == 2) = false := by simp; omega
    have n3 : (o.kind == 3) = false := by simp; omega
    have n4 : (o.kind == 4) = true := by simp; omega
    have HX := hid (fun w2 (x : Nx base F p N (w.alloc (.cells (opL o).toArray 37)) (a.hold o.k o.v) w2) => nx_left ha hb ap x)
    have HRW := hid (fun w2 (x : Fr F (w.alloc (.cells (opL o).toArray 37)) w2) => op_row ((x.block _ hsz hHF).trans hr))
    have HG1 := hid (Hold_any (w.alloc (.cells (opL o).toArray 37)) base F p N a ha o.k o.v ho.2.2.1 (by omega))
    have HG2 := hid (fun w2 G2 (x : CA w2 base G2 q N b) => Hold_any w2 base G2 q N b x o.k o.v ho.2.2.1 (by omega))
    have HND := hid (fun w2 w3 F2 (x1 : CA w2 base F2 p (N + 1) (a.hold o.k o.v)) (x2 : CA w2 base G q N b) (x3 : Apart F2 G) (x4 : Below base (w.alloc (.cells (opL o).toArray 37)) w2) (x : Nx base G q N w2 (b.hold o.k o.v) w3) => (by
      obtain ⟨G3, y1, y2, y3, y4, y5⟩ := nx_right x1 x2 x3 x
      exact ⟨F2, G3, _, _, y1, y2, y3, inc.hold o.k o.v, hold_room a o.k o.v, hold_room b o.k o.v, (HBW.out.trans x4).trans y4⟩ : NR base p q N a b w w3))
    clear ha hb inc ap ho hr hsz hHF k4
    try simp only [argK, argV] at HG1 HG2
    go_enter Try.func14, Try.ntmps14
    go_wp2_with (first
      | (go_at_call 13; refine HG1.out.mono ?_; rintro e w2 ⟨rfl, hx⟩; obtain ⟨F2, x1, x2, x3, x4, x5⟩ := HX.out w2 hx; obtain ⟨d0, d2, d3⟩ := HRW.out w2 x5; have HG3 := hid (HG2.out w2 G x2); have HN3 := hid (fun w3 x => HND.out w2 w3 F2 x1 x2 x3 x4 x); clear HG1 HG2 HND HX HRW hx x1 x2 x3 x4 x5)
      | (go_at_call 13; refine HG3.out.mono ?_; rintro e w3 ⟨rfl, hx⟩; have HZ := hid (HN3.out w3 hx); clear hx HG3 HN3))
    go_ret
    exact ⟨rfl, HZ.out⟩
  by_cases k5 : o.kind = 5
  · skip
    have n2 : (o.kind == 2) = false := by simp; omega
    have n3 : (o.kind == 3) = false := by simp; omega
    have n4 : (o.kind == 4) = false := by simp; omega
    have n5 : (o.kind == 5) = true := by simp; omega
    have HX := hid (fun w2 (x : Nx base F p N (w.alloc (.cells (opL o).toArray 37)) a.settle w2) => nx_left ha hb ap x)
    have HRW := hid (fun w2 (x : Fr F (w.alloc (.cells (opL o).toArray 37)) w2) => op_row ((x.block _ hsz hHF).trans hr))
    have HG1 := hid (Settle_any (w.alloc (.cells (opL o).toArray 37)) base F p N a ha  (by omega))
    have HG2 := hid (fun w2 G2 (x : CA w2 base G2 q N b) => Settle_any w2 base G2 q N b x  (by omega))
    have HND := hid (fun w2 w3 F2 (x1 : CA w2 base F2 p (N + 1) a.settle) (x2 : CA w2 base G q N b) (x3 : Apart F2 G) (x4 : Below base (w.alloc (.cells (opL o).toArray 37)) w2) (x : Nx base G q N w2 b.settle w3) => (by
      obtain ⟨G3, y1, y2, y3, y4, y5⟩ := nx_right x1 x2 x3 x
      exact ⟨F2, G3, _, _, y1, y2, y3, inc.settle, rfl, rfl, (HBW.out.trans x4).trans y4⟩ : NR base p q N a b w w3))
    clear ha hb inc ap ho hr hsz hHF k5
    try simp only [argK, argV] at HG1 HG2
    go_enter Try.func14, Try.ntmps14
    go_wp2_with (first
      | (go_at_call 38; refine HG1.out.mono ?_; rintro e w2 ⟨rfl, hx⟩; obtain ⟨F2, x1, x2, x3, x4, x5⟩ := HX.out w2 hx; obtain ⟨d0, d2, d3⟩ := HRW.out w2 x5; have HG3 := hid (HG2.out w2 G x2); have HN3 := hid (fun w3 x => HND.out w2 w3 F2 x1 x2 x3 x4 x); clear HG1 HG2 HND HX HRW hx x1 x2 x3 x4 x5)
      | (go_at_call 38; refine HG3.out.mono ?_; rintro e w3 ⟨rfl, hx⟩; have HZ := hid (HN3.out w3 hx); clear hx HG3 HN3))
    go_ret
    exact ⟨rfl, HZ.out⟩
  by_cases k6 : o.kind = 6
  · skip
    have n2 : (o.kind == 2) = false := by simp; omega
    have n3 : (o.kind == 3) = false := by simp; omega
    have n4 : (o.kind == 4) = false := by simp; omega
    have n5 : (o.kind == 5) = false := by simp; omega
    have n6 : (o.kind == 6) = true := by simp; omega
    have HX := hid (fun w2 (x : Nx base F p N (w.alloc (.cells (opL o).toArray 37)) (a.release o.k.toNat) w2) => nx_left ha hb ap x)
    have HRW := hid (fun w2 (x : Fr F (w.alloc (.cells (opL o).toArray 37)) w2) => op_row ((x.block _ hsz hHF).trans hr))
    have HG1 := hid (Release_any (w.alloc (.cells (opL o).toArray 37)) base F p N a ha o.k (by omega))
    have HG2 := hid (fun w2 G2 (x : CA w2 base G2 q N b) => Release_any w2 base G2 q N b x o.k (by omega))
    have HND := hid (fun w2 w3 F2 (x1 : CA w2 base F2 p (N + 1) (a.release o.k.toNat)) (x2 : CA w2 base G q N b) (x3 : Apart F2 G) (x4 : Below base (w.alloc (.cells (opL o).toArray 37)) w2) (x : Nx base G q N w2 (b.release o.k.toNat) w3) => (by
      obtain ⟨G3, y1, y2, y3, y4, y5⟩ := nx_right x1 x2 x3 x
      exact ⟨F2, G3, _, _, y1, y2, y3, inc.release o.k.toNat, rfl, rfl, (HBW.out.trans x4).trans y4⟩ : NR base p q N a b w w3))
    clear ha hb inc ap ho hr hsz hHF k6
    try simp only [argK, argV] at HG1 HG2
    go_enter Try.func14, Try.ntmps14
    go_wp2_with (first
      | (go_at_call 39; refine HG1.out.mono ?_; rintro e w2 ⟨rfl, hx⟩; obtain ⟨F2, x1, x2, x3, x4, x5⟩ := HX.out w2 hx; obtain ⟨d0, d2, d3⟩ := HRW.out w2 x5; have HG3 := hid (HG2.out w2 G x2); have HN3 := hid (fun w3 x => HND.out w2 w3 F2 x1 x2 x3 x4 x); clear HG1 HG2 HND HX HRW hx x1 x2 x3 x4 x5)
      | (go_at_call 39; refine HG3.out.mono ?_; rintro e w3 ⟨rfl, hx⟩; have HZ := hid (HN3.out w3 hx); clear hx HG3 HN3))
    go_ret
    exact ⟨rfl, HZ.out⟩
  by_cases k7 : o.kind = 7
  · skip
    have n2 : (o.kind == 2) = false := by simp; omega
    have n3 : (o.kind == 3) = false := by simp; omega
    have n4 : (o.kind == 4) = false := by simp; omega
    have n5 : (o.kind == 5) = false := by simp; omega
    have n6 : (o.kind == 6) = false := by simp; omega
    have n7 : (o.kind == 7) = true := by simp; omega
    have HG1 := hid (Keys_any (w.alloc (.cells (opL o).toArray 37)) base F p N a ha (by omega))
    have HG2 := hid (fun w2 (x : Below (w.alloc (.cells (opL o).toArray 37)).heap.size (w.alloc (.cells (opL o).toArray 37)) w2) => Keys_any w2 base G q N b (hb.below x) (by omega))
    have HND := hid (fun w2 (x : Below (w.alloc (.cells (opL o).toArray 37)).heap.size (w.alloc (.cells (opL o).toArray 37)) w2) => (⟨F, G, a, b, (ha.below x).mono (by omega), (hb.below x).mono (by omega), ap, inc, rfl, rfl, HBW.out.trans (x.mono ha.base)⟩ : NR base p q N a b w w2))
    have HWI := hid (fun w2 sp sq c d (x : SrcI w2 sp (a.clean.map (·.1))) (y : SrcI w2 sq (b.clean.map (·.1))) => within_yes w2 _ _ sp sq c d x y (fun z hz => by
      obtain ⟨e, he, rfl⟩ := List.mem_map.1 hz
      exact List.mem_map.2 ⟨e, inc.sub.subset he, rfl⟩))
    clear ha hb inc ap ho hr hsz hHF k7
    generalize a.clean.map (·.1) = la at *
    generalize b.clean.map (·.1) = lb at *
    go_enter Try.func14, Try.ntmps14
    go_wp2_with (first
      | (go_at_call 11; refine HG1.out.mono ?_; rintro e w2 ⟨v2, rfl, hO2, hb2⟩; obtain ⟨sp2, cp2, ef, hs2⟩ := hO2.src; rw [ef]; have HS2 := hid hs2; have HB2 := hid hb2; have HG3 := hid (HG2.out w2 hb2); clear HG1 HG2 hO2 hs2 hb2 ef)
      | (go_at_call 11; refine HG3.out.mono ?_; rintro e w3 ⟨v3, rfl, hO3, hb3⟩; obtain ⟨sp3, cp3, eg, hs3⟩ := hO3.src; rw [eg]; have HS3 := hid hs3; have HB3 := hid (HB2.out.trans (hb3.mono HB2.out.size)); have HG4 := hid (HWI.out w3 sp2 sp3 cp2 cp3 (HS2.out.below hb3) hs3); clear HG3 hO3 hs3 hb3 eg HS2 HWI)
      | (go_at_call 15; refine HG4.out.mono ?_; rintro e w4 ⟨rfl, hb4⟩; have HZ := hid (HND.out w4 (HB3.out.trans (hb4.mono HB3.out.size))); clear HG4 hb4 HND))
    go_ret
    exact ⟨rfl, HZ.out⟩
  by_cases k8 : o.kind = 8
  · skip
    have n2 : (o.kind == 2) = false := by simp; omega
    have n3 : (o.kind == 3) = false := by simp; omega
    have n4 : (o.kind == 4) = false := by simp; omega
    have n5 : (o.kind == 5) = false := by simp; omega
    have n6 : (o.kind == 6) = false := by simp; omega
    have n7 : (o.kind == 7) = false := by simp; omega
    have n8 : (o.kind == 8) = true := by simp; omega
    have HG1 := hid (Held_any (w.alloc (.cells (opL o).toArray 37)) base F p N a ha (by omega))
    have HG2 := hid (fun w2 (x : Below (w.alloc (.cells (opL o).toArray 37)).heap.size (w.alloc (.cells (opL o).toArray 37)) w2) => Held_any w2 base G q N b (hb.below x) (by omega))
    have HND := hid (fun w2 (x : Below (w.alloc (.cells (opL o).toArray 37)).heap.size (w.alloc (.cells (opL o).toArray 37)) w2) => (⟨F, G, a, b, (ha.below x).mono (by omega), (hb.below x).mono (by omega), ap, inc, rfl, rfl, HBW.out.trans (x.mono ha.base)⟩ : NR base p q N a b w w2))
    have HWI := hid (fun w2 sp sq c d (x : SrcI w2 sp (a.held.map (·.1))) (y : SrcI w2 sq (b.held.map (·.1))) => (by
      have := same_any w2 _ _ sp sq c d x y
      rw [decide_eq_true (by rw [inc.held])] at this
      exact this : Calls Try.prog 16 #[.slice sp (a.held.map (·.1)).length c, .slice sq (b.held.map (·.1)).length d] w2 fun e w' => e = .returned (.bool true) ∧ Below w2.heap.size w2 w'))
    clear ha hb inc ap ho hr hsz hHF k8
    generalize a.held.map (·.1) = la at *
    generalize b.held.map (·.1) = lb at *
    go_enter Try.func14, Try.ntmps14
    go_wp2_with (first
      | (go_at_call 17; refine HG1.out.mono ?_; rintro e w2 ⟨v2, rfl, hO2, hb2⟩; obtain ⟨sp2, cp2, ef, hs2⟩ := hO2.src; rw [ef]; have HS2 := hid hs2; have HB2 := hid hb2; have HG3 := hid (HG2.out w2 hb2); clear HG1 HG2 hO2 hs2 hb2 ef)
      | (go_at_call 17; refine HG3.out.mono ?_; rintro e w3 ⟨v3, rfl, hO3, hb3⟩; obtain ⟨sp3, cp3, eg, hs3⟩ := hO3.src; rw [eg]; have HS3 := hid hs3; have HB3 := hid (HB2.out.trans (hb3.mono HB2.out.size)); have HG4 := hid (HWI.out w3 sp2 sp3 cp2 cp3 (HS2.out.below hb3) hs3); clear HG3 hO3 hs3 hb3 eg HS2 HWI)
      | (go_at_call 16; refine HG4.out.mono ?_; rintro e w4 ⟨rfl, hb4⟩; have HZ := hid (HND.out w4 (HB3.out.trans (hb4.mono HB3.out.size))); clear HG4 hb4 HND))
    go_ret
    exact ⟨rfl, HZ.out⟩
  have n2 : (o.kind == 2) = false := by simp; omega
  have n3 : (o.kind == 3) = false := by simp; omega
  have n4 : (o.kind == 4) = false := by simp; omega
  have n5 : (o.kind == 5) = false := by simp; omega
  have n6 : (o.kind == 6) = false := by simp; omega
  have n7 : (o.kind == 7) = false := by simp; omega
  have n8 : (o.kind == 8) = false := by simp; omega
  have HZ := hid (⟨F, G, a, b, ha.mono (by omega), hb.mono (by omega), ap, inc, rfl, rfl, HBW.out⟩ : NR base p q N a b w (w.alloc (.cells (opL o).toArray 37)))
  clear ha hb inc ap ho hr hsz hHF k2 k3 k4 k5 k6 k7 k8
  go_enter Try.func14, Try.ntmps14
  go_wp2_with (first | fail)
  go_ret
  exact ⟨rfl, by exact HZ.out⟩
end Go.Proofs.Ytbpamknebjdicaa
