import Derived.Test.YtbjahdbmkcamoaaGreatDoorNl
namespace Go.Proofs.YtbjahdbmkcamoaaGreatDoor
set_option linter.unusedVariables false
set_option linter.unusedSimpArgs false
open Go.RowKit
attribute [local go_sem ↓] Go.wp_at_zero Go.wp_at_succ

theorem own_ne {w : World} {base g : Nat} {v : Value} {zs : List Int} {cs : Array Value} {t : Nat} {fr : Nat × Nat} (h : Own w base v zs) (hg : w.heap[g]? = some (.cells cs t fr)) (ht : t ≠ 5) : ∀ k, v.ownBlock = some k → k ≠ g := fun k hk e => by
  obtain ⟨_, cur, hh⟩ := ownsRow_block h k hk
  subst e
  rw [hg] at hh
  simp only [Option.some.injEq, Obj.cells.injEq] at hh
  exact ht hh.2.1
theorem ownD_ne {w : World} {base g : Nat} {v : Value} {ss : List (List Int)} {cs : Array Value} {t : Nat} {fr : Nat × Nat} (h : OwnD w base v ss) (hg : w.heap[g]? = some (.cells cs t fr)) (ht : t ≠ 28) : ∀ k, v.ownBlock = some k → k ≠ g := fun k hk e => by
  obtain ⟨_, cur, hh⟩ := ownsRow_block h.2 k hk
  subst e
  rw [hg] at hh
  simp only [Option.some.injEq, Obj.cells.injEq] at hh
  exact ht hh.2.1
/-- Two own lists, of bytes and of digests, lie in two blocks. -/
theorem own_apart {w : World} {b1 b2 : Nat} {v u : Value} {zs : List Int} {ss : List (List Int)} (h : Own w b1 v zs) (g : OwnD w b2 u ss) : ∀ k, v.ownBlock = some k → u.ownBlock ≠ some k := fun k hk e => by
  obtain ⟨_, cur, hh⟩ := ownsRow_block h k hk
  exact ownD_ne g hh (by decide) k e rfl
theorem key_eq (k y : List Int) (hk : k.length = 32) (hy : y.length = 32) (w : World) : (Op.equalIn 10000 24 (.agg (ints .u8 k).toArray) (.agg (ints .u8 y).toArray)).run Tryz.prog w = .ok (decide (k = y)) w :=
  equalIn_ints Tryz.underlying24 Tryz.underlying5 Tryz.size5 .u8 k y hk hy w
theorem keyGuard : Tryz.prog.eqGuardType Tryz.prog.depth 24 = false := by kernel_rfl
/-- What holds between the rounds of ProveWith: the key, the answer's place, the proof so far. -/
structure PvI (w wr : World) (ks : List Int) (p : Pf) (s1 s2 : Option Addr) (c1 c2 : Nat) : Prop where
  rk : wr.heap[w.heap.size]? = some (.cells (ints .u8 ks).toArray 24 (0, 0))
  rz : wr.heap[w.heap.size + 1]? = some (.cells (pfC pf0 (.slice none 0 0) (.slice none 0 0)).toArray 52 (0, 0))
  rp : wr.heap[w.heap.size + 1 + 1]? = some (.cells (pfC p (.slice s1 p.vs.length c1) (.slice s2 p.ss.length c2)).toArray 52 (0, 0))
  ov : Own wr w.heap.size (.slice s1 p.vs.length c1) p.vs
  od : OwnD wr w.heap.size (.slice s2 p.ss.length c2) p.ss
  be : Below w.heap.size w wr
theorem PvI.step {w wr w1 : World} {ks : List Int} {p : Pf} {s1 s2 : Option Addr} {c1 c2 : Nat} (h : PvI w wr ks p s1 s2 c1 c2) (hb : Below wr.heap.size wr w1) : PvI w w1 ks p s1 s2 c1 c2 :=
  ⟨hbel hb h.rk (hlt h.rk), hbel hb h.rz (hlt h.rz), hbel hb h.rp (hlt h.rp), h.ov.below hb (Nat.le_refl _), h.od.below hb (Nat.le_refl _), h.be.trans (hb.mono h.be.size)⟩
/-- likewise, with what came of a world before. -/
structure PvJ (w w0 wr : World) (ks : List Int) (p : Pf) (s1 s2 : Option Addr) (c1 c2 : Nat) : Prop extends PvI w wr ks p s1 s2 c1 c2 where
  be2 : Below w0.heap.size w0 wr
theorem PvJ.drew {w wr : World} {ks : List Int} {p : Pf} {s1 s2 : Option Addr} {c1 c2 : Nat} (h : PvI w wr ks p s1 s2 c1 c2) : PvJ w wr wr.drew ks p s1 s2 c1 c2 :=
  ⟨h.step (Below.refl _ _).drew, (Below.refl _ _).drew⟩
/-- the proof's own block is written anew, as a whole. -/
theorem PvI.setv {w wr : World} {ks : List Int} {p q : Pf} {s1 s2 s3 : Option Addr} {c1 c2 c3 : Nat} (h : PvI w wr ks p s1 s2 c1 c2) (ho : Own wr w.heap.size (.slice s3 q.vs.length c3) q.vs) (hs : q.ss = p.ss) (C : List Value) (hC : C = pfC q (.slice s3 q.vs.length c3) (.slice s2 q.ss.length c2)) : PvI w (wr.setRow (w.heap.size + 1 + 1) C.toArray) ks q s3 s2 c3 c2 := by
  subst hC
  refine ⟨(setRow_other _ _ _ _ (by omega)).trans h.rk, (setRow_other _ _ _ _ (by omega)).trans h.rz, setRow_heap _ _ _ _ _ _ h.rp, ho.of_heap fun k hk => setRow_other _ _ _ _ (own_ne ho h.rp (by decide) k hk), ?_, below_setRow h.be (by omega) _⟩
  rw [hs]
  exact h.od.of_heap fun k hk => setRow_other _ _ _ _ (ownD_ne h.od h.rp (by decide) k hk)
/-- set has answered with one sum more, and its answer is stored. -/
theorem PvI.setm {w wr w1 : World} {ks : List Int} {p q : Pf} {s1 s2 s3 : Option Addr} {c1 c2 c3 : Nat} (h : PvI w wr ks p s1 s2 c1 c2) (hv : q.vs = p.vs) (ho : OwnD w1 w.heap.size (.slice s3 q.ss.length c3) q.ss) (hb : Below w.heap.size wr w1) (hf : ∀ x, x < wr.heap.size → (Value.slice s2 p.ss.length c2).ownBlock ≠ some x → w1.heap[x]? = wr.heap[x]?) (C : List Value) (hC : C = pfC q (.slice s1 q.vs.length c1) (.slice s3 q.ss.length c3)) :
    PvI w (w1.setRow (w.heap.size + 1 + 1) C.toArray) ks q s1 s3 c1 c3 ∧ w1.heap[w.heap.size + 1 + 1]? = some (.cells (pfC p (.slice s1 p.vs.length c1) (.slice s2 p.ss.length c2)).toArray 52 (0, 0)) := by
  subst hC
  have rp1 := (hf _ (hlt h.rp) (fun e => ownD_ne h.od h.rp (by decide) _ e rfl)).trans h.rp
  have ov1 : Own w1 w.heap.size (.slice s1 p.vs.length c1) p.vs := h.ov.of_heap fun x hx => hf x (h.ov.block x hx).2 (own_apart h.ov h.od x hx)
  refine ⟨⟨(setRow_other _ _ _ _ (by omega)).trans ((hf _ (hlt h.rk) (fun e => ownD_ne h.od h.rk (by decide) _ e rfl)).trans h.rk), (setRow_other _ _ _ _ (by omega)).trans ((hf _ (hlt h.rz) (fun e => ownD_ne h.od h.rz (by decide) _ e rfl)).trans h.rz), setRow_heap _ _ _ _ _ _ rp1, ?_, ho.of_heap fun x hx => setRow_other _ _ _ _ (ownD_ne ho rp1 (by decide) x hx), below_setRow (h.be.trans hb) (by omega) _⟩, rp1⟩
  rw [hv]
  exact ov1.of_heap fun x hx => setRow_other _ _ _ _ (own_ne ov1 rp1 (by decide) x hx)
set_option maxRecDepth 100000 in
set_option maxHeartbeats 4000000 in
theorem zproveWith_any (w : World) (hG : Gb w) (k : Int) (ge ce : Nat) (hgw : ge < w.heap.size) (hR : ∀ i, i < 257 → w.rangeAt ge (i * 32) (ints .u8 (emptyD k i))) (hce : (ce : Int) ≤ 9223372036854775807) (m : List EnM) (hm : MapVs m) (nd : (m.map EnM.k).Nodup) (hN : m.length ≤ 1000000) (sp : Option Addr) (cap : Nat) (hS : SrcE w sp cap m) (ks : List Int) (hk : ks.length = 32) (hy : Bys ks) :
    Calls Tryz.prog 36 #[.slice (some ⟨ge, 0, none⟩) 257 ce, .int .i64 k, .slice sp m.length cap, .agg (ints .u8 ks).toArray] w fun e w' => ∃ s1 c1 s2 c2, e = .returned (.agg (pfC (proofM k m ks) (.slice s1 (proofM k m ks).vs.length c1) (.slice s2 (proofM k m ks).ss.length c2)).toArray) ∧ Own w' w.heap.size (.slice s1 (proofM k m ks).vs.length c1) (proofM k m ks).vs ∧ OwnD w' w.heap.size (.slice s2 (proofM k m ks).ss.length c2) (proofM k m ks).ss ∧ Below w.heap.size w w' := by
  have AP := hid allocPf
  have AD := hid allocDg
  rw [show proofM k m ks = pfT k (lookM m ks).isSome ((lookM m ks).getD []) (fun h => tD k h (nbs m ks h)) 256 from (pfT_all _ _ _ _).symm]
  have NBl := hid (fun h => show ((fun h => tD k h (nbs m ks h)) h).length = 32 from tD_len k h _)
  have NBe := hid (fun h => show (fun h => tD k h (nbs m ks h)) h = tD k h (nbs m ks h) from rfl)
  generalize (fun h => tD k h (nbs m ks h)) = nb at *
  have i0 : (m.length : Int) ≤ 1000000 := by omega
  have d0 := (((BK.nil w).alloc (ints .u8 ks) 24).alloc (pfC pf0 (.slice none 0 0) (.slice none 0 0)) 52).alloc (pfC pf0 (.slice none 0 0) (.slice none 0 0)) 52
  rw [show ((w.alloc (.cells (ints .u8 ks).toArray 24)).alloc (.cells (pfC pf0 (.slice none 0 0) (.slice none 0 0)).toArray 52)).heap.size = w.heap.size + 1 + 1 by simp, show (w.alloc (.cells (ints .u8 ks).toArray 24)).heap.size = w.heap.size + 1 by simp] at d0
  have I0 := hid (show PvI w _ ks ⟨(lookM (m.take 0) ks).isSome, (lookM (m.take 0) ks).getD [], List.replicate 32 0, []⟩ none none 0 0 from ⟨d0.row (.tail _ (.tail _ (.head _))), d0.row (.tail _ (.head _)), d0.row (.head _), Own.nil _ _, OwnD.nil _ _, d0.1⟩)
  have LK := hid (show (Tryz.prog.info? 24).map (·.size) = some (ints .u8 ks).length by rw [Tryz.sizeKy, ints_len, hk])
  have gK := keyGuard
  clear d0
  generalize hZ0 : pfC pf0 (.slice none 0 0) (.slice none 0 0) = Z at *
  clear hZ0
  go_enter Tryz.func36, Tryz.ntmps36
  go_wp2_with (first | refine wpList_allocV AP.out rfl rfl ?_)
  generalize World.alloc _ (.cells Z.toArray 52) = w1 at *
  go_loopw [10] (fun iv wr => ∃ i : Nat, i ≤ m.length ∧ iv = .int .i64 i ∧ ∃ s1 c1, PvI w wr ks ⟨(lookM (m.take i) ks).isSome, (lookM (m.take i) ks).getD [], List.replicate 32 0, []⟩ s1 none c1 0) (fun iv _ => m.length - (intOf iv).toNat)
  case atStart => exact ⟨0, by omega, rfl, none, 0, I0.out⟩
  case round =>
    clear I0
    obtain ⟨i, hi, rfl, s1, c1, hI⟩ := hrel
    by_cases hlt' : i < m.length
    · have i1 : (i : Int) < (m.length : Int) := by omega
      obtain ⟨b, o, M, rfl, hbl0, hr0, hsM⟩ := hS.at i hlt'
      have hr := rng_below hr0 hI.be hbl0
      have hbl := Nat.lt_of_lt_of_le hbl0 hI.be.size
      obtain ⟨⟨hl, hyb⟩, hvl⟩ := hm.ok _ (gD_mem m dE i hlt')
      have hrk := rng_key hr hsM
      have LE := hid (show (Tryz.prog.info? 24).map (·.size) = some (ints .u8 (m.getD i dE).k).length by rw [Tryz.sizeKy, ints_len, hl])
      have HL := hid (look_snoc nd ks i hlt')
      have QE := hid (fun w1 => key_eq (m.getD i dE).k ks hl hk w1)
      obtain ⟨sv, cv, eM, hnv, hSv⟩ := hsM.2.2
      have cval := cell_val hr0 hsM
      rw [eM] at cval
      have KY := hid (fun w2 (b2 : Below w.heap.size w w2) => zbytes_any w2 (m.getD i dE).v sv cv (hSv.below b2 (Nat.le_refl _)) (by omega))
      generalize hEe : m.getD i dE = E at *
      clear hEe
      by_cases hq : E.k = ks
      · have qE : ∀ w1, (Op.equalIn 10000 24 (.agg (ints .u8 E.k).toArray) (.agg (ints .u8 ks).toArray)).run Tryz.prog w1 = .ok true w1 := fun w1 => by rw [QE.out, decide_eq_true hq]
        rw [if_pos hq] at HL
        have HI := hid hI
        clear QE hq hI
        go_wp2_with fail
        refine wp_region_noPanic ?_
        refine wp_region_held_drew (S := (fun w' => PvJ w wr w' ks ⟨(lookM (m.take i) ks).isSome, (lookM (m.take i) ks).getD [], List.replicate 32 0, []⟩ s1 none c1 0)) (by kernel_rfl) (PvJ.drew HI.out) (fun hHeld => ?_)
        refine wpAnyH_take (i := 0) (oi := { dst := some 20, op := Op.move (Operand.tmp 2), type := 26, pos := "ref.go:90", after := #[], guard := none }) (v := .slice (some ⟨b, o, none⟩) m.length cap) rfl (by kernel_rfl) (by kernel_rfl) (by kernel_rfl) (fun _ _ _ h => h) (Or.inl ⟨by rfl, by intro w hS; go_simp⟩) hHeld ?_
        try simp only [Act.put, List.setIfInBounds_toArray, List.set_cons_zero, List.set_cons_succ]
        refine wpAnyH_take (i := 1) (oi := { dst := some 21, op := Op.move (Operand.tmp 10), type := 3, pos := "ref.go:90", after := #[], guard := none }) (v := .int .i64 i) rfl (by kernel_rfl) (by kernel_rfl) (by kernel_rfl) (fun _ _ _ h => h) (Or.inl ⟨by rfl, by intro w hS; go_simp⟩) hHeld ?_
        try simp only [Act.put, List.setIfInBounds_toArray, List.set_cons_zero, List.set_cons_succ]
        refine wpAnyH_take (i := 5) (oi := { dst := some 25, op := Op.load 24 (Operand.tmp 7), type := 24, pos := "ref.go:90", after := #[], guard := none }) (v := .agg (ints .u8 ks).toArray) rfl (by kernel_rfl) (by kernel_rfl) (by kernel_rfl) (fun _ _ _ h => h) (yieldsIf_load_mid (by rfl) 24 _ rfl w.heap.size (0) rfl (ints .u8 ks) _ (fun w hS => rng hS.rk) Tryz.underlying24 rfl LK.out) hHeld ?_
        try simp only [Act.put, List.setIfInBounds_toArray, List.set_cons_zero, List.set_cons_succ]
        refine wpAnyH_take (i := 2) (oi := { dst := some 22, op := Op.indexAddr 26 (Operand.tmp 20) (Operand.tmp 21), type := 0, pos := "ref.go:90", after := #[{ on := 0, ground := Ground.data }, { on := 1, ground := Ground.data }], guard := none }) (v := .pointer (some ⟨b, o + i * 33, none⟩)) rfl (by kernel_rfl) (by kernel_rfl) (by kernel_rfl) (fun _ _ _ h => h) (Or.inl ⟨by rfl, by intro w hS; go_simp⟩) hHeld ?_
        try simp only [Act.put, List.setIfInBounds_toArray, List.set_cons_zero, List.set_cons_succ]
        refine wpAnyH_take (i := 3) (oi := { dst := some 23, op := Op.fieldAddr 67 (Operand.tmp 22) 0, type := 0, pos := "ref.go:90", after := #[{ on := 2, ground := Ground.data }], guard := none }) (v := .pointer (some ⟨b, o + i * 33, none⟩)) rfl (by kernel_rfl) (by kernel_rfl) (by kernel_rfl) (fun _ _ _ h => h) (Or.inl ⟨by rfl, by intro w hS; go_simp⟩) hHeld ?_
        try simp only [Act.put, List.setIfInBounds_toArray, List.set_cons_zero, List.set_cons_succ]
        refine wpAnyH_take (i := 4) (oi := { dst := some 24, op := Op.load 24 (Operand.tmp 23), type := 24, pos := "ref.go:90", after := #[{ on := 3, ground := Ground.data }], guard := none }) (v := .agg (ints .u8 E.k).toArray) rfl (by kernel_rfl) (by kernel_rfl) (by kernel_rfl) (fun _ _ _ h => h) (yieldsIf_load_mid (by rfl) 24 _ rfl b (o + i * 33) rfl (ints .u8 E.k) _ (fun w hS => rng_below hrk hS.be2 hbl) Tryz.underlying24 rfl LE.out) hHeld ?_
        try simp only [Act.put, List.setIfInBounds_toArray, List.set_cons_zero, List.set_cons_succ]
        refine wpAnyH_take (i := 6) (oi := { dst := some 26, op := Op.binOp BinOp.eql 24 (Operand.tmp 24) (Operand.tmp 25) 24, type := 4, pos := "ref.go:90", after := #[{ on := 4, ground := Ground.data }, { on := 5, ground := Ground.data }], guard := none }) (v := .bool true) rfl (by kernel_rfl) (by kernel_rfl) (by kernel_rfl) (fun _ _ _ h => h) (Or.inl ⟨by rfl, by intro w hS; go_simp⟩) hHeld ?_
        try simp only [Act.put, List.setIfInBounds_toArray, List.set_cons_zero, List.set_cons_succ]
        refine wpAnyH_done (by kernel_rfl) ?_ _
        refine NoPanic.normal ?_
        obtain ⟨hJ, hb2⟩ := hHeld
        generalize World.drew _ = w3 at *
        clear HI hb2
        have rp := hJ.rp
        generalize hC0 : pfC _ _ _ = C0 at rp
        have hI4 := hJ.setv (q := ⟨true, (lookM (m.take i) ks).getD [], List.replicate 32 0, []⟩) hJ.ov rfl (C0.set 0 (.bool true)) (by rw [← hC0]; rfl)
        have hl0 : 0 < C0.length := by rw [← hC0]; simp [pfC]
        clear hC0
        go_wp2_with (first | (refine wpList_storeC rfl 4 _ _ rfl (w.heap.size + 1 + 1) 0 (.bool true) rfl rfl C0 _ rp hl0 (by kernel_rfl) rfl rfl ?_; refine Hid.out ?_))
        refine hid ?_
        generalize w3.setRow (w.heap.size + 1 + 1) (C0.set 0 (.bool true)).toArray = w4 at *
        clear rp hJ
        have cv4 := (hI4.be.cell (p := ⟨b, o + i * 33 + 32, none⟩) hbl0).trans cval
        have K1 := hid (KY.out w4 hI4.be)
        go_wp2_with (first | (refine K1.out.mono ?_; rintro e w5 ⟨v5, rfl, hO5, hb5⟩; refine Hid.out ?_))
        refine hid ?_
        obtain ⟨s5, c5, rfl, _, _⟩ := hO5.form
        have hI5 := hI4.step hb5
        have hO5w := own_lower hO5 hI4.be.size
        have rp5 := hI5.rp
        generalize hC5 : pfC _ _ _ = C5 at rp5
        have hI6 := hI5.setv (q := ⟨true, E.v, List.replicate 32 0, []⟩) hO5w rfl (C5.set 1 (.slice s5 E.v.length c5)) (by rw [← hC5]; rfl)
        have hl1 : 1 < C5.length := by rw [← hC5]; simp [pfC]
        clear hC5
        clear K1 hI4 hO5
        go_wp2_with (first | (refine wpList_storeC rfl 30 _ _ rfl (w.heap.size + 1 + 1) 1 (.slice s5 E.v.length c5) rfl rfl C5 _ rp5 hl1 (by kernel_rfl) rfl rfl ?_; refine Hid.out ?_))
        refine hid ?_
        generalize w5.setRow (w.heap.size + 1 + 1) (C5.set 1 (.slice s5 E.v.length c5)).toArray = w6 at *
        clear rp5 hI5
        have HJ := hid hI6
        clear hI6
        go_wp2_with fail
        go_roundw
        case rel => exact ⟨i + 1, by omega, by go_num, s5, c5, by rw [HL.out]; exact HJ.out⟩
        case measure => simp [intOf]; omega
      · have qE : ∀ w1, (Op.equalIn 10000 24 (.agg (ints .u8 E.k).toArray) (.agg (ints .u8 ks).toArray)).run Tryz.prog w1 = .ok false w1 := fun w1 => by rw [QE.out, decide_eq_false hq]
        rw [if_neg hq] at HL
        have HI := hid hI
        clear QE hq hI
        go_wp2_with fail
        refine wp_region_noPanic ?_
        refine wp_region_held_drew (S := (fun w' => PvJ w wr w' ks ⟨(lookM (m.take i) ks).isSome, (lookM (m.take i) ks).getD [], List.replicate 32 0, []⟩ s1 none c1 0)) (by kernel_rfl) (PvJ.drew HI.out) (fun hHeld => ?_)
        refine wpAnyH_take (i := 0) (oi := { dst := some 20, op := Op.move (Operand.tmp 2), type := 26, pos := "ref.go:90", after := #[], guard := none }) (v := .slice (some ⟨b, o, none⟩) m.length cap) rfl (by kernel_rfl) (by kernel_rfl) (by kernel_rfl) (fun _ _ _ h => h) (Or.inl ⟨by rfl, by intro w hS; go_simp⟩) hHeld ?_
        try simp only [Act.put, List.setIfInBounds_toArray, List.set_cons_zero, List.set_cons_succ]
        refine wpAnyH_take (i := 1) (oi := { dst := some 21, op := Op.move (Operand.tmp 10), type := 3, pos := "ref.go:90", after := #[], guard := none }) (v := .int .i64 i) rfl (by kernel_rfl) (by kernel_rfl) (by kernel_rfl) (fun _ _ _ h => h) (Or.inl ⟨by rfl, by intro w hS; go_simp⟩) hHeld ?_
        try simp only [Act.put, List.setIfInBounds_toArray, List.set_cons_zero, List.set_cons_succ]
        refine wpAnyH_take (i := 5) (oi := { dst := some 25, op := Op.load 24 (Operand.tmp 7), type := 24, pos := "ref.go:90", after := #[], guard := none }) (v := .agg (ints .u8 ks).toArray) rfl (by kernel_rfl) (by kernel_rfl) (by kernel_rfl) (fun _ _ _ h => h) (yieldsIf_load_mid (by rfl) 24 _ rfl w.heap.size (0) rfl (ints .u8 ks) _ (fun w hS => rng hS.rk) Tryz.underlying24 rfl LK.out) hHeld ?_
        try simp only [Act.put, List.setIfInBounds_toArray, List.set_cons_zero, List.set_cons_succ]
        refine wpAnyH_take (i := 2) (oi := { dst := some 22, op := Op.indexAddr 26 (Operand.tmp 20) (Operand.tmp 21), type := 0, pos := "ref.go:90", after := #[{ on := 0, ground := Ground.data }, { on := 1, ground := Ground.data }], guard := none }) (v := .pointer (some ⟨b, o + i * 33, none⟩)) rfl (by kernel_rfl) (by kernel_rfl) (by kernel_rfl) (fun _ _ _ h => h) (Or.inl ⟨by rfl, by intro w hS; go_simp⟩) hHeld ?_
        try simp only [Act.put, List.setIfInBounds_toArray, List.set_cons_zero, List.set_cons_succ]
        refine wpAnyH_take (i := 3) (oi := { dst := some 23, op := Op.fieldAddr 67 (Operand.tmp 22) 0, type := 0, pos := "ref.go:90", after := #[{ on := 2, ground := Ground.data }], guard := none }) (v := .pointer (some ⟨b, o + i * 33, none⟩)) rfl (by kernel_rfl) (by kernel_rfl) (by kernel_rfl) (fun _ _ _ h => h) (Or.inl ⟨by rfl, by intro w hS; go_simp⟩) hHeld ?_
        try simp only [Act.put, List.setIfInBounds_toArray, List.set_cons_zero, List.set_cons_succ]
        refine wpAnyH_take (i := 4) (oi := { dst := some 24, op := Op.load 24 (Operand.tmp 23), type := 24, pos := "ref.go:90", after := #[{ on := 3, ground := Ground.data }], guard := none }) (v := .agg (ints .u8 E.k).toArray) rfl (by kernel_rfl) (by kernel_rfl) (by kernel_rfl) (fun _ _ _ h => h) (yieldsIf_load_mid (by rfl) 24 _ rfl b (o + i * 33) rfl (ints .u8 E.k) _ (fun w hS => rng_below hrk hS.be2 hbl) Tryz.underlying24 rfl LE.out) hHeld ?_
        try simp only [Act.put, List.setIfInBounds_toArray, List.set_cons_zero, List.set_cons_succ]
        refine wpAnyH_take (i := 6) (oi := { dst := some 26, op := Op.binOp BinOp.eql 24 (Operand.tmp 24) (Operand.tmp 25) 24, type := 4, pos := "ref.go:90", after := #[{ on := 4, ground := Ground.data }, { on := 5, ground := Ground.data }], guard := none }) (v := .bool false) rfl (by kernel_rfl) (by kernel_rfl) (by kernel_rfl) (fun _ _ _ h => h) (Or.inl ⟨by rfl, by intro w hS; go_simp⟩) hHeld ?_
        try simp only [Act.put, List.setIfInBounds_toArray, List.set_cons_zero, List.set_cons_succ]
        refine wpAnyH_done (by kernel_rfl) ?_ _
        refine NoPanic.normal ?_
        have HJ := hid hHeld.toPvI
        clear hHeld HI
        go_wp2_with fail
        go_roundw
        case rel => exact ⟨i + 1, by omega, by go_num, s1, c1, by rw [HL.out]; exact HJ.out⟩
        case measure => simp [intOf]; omega
    · obtain rfl : i = m.length := by omega
      rw [List.take_length] at hI
      have hI2 : PvI w wr ks (pfT k (lookM m ks).isSome ((lookM m ks).getD []) nb 0) s1 none c1 0 := by rw [pfT_zero]; exact hI
      clear hI
      generalize hF : (lookM m ks).isSome = f at *
      generalize hVs : (lookM m ks).getD [] = vs at *
      have HF := hid hF
      have HVs := hid hVs
      clear hF hVs
      have LKs := hid (show (Tryz.prog.info? 24).map (·.size) = some (ints .u8 ks).toArray.size by rw [Tryz.sizeKy, List.size_toArray, ints_len, hk])
      have LZ2 := hid (show (ints .u8 zB).length = 32 from rfl)
      have LPf := hid (fun h v u => pfC_len (pfT_ok k f vs nb NBl.out h) v u)
      have HI2 := hid hI2
      clear hI2
      go_wp2_with fail
      go_loopw [11, 12, 13] (fun hv _ _ wr => ∃ h : Nat, h ≤ 256 ∧ hv = .int .i64 h ∧ ∃ s1 c1 s2 c2, PvI w wr ks (pfT k f vs nb h) s1 s2 c1 c2) (fun hv _ _ _ => 256 - (intOf hv).toNat)
      case atStart => exact ⟨0, by omega, rfl, s1, c1, none, 0, HI2.out⟩
      case round =>
        clear HI2
        obtain ⟨h, hh, rfl, s1, c1, s2, c2, hI⟩ := hrel
        by_cases hlt2 : h < 256
        · have j1 : (h : Int) < 256 := by omega
          have KN := hid (fun w1 (b1 : Below w.heap.size w w1) => neighbours_any w1 m hm hN sp cap (hS.below b1) ks hk hy h hlt2)
          have rk := hI.rk
          have K1 := hid (KN.out _ hI.be)
          clear KN
          go_wp2_with (first
            | refine wpList_load_row rfl 24 _ rfl w.heap.size rfl 24 _ _ _ rk Tryz.underlying24 rfl LKs.out ?_
            | (refine K1.out.mono ?_; rintro e w5 ⟨v5, rfl, hO5, hb5⟩; refine Hid.out ?_))
          refine hid ?_
          obtain ⟨s5, c5, rfl, hE5, _⟩ := hO5.form
          have hI5 := hI.step hb5
          have HNe := NBe.out h
          have hln : (nbs m ks h).length ≤ 1000000 := Nat.le_trans (List.length_filter_le _ _) hN
          have KD := hid (fun w1 (g1 : Gb w1) (b1 : Below w.heap.size w w1) (hs1 : SrcE w1 s5 c5 (nbs m ks h)) => zdigest_any h (by omega) w1 g1 k ge ce (Nat.lt_of_lt_of_le hgw b1.size) (fun i hi => rng_below (hR i hi) b1 hgw) hce (nbs m ks h) (hm.filt _) (nbs_shr nd ks h hlt2) hln s5 c5 hs1)
          rw [← HNe] at KD
          have KDl := NBl.out h
          clear hO5 K1 rk hI
          by_cases hz : (nbs m ks h).length = 0
          · have e0 : nb h = emptyD k h := by rw [HNe, List.eq_nil_of_length_eq_zero hz, tD_nil]
            have HT := hid (pfT_no k f vs nb h e0)
            have HI5 := hid hI5
            clear hI5 KD HNe e0 KDl
            rw [hz]
            go_wp2_with fail
            go_roundw
            case rel => exact ⟨h + 1, by omega, by go_num, s1, c1, s2, c2, by rw [HT.out]; exact HI5.out⟩
            case measure => simp [intOf]; omega
          · have j2 : (0 : Int) < ((nbs m ks h).length : Int) := by omega
            have j3 : ((nbs m ks h).length : Int) ≤ 1000000 := by omega
            have HS := hid (fun hne => pfT_yes k f vs nb h hlt2 hne)
            have HN := hid (fun he => pfT_no k f vs nb h he)
            have LPh := LPf.out h
            have hok := pfT_ok k f vs nb NBl.out h
            have hby : Bys (pfT k f vs nb h).bs := bitsH_bys k (nbT k nb h)
            have hsl : (pfT k f vs nb h).ss.length ≤ 1000 := Nat.le_trans (sumsH_le k nb h) (by omega)
            have K2 := hid (KD.out _ (hG.below hI5.be hG.1.1) hI5.be hE5)
            clear KD HNe hE5
            generalize (nbs m ks h).length = n5 at *
            go_wp2_with (first | (refine K2.out.mono ?_; rintro e w6 ⟨rfl, hb6⟩; refine Hid.out ?_))
            refine hid ?_
            have hI6 := hI5.step hb6
            clear K2 hI5
            have LDl := hid (show (ints .u8 (nb h)).length = 32 by rw [ints_len, KDl])
            have LDs := hid (show (Tryz.prog.info? 28).map (·.size) = some (ints .u8 (nb h)).toArray.size by rw [Tryz.sizeD, List.size_toArray, LDl.out])
            go_wp2_with (first | (refine wpList_new AD.out LZ2.out Tryz.sizeD rfl rfl rfl _ _ rfl rfl (ints .u8 (nb h)) rfl rfl LDl.out (ints_one _ _) ?_; refine Hid.out ?_))
            refine hid ?_
            have r7 := hnew w6 (.cells (ints .u8 (nb h)).toArray 28)
            have hI7 := hI6.step ((Below.refl _ _).alloc (Nat.le_refl _) (.cells (ints .u8 (nb h)).toArray 28))
            clear hI6 hb6
            generalize w6.alloc (.cells (ints .u8 (nb h)).toArray 28) = w7 at *
            generalize w6.heap.size = g7 at *
            have rp7 := hI7.rp
            have SP := hid (show (Tryz.prog.info? 52).map (·.size) = some (pfC (pfT k f vs nb h) (.slice s1 (pfT k f vs nb h).vs.length c1) (.slice s2 (pfT k f vs nb h).ss.length c2)).toArray.size by rw [Tryz.sizeP, List.size_toArray, LPh])
            by_cases he : nb h = emptyD k h
            · have K3 := hid (zset_same w7 k ge ce (Nat.lt_of_lt_of_le hgw hI7.be.size) (fun i hi => rng_below (hR i hi) hI7.be hgw) (pfT k f vs nb h) hok (.slice s1 (pfT k f vs nb h).vs.length c1) (.slice s2 (pfT k f vs nb h).ss.length c2) rfl rfl h hlt2 (nb h) KDl he)
              have HT := hid (HN.out he)
              have hl35 := LPh (.slice s1 (pfT k f vs nb h).vs.length c1) (.slice s2 (pfT k f vs nb h).ss.length c2)
              have oc := pfC_one (pfT k f vs nb h) (.slice s1 (pfT k f vs nb h).vs.length c1) (.slice s2 (pfT k f vs nb h).ss.length c2) rfl rfl
              clear HN HS LPh he hok hby hsl
              generalize hC : pfC (pfT k f vs nb h) (.slice s1 (pfT k f vs nb h).vs.length c1) (.slice s2 (pfT k f vs nb h).ss.length c2) = C at *
              have HC := hid hC
              clear hC
              go_wp2_with (first
                | refine wpList_load_row rfl 52 _ rfl (w.heap.size + 1 + 1) rfl 52 _ _ _ rp7 Tryz.underlying52 rfl SP.out ?_
                | refine wpList_load_row rfl 28 _ rfl g7 rfl 28 _ _ _ r7 Tryz.underlying28 rfl LDs.out ?_
                | (refine K3.out.mono ?_; rintro e w8 ⟨rfl, hb8⟩; refine Hid.out ?_))
              refine hid ?_
              have hI8 := hI7.step hb8
              have rp8 := hI8.rp
              rw [HC.out] at rp8
              have HI9 := hid (hI8.setv (q := pfT k f vs nb h) hI8.ov rfl C HC.out.symm)
              clear hI8 K3 hI7 rp7 r7
              go_wp2_with (first | (refine wpList_store_row rfl 52 _ _ rfl (w.heap.size + 1 + 1) C.toArray rfl rfl 52 _ rp8 (by rw [Tryz.sizeP, List.size_toArray, hl35]) rfl (all_oneCell_toArray oc) ?_; refine Hid.out ?_))
              refine hid ?_
              go_wp2_with fail
              go_roundw
              case rel => exact ⟨h + 1, by omega, by go_num, s1, c1, s2, c2, by rw [HT.out]; exact HI9.out⟩
              case measure => simp [intOf]; omega
            · obtain ⟨hst, hbt⟩ := HS.out he
              have e1 : (pfT k f vs nb h).ss.length + 1 = (setP (pfT k f vs nb h) h (nb h)).ss.length := by simp [setP]
              have K3 := hid (zset_more w7 k ge ce (Nat.lt_of_lt_of_le hgw hI7.be.size) (fun i hi => rng_below (hR i hi) hI7.be hgw) (pfT k f vs nb h) hok hby w.heap.size hI7.be.size s1 s2 (pfT k f vs nb h).vs.length c1 c2 hI7.od hsl h hlt2 hbt (nb h) KDl he)
              rw [e1, show (pfT k f vs nb h).ss ++ [nb h] = (setP (pfT k f vs nb h) h (nb h)).ss from rfl] at K3
              have HV := hid (show (setP (pfT k f vs nb h) h (nb h)).vs = (pfT k f vs nb h).vs from rfl)
              have HT := hid hst
              have hl35 := LPh (.slice s1 (pfT k f vs nb h).vs.length c1) (.slice s2 (pfT k f vs nb h).ss.length c2)
              have LQ := hid (fun u => show (pfC (setP (pfT k f vs nb h) h (nb h)) (.slice s1 (pfT k f vs nb h).vs.length c1) u).length = 35 by rw [← hst]; exact LPf.out (h + 1) _ _)
              have OQ := hid (fun u (h1 : Value.oneCell' u = true) => pfC_one (setP (pfT k f vs nb h) h (nb h)) (.slice s1 (pfT k f vs nb h).vs.length c1) u rfl h1)
              clear HN HS LPh he hok hby hsl hst hbt e1
              have HM := hid (fun w8 s3 c3 a b c => hI7.setm (w1 := w8) (s3 := s3) (c3 := c3) (q := setP (pfT k f vs nb h) h (nb h)) rfl a b c _ rfl)
              generalize setP (pfT k f vs nb h) h (nb h) = q at *
              generalize pfC (pfT k f vs nb h) (.slice s1 (pfT k f vs nb h).vs.length c1) (.slice s2 (pfT k f vs nb h).ss.length c2) = C at *
              go_wp2_with (first
                | refine wpList_load_row rfl 52 _ rfl (w.heap.size + 1 + 1) rfl 52 _ _ _ rp7 Tryz.underlying52 rfl SP.out ?_
                | refine wpList_load_row rfl 28 _ rfl g7 rfl 28 _ _ _ r7 Tryz.underlying28 rfl LDs.out ?_
                | (refine K3.out.mono ?_; rintro e w8 ⟨s3, c3, rfl, hO8, hb8, hf8⟩; refine Hid.out ?_))
              refine hid ?_
              obtain ⟨hI9, rp8⟩ := HM.out w8 s3 c3 hO8 hb8 hf8
              rw [HV.out] at hI9
              have lq := LQ.out (.slice s3 q.ss.length c3)
              have oq := OQ.out (.slice s3 q.ss.length c3) rfl
              have HI9 := hid hI9
              clear hI9 K3 hI7 rp7 r7 HM LQ OQ HV hO8 hf8
              generalize pfC q (.slice s1 (pfT k f vs nb h).vs.length c1) (.slice s3 q.ss.length c3) = C2 at *
              go_wp2_with (first | (refine wpList_store_row rfl 52 _ _ rfl (w.heap.size + 1 + 1) C2.toArray rfl rfl 52 _ rp8 (by rw [Tryz.sizeP, List.size_toArray, lq]) (by rw [List.size_toArray, List.size_toArray, lq, hl35]) (all_oneCell_toArray oq) ?_; refine Hid.out ?_))
              refine hid ?_
              go_wp2_with fail
              go_roundw
              case rel => exact ⟨h + 1, by omega, by go_num, s1, c1, s3, c3, by rw [HT.out]; exact HI9.out⟩
              case measure => simp [intOf]; omega
        · obtain rfl : h = 256 := by omega
          have rp := hI.rp
          have rz := hI.rz
          have HI := hid hI
          have lq := LPf.out 256 (.slice s1 (pfT k f vs nb 256).vs.length c1) (.slice s2 (pfT k f vs nb 256).ss.length c2)
          have oq := pfC_one (pfT k f vs nb 256) (.slice s1 (pfT k f vs nb 256).vs.length c1) (.slice s2 (pfT k f vs nb 256).ss.length c2) rfl rfl
          have lz : (pfC pf0 (.slice none 0 0) (.slice none 0 0)).length = 35 := rfl
          clear hI LPf
          generalize hC : pfC (pfT k f vs nb 256) (.slice s1 (pfT k f vs nb 256).vs.length c1) (.slice s2 (pfT k f vs nb 256).ss.length c2) = C at *
          have HC := hid hC
          clear hC
          generalize pfC pf0 (.slice none 0 0) (.slice none 0 0) = Z2 at *
          have SC := hid (show (Tryz.prog.info? 52).map (·.size) = some C.toArray.size by rw [Tryz.sizeP, List.size_toArray, lq])
          go_wp2_with (first | (refine wpList_load_row rfl 52 _ rfl (w.heap.size + 1 + 1) rfl 52 _ _ _ rp Tryz.underlying52 rfl SC.out ?_; refine Hid.out ?_))
          refine hid ?_
          refine wpList_store_row rfl 52 _ _ rfl (w.heap.size + 1) C.toArray rfl rfl 52 _ rz (by rw [Tryz.sizeP, List.size_toArray, lq]) (by rw [List.size_toArray, List.size_toArray, lq, lz]) (all_oneCell_toArray oq) ?_
          go_wp2_with fail
          have hF := HF.out
          have hVs := HVs.out
          subst hF hVs
          exact bodyPost_ret (v := .agg C.toArray) (results_cell_row Tryz.results36 _ _ (w.heap.size + 1) 52 _ _ _ rfl (setRow_heap _ _ _ _ _ _ rz) Tryz.underlying52 rfl (by rw [Tryz.sizeP, List.size_toArray, lq])) rfl ⟨s1, c1, s2, c2, by rw [HC.out], HI.out.ov.of_heap fun x hx => setRow_other _ _ _ _ (own_ne HI.out.ov HI.out.rz (by decide) x hx), HI.out.od.of_heap fun x hx => setRow_other _ _ _ _ (ownD_ne HI.out.od HI.out.rz (by decide) x hx), below_setRow HI.out.be (by omega) _⟩
end Go.Proofs.YtbjahdbmkcamoaaGreatDoor
