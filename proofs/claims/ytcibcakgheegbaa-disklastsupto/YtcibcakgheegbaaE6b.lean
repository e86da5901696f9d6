import Derived.Test.YtcibcakgheegbaaE6a
namespace Go.Proofs.Ytcibcakgheegbaa
set_option linter.unusedVariables false
set_option linter.unusedSimpArgs false
open Go.RowKit
attribute [local go_sem ↓] Go.wp_at_zero Go.wp_at_succ

theorem TL.setRowG {base : Nat} {w : World} {ds : List (Nat × DS)} {G : List Nat} (h : TL base w ds G) {g : Nat} (hg : g ∈ G) (cs : Array Value) : TL base (w.setRow g cs) ds G := by
  obtain ⟨hb, Fs, e1, e2, e3, e4⟩ := h
  refine ⟨by rw [size_setRow]; exact hb, Fs, e1, fun i hi => ?_, e3, fun k hk => ⟨by rw [size_setRow]; exact (e4 k hk).1, (e4 k hk).2⟩⟩
  obtain ⟨P, q1, q2, q3, q4⟩ := e2 i hi
  refine ⟨P, q1, q2, q3.of_heap fun x hx => setRow_other w _ x cs ?_, q4⟩
  intro e
  exact (e4 g hg).2 i hi (by rw [← q2, ← e]; exact hx)
theorem sl_l (w : World) (g L l : Nat) (h : l < L) : (Instr.slice 28 (.slice (some ⟨g, 0, none⟩) L L) (some (.int .i64 (l : Nat))) none none).run Try.prog w = .ok (.slice (some ⟨g, l, none⟩) (L - l) (L - l)) w := by
  have hz : (sizeOf (Try.prog.elem 28)).run Try.prog w = .ok 1 w := by kernel_rfl
  rw [run_slice_l w 28 _ _ _ (by kernel_rfl) .i64 l (by omega) (by omega), hz]
  simp only [Result.andThen_ok, sliced, Int.toNat_natCast, Nat.mul_one, if_neg (show ¬ L = l by omega), Option.map_some, Addr.add_mid, Nat.zero_add]
theorem sl_lh (w : World) (g L cap l h : Nat) (h1 : l < h) (h2 : h ≤ cap) : (Instr.slice 28 (.slice (some ⟨g, 0, none⟩) L cap) (some (.int .i64 (l : Nat))) (some (.int .i64 (h : Nat))) none).run Try.prog w = .ok (.slice (some ⟨g, l, none⟩) (h - l) (cap - l)) w := by
  have hz : (sizeOf (Try.prog.elem 28)).run Try.prog w = .ok 1 w := by kernel_rfl
  rw [run_slice_lh w 28 _ _ _ (by kernel_rfl) .i64 .i64 l h (by omega) (by omega) (by omega), hz]
  simp only [Result.andThen_ok, sliced, Int.toNat_natCast, Nat.mul_one, if_neg (show ¬ cap = l by omega), Option.map_some, Addr.add_mid, Nat.zero_add]
/-- A disk behind i lists. -/
structure LSt (k i : Nat) (D : DS) (X : List Int) (ns : List Bool) : Prop where
  pw : D.power = true
  ar : D.armed = 0
  op : D.ops = []
  np : D.np = k
  ep : D.epoch ≤ i
  sl : D.syncs ≤ i + 1
  wl : D.writes ≤ 1048576 * ((i : Int) + 1)
  rd : D.reads = 0
  nl : ns.length = k
  kp : Kept ns k D.img X
theorem laid_pg {k i : Nat} {D : DS} {X : List Int} {ns : List Bool} (h : LSt k i D X ns) (rs : List WR) (x : Nat) (hx : ∀ r ∈ rs, pg r k ≠ x / 256) : ∀ o ∈ (D.laid rs).ops, o.page ≠ x / 256 := by
  intro o ho
  have e : (D.laid rs).ops = rs.map (owOf k) := by show D.ops ++ rs.map (owOf D.np) = _; rw [h.op, h.np]; rfl
  rw [e] at ho
  obtain ⟨r, hr, rfl⟩ := List.mem_map.1 ho
  exact hx r hr
theorem lst_crash {k i : Nat} {D : DS} {X : List Int} {ns : List Bool} (hk : 3 ≤ k) (h : LSt k i D X ns) (hi : i ≤ 1048576) (ok : DsOk D) (hX : X.length = 256 * k) (rs : List WR) (hr : ∀ r ∈ rs, WrOk r) (hl : rs.length ≤ 1048576) (fs : List Int) : LSt k (i + 1) ((D.laid rs).crashed fs) X (mark ns k rs rs.length) := by
  have hep := h.ep
  have hsl := h.sl
  have hwl := h.wl
  have okL := laid_ok ok hr (by rw [h.op]; simp; omega) (by omega)
  have hn : ((D.laid rs).crashed fs).np = k := by rw [crashed_np okL, laid_np, h.np]
  have hLn : (D.laid rs).np = k := by rw [laid_np, h.np]
  have hil : D.img.length = 256 * k := by rw [ok.np.2.2.1, h.np]
  have hol : ∀ o ∈ (D.laid rs).ops, OwOk k o := by have := okL.np.2.2.2; rw [hLn] at this; exact this
  refine ⟨rfl, rfl, rfl, hn, by show D.epoch + 1 ≤ ((i + 1 : Nat) : Int); omega, by show D.syncs ≤ _; omega, by show D.writes + (rs.length : Int) ≤ _; omega, h.rd, by rw [mark_len, h.nl], ?_⟩
  refine Kept.step (by omega) h.nl hil ?_ hX rs h.kp fun x hx => ?_
  · exact crashTo_len fs hil hol _ (Nat.le_refl _)
  · exact crash_other fs hil hol x (laid_pg h rs x hx) _ (Nat.le_refl _)
theorem lst_sync {k i : Nat} {D : DS} {X : List Int} {ns : List Bool} (hk : 3 ≤ k) (h : LSt k i D X ns) (hi : i ≤ 1048576) (ok : DsOk D) (hX : X.length = 256 * k) (rs : List WR) (hr : ∀ r ∈ rs, WrOk r) (hl : rs.length ≤ 1048576) : LSt k (i + 1) (D.laid rs).sy0 X (mark ns k rs rs.length) := by
  have hep := h.ep
  have hsl := h.sl
  have hwl := h.wl
  have okL := laid_ok ok hr (by rw [h.op]; simp; omega) (by omega)
  have hn : (D.laid rs).sy0.np = k := by rw [sy0_np okL, laid_np, h.np]
  have hLn : (D.laid rs).np = k := by rw [laid_np, h.np]
  have hil : D.img.length = 256 * k := by rw [ok.np.2.2.1, h.np]
  have hol : ∀ o ∈ (D.laid rs).ops, OwOk k o := by have := okL.np.2.2.2; rw [hLn] at this; exact this
  refine ⟨h.pw, h.ar, rfl, hn, by show D.epoch ≤ _; omega, by show D.syncs + 1 ≤ _; omega, by show D.writes + (rs.length : Int) ≤ _; omega, h.rd, by rw [mark_len, h.nl], ?_⟩
  refine Kept.step (by omega) h.nl hil ?_ hX rs h.kp fun x hx => ?_
  · exact layTo_len hil hol _ (Nat.le_refl _)
  · exact lay_other hil hol x (laid_pg h rs x hx) _ (Nat.le_refl _)
theorem LSt.len {k i : Nat} {D : DS} {X : List Int} {ns : List Bool} (h : LSt k i D X ns) (ok : DsOk D) : D.img.length = 256 * k := by rw [ok.np.2.2.1, h.np]
def bls (ns : List Bool) : List Value := ns.map Value.bool
theorem info4m : (Try.prog.info? 4).map (fun i => (i.zero, i.size, i.bytes)) = some (some (.bool false), 1, 1) := by kernel_rfl
theorem info4 : ∃ i, Try.prog.info? 4 = some i ∧ i.zero = some (.bool false) ∧ i.size = 1 ∧ i.bytes = 1 := by
  have h := info4m
  cases hq : Try.prog.info? 4 with
  | none => rw [hq] at h; cases h
  | some i =>
    rw [hq] at h
    simp only [Option.map_some, Option.some.injEq, Prod.mk.injEq] at h
    exact ⟨i, rfl, h.1, h.2.1, h.2.2⟩
theorem made_rowB {w1 : World} {base g n : Nat} (h : w1.ownsRow base 4 1 (.slice (some ⟨g, 0, none⟩) n n) n (madeCells (Value.bool false).cells (n * 1)).toList) : w1.heap[g]? = some (.cells (bls (List.replicate n false)).toArray 4 (0, 0)) := by
  obtain ⟨h1, ⟨hv, _⟩ | ⟨g', cap, cur, hv, hg, hh, hc, hm, hs, ht⟩⟩ := h
  · cases hv
  · simp only [Value.slice.injEq, Option.some.injEq, Addr.mk.injEq] at hv
    obtain ⟨⟨rfl, _⟩, _, rfl⟩ := hv
    have e : (madeCells (Value.bool false).cells (n * 1)).toList = bls (List.replicate n false) := by
      have hz : (Value.bool false).cells = #[.bool false] := rfl
      rw [hz]
      apply List.ext_getElem
      · simp [madeCells, bls]
      · intro i h1 h2
        simp [madeCells, bls, Nat.mod_one]
    rw [e] at ht
    rw [hh, ← ht, List.take_of_length_le (by simp [hs])]
set_option maxRecDepth 100000 in
set_option maxHeartbeats 4000000 in
theorem lasts_walk (w : World) (n : Int) (hn0 : -9223372036854775808 ≤ n) (hn1 : n ≤ 9223372036854775807) (rs1 : List WR) (hr1 : ∀ r ∈ rs1, WrOk r) (sp1 sp2 sp3 : Option Addr) (cap1 cap2 cap3 : Nat) (W1 : Wrs w w.heap.size sp1 rs1) (hl1 : rs1.length ≤ 1048576)
    (rss : List (List WR)) (hrr : ∀ rs ∈ rss, (∀ r ∈ rs, WrOk r) ∧ rs.length ≤ 1048576) (hl2 : rss.length ≤ 1048576) (W2 : Wss w w.heap.size sp2 rss) (fss : List (List Int)) (hff : ∀ fs ∈ fss, Bts fs) (hl3 : fss.length ≤ 1048576) (W3 : Fss w w.heap.size sp3 fss) :
    Calls Try.prog 6 #[.int .i64 n, .slice sp1 rs1.length cap1, .slice sp2 rss.length cap2, .slice sp3 fss.length cap3] w fun e w' => e = .returned (.bool true) ∧ Below w.heap.size w w' := by
  have q23 := nilp
  obtain ⟨k, hk⟩ : ∃ k, k = (n % 8).toNat + 3 := ⟨_, rfl⟩
  obtain ⟨Z, hZ⟩ : ∃ Z : List Int, Z = List.replicate (256 * k) 0 := ⟨_, rfl⟩
  have FR := hid (fun w => fresh_to w n hn0 hn1 k hk Z hZ)
  have hk3 : 3 ≤ k := by omega
  have hk4 : k ≤ 10 := by have := Int.emod_lt_of_pos n (show (0 : Int) < 8 by decide); omega
  have ik4 : (k : Int) ≤ 10 := by omega
  have HZ := hid hZ
  skip
  clear hZ hk
  have HL1 := hid (show (newD Z).ops.length + rs1.length ≤ 400000000000 by show 0 + rs1.length ≤ _; omega)
  have HL2 := hid (show (newD Z).writes + rs1.length ≤ 4000000000000000000 by show (0 : Int) + rs1.length ≤ _; omega)
  have T := TL.nil w w.heap.size (Nat.le_refl _)
  have T0 : w.heap.size ≤ w.heap.size := Nat.le_refl _
  have hB0 : Below w.heap.size w w := Below.refl _ _
  obtain ⟨B, hBB⟩ : ∃ B, B = w.heap.size := ⟨_, rfl⟩
  rw [← hBB] at W1 W2 W3 T hB0 ⊢
  replace T0 : B ≤ w.heap.size := by omega
  have HBB := hid hBB
  clear hBB
  have okN : DsOk (newD Z) := by rw [HZ.out]; exact newZ_ok hk3 (by omega)
  have npN : (newD Z).np = k := by rw [HZ.out]; exact emp_replicate k
  have okL := laid_ok okN hr1 HL1.out HL2.out
  have okX := sy0_ok okL (by show (0 : Int) < _; decide)
  have npX : ((newD Z).laid rs1).sy0.np = k := by rw [sy0_np okL, laid_np, npN]
  have HXL := hid (show ((newD Z).laid rs1).sy0.img.length = 256 * k by rw [okX.np.2.2.1, npX])
  have OKX := hid okX
  clear okX
  have HOL := hid (show ((newD Z).laid rs1).ops.length = rs1.length by simp [DS.laid, newD])
  have HOG := hid (fun i (hi : i < rs1.length) => (show ((newD Z).laid rs1).ops.getD i dW = owOf k (rs1.getD i dR) by
    have e : ((newD Z).laid rs1).ops = rs1.map (owOf k) := by show [] ++ rs1.map (owOf (newD Z).np) = _; rw [npN]; rfl
    rw [e, List.getD_eq_getElem?_getD, List.getElem?_map, List.getElem?_eq_getElem hi, List.getD_eq_getElem?_getD, List.getElem?_eq_getElem hi]; rfl))
  have HLY := hid (fun i (hi : i ≤ rs1.length) => (show (layTo Z ((newD Z).laid rs1).ops i).length = 256 * k by
    have := layTo_len okL.np.2.2.1 okL.np.2.2.2 i (by rw [HOL.out]; exact hi)
    rw [laid_np, npN] at this; exact this))
  have W10 := W1
  have HW2 := hid W2
  have HW3 := hid W3
  obtain ⟨i5, hi5, hz5, hs5, hy5⟩ := Try.info5
  obtain ⟨i4, hi4, hz4, hs4, hy4⟩ := info4
  have HI := hid hi5
  have HI4 := hid hi4
  have K1 := hid (show i5.bytes * (256 * k) ≤ 281474976710656 by rw [hy5]; omega)
  have K2 := hid (show 256 * k ≤ maxLen by unfold maxLen; omega)
  have K14 := hid (show i4.bytes * k ≤ 281474976710656 by rw [hy4]; omega)
  have K24 := hid (show k ≤ maxLen by unfold maxLen; omega)
  clear okN okL hi5 hi4 hy5 hy4 W2 W3
  go_enter Try.func6, Try.ntmps6
  go_wp2_with fail
  refine (FR.out w).mono ?_
  rintro e w1 ⟨p1, Fp1, rfl, hD, hBx⟩
  have T := T.push hBx hD
  clear hD
  have hBy : Below B w w1 := hBx.mono T0
  have T0 : B ≤ w1.heap.size := Nat.le_trans T0 hBx.size
  have hB0 := hB0.trans hBy
  have W1 := W1.below hBy
  clear hBx hBy
  change TL B w1 [(p1, (newD Z))] [] at T
  go_wp2_with fail
  obtain ⟨F, hDA, hGF, hnx⟩ := T.at 0 (by simp)
  change DA w1 B F p1 (newD Z) at hDA
  clear hnx
  refine (Pages_any w1 B F p1 _ hDA).mono ?_
  rintro e wx ⟨rfl, rfl⟩
  clear hDA hGF
  rw [npN]
  go_wp2_with fail
  obtain ⟨F, hDA, hGF, hnx⟩ := T.at 0 (by simp)
  change DA w1 B F p1 (newD Z) at hDA
  change ∀ (w' : World) (D' : DS), Nx B F p1 w1 D' w' → TL B w' [(p1, D')] [] ∧ Below B w1 w' ∧ ∀ g ∈ [], w'.heap[g]? = w1.heap[g]? at hnx
  refine (lays_any w1 B F p1 (newD Z) hDA T0 rfl rfl rs1 hr1 sp1 cap1 W1 HL1.out HL2.out).mono ?_
  rintro e w2 ⟨rfl, hN⟩
  obtain ⟨T1, hBy, hKx⟩ := hnx _ _ hN
  clear hnx hDA hGF hN
  have hB0 := hB0.trans hBy
  have W1 := W1.below hBy
  have T0 : B ≤ w2.heap.size := T1.hb
  clear T hBy hKx
  have T := T1
  clear T1
  change TL B w2 [(p1, ((newD Z).laid rs1))] [] at T
  go_wp2_with fail
  obtain ⟨F, hDA, hGF, hnx⟩ := T.at 0 (by simp)
  change DA w2 B F p1 ((newD Z).laid rs1) at hDA
  change ∀ (w' : World) (D' : DS), Nx B F p1 w2 D' w' → TL B w' [(p1, D')] [] ∧ Below B w2 w' ∧ ∀ g ∈ [], w'.heap[g]? = w2.heap[g]? at hnx
  refine (Sync0_any w2 B F p1 ((newD Z).laid rs1) hDA rfl rfl (by show (0 : Int) < _; decide)).mono ?_
  rintro e w3 ⟨rfl, hN⟩
  obtain ⟨T1, hBy, hKx⟩ := hnx _ _ hN
  clear hnx hDA hGF hN
  have hB0 := hB0.trans hBy
  have W1 := W1.below hBy
  have T0 : B ≤ w3.heap.size := T1.hb
  clear T hBy hKx
  have T := T1
  clear T1
  change TL B w3 [(p1, ((newD Z).laid rs1).sy0)] [] at T
  go_wp2_with (refine wpList_make_full _ rfl _ _ 28 rfl w3.heap.size 5 i5 (.int .u8 0) 1 Try.underlying28 HI.out hz5 hs5 .i64 .i64 _ _ (256 * k) rfl rfl (by push_cast; rfl) (by push_cast; rfl) K1.out K2.out (Nat.le_refl _) ?_; intro w4 hO1 hg1; have hBx := grown_keeps hg1 (fun k hk => by cases hk) (Nat.le_refl _); have hrK := made_row hO1; clear hg1 hO1)
  have hgn := hlt_ hrK
  have T := T.hold hBx (Nat.le_refl _) hgn
  have HGB := hid (show B ≤ w3.heap.size from T0)
  generalize hgk : w3.heap.size = gk at *
  clear hgk hgn
  have hBy : Below B w3 w4 := hBx.mono HGB.out
  have T0 : B ≤ w4.heap.size := T.hb
  have hB0 := hB0.trans hBy
  have W1 := W1.below hBy
  clear hBx hBy
  have hz0 : padz [] (256 * k) = layTo Z ((newD Z).laid rs1).ops 0 := by show _ = Z; rw [HZ.out]; simp [padz]
  rw [hz0] at hrK
  have HR1 := hid hrK
  have HT := hid T
  have HB0 := hid hB0
  have HW1 := hid W10
  clear hrK T hB0 W1 T0 hz0
  go_loopw [12] (fun iv wr => ∃ i : Nat, i ≤ rs1.length ∧ iv = .int .i64 i ∧ wr.heap[gk]? = some (.cells (ints .u8 (layTo Z ((newD Z).laid rs1).ops i)).toArray 5 (0, 0)) ∧ TL B wr [(p1, ((newD Z).laid rs1).sy0)] [gk] ∧ Below B w wr) (fun iv _ => rs1.length - (intOf iv).toNat)
  case atStart => exact ⟨0, by omega, rfl, HR1.out, HT.out, HB0.out⟩
  case round =>
    clear HR1 HT HB0
    obtain ⟨i, hi, rfl, hgk, T, hB0⟩ := hrel
    by_cases hlt : i < rs1.length
    · have i1 : (i : Int) < (rs1.length : Int) := by omega
      obtain ⟨b, o, hbp, hbr⟩ := HW1.out
      obtain ⟨hbB, hbs, rfl⟩ := hbp (by omega)
      obtain ⟨r, hre⟩ : ∃ r, r = rs1.getD i dR := ⟨_, rfl⟩
      have hr : WrOk r := by rw [hre]; exact hr1 _ (getD_memR rs1 i hlt)
      obtain ⟨P, hP⟩ : ∃ P, P = pg r k := ⟨_, rfl⟩
      have hPk : P < k := by rw [hP]; exact pg_lt r k (by omega)
      have hrd : wr.drew.rangeAt b (o + i * 5) (encR r) := by rw [hre]; exact rng_below (hbr i hlt) hB0.drew hbB
      have hio : (Try.prog.info? 53).map (·.size) = some (encR r).length := by rw [sizeR, hr.len]
      have hll := HLY.out i (by omega)
      have KOF := hid (fun (wx : World) => (show Calls Try.prog 23 #[.agg (encR r).toArray, .int .i64 k] wx fun e w' => e = .returned (.int .i64 P) ∧ Below wx.heap.size wx w' by
        have := of_any wx r hr k hk3 (by omega); rw [← hP] at this; exact this))
      have hbw : b < wr.heap.size := Nat.lt_of_lt_of_le hbB T.hb
      have hgkl : gk < wr.heap.size := hlt_ hgk
      have KS5 := hid (fun (w5 : World) (h5 : Below wr.drew.heap.size wr.drew w5) => (show w5.rangeAt b (o + i * 5) (encR r) from rng_below hrd h5 hbw))
      have hLS : layTo Z ((newD Z).laid rs1).ops (i + 1) = putAt (layTo Z ((newD Z).laid rs1).ops i) (256 * P) (fil r) := by
        rw [layTo_succ _ _ _ (by rw [HOL.out]; exact hlt), HOG.out i hlt, ← hre, lay1, owOf, ← hP, Nat.mul_comm]
      have KC := hid (show (ints .u8 (fil r)).length = Nat.min 256 (256 * k - 256 * P) by rw [ints_len, fil_len]; exact (Nat.min_eq_left (by omega)).symm)
      have KFIT := hid (show 256 * P + (ints .u8 (fil r)).length ≤ (ints .u8 (layTo Z ((newD Z).laid rs1).ops i)).length by rw [ints_len, ints_len, fil_len, hll]; omega)
      have KEQ := hid (show (ints .u8 (layTo Z ((newD Z).laid rs1).ops i)).take (256 * P) ++ ints .u8 (fil r) ++ (ints .u8 (layTo Z ((newD Z).laid rs1).ops i)).drop (256 * P + (ints .u8 (fil r)).length) = ints .u8 (layTo Z ((newD Z).laid rs1).ops (i + 1)) by
        have := ints_putAt (layTo Z ((newD Z).laid rs1).ops i) (256 * P) (fil r) [] (by rw [fil_len, hll]; omega)
        rw [List.append_nil, List.append_nil] at this
        rw [this, hLS])
      have KX := hid (fun (w5 w6 : World) (g6 : Nat) (h5 : Below wr.drew.heap.size wr.drew w5) (h6 : Below w5.heap.size w5 w6) (hr6 : w6.heap[g6]? = some (.cells (ints .u8 (fil r)).toArray 5 (0, 0))) => (show w6.heap[gk]? = some (.cells (ints .u8 (layTo Z ((newD Z).laid rs1).ops i)).toArray 5 (0, 0)) ∧ TL B w6 [(p1, ((newD Z).laid rs1).sy0)] [gk] ∧ Below B w w6 ∧ w6.rangeAt b (o + i * 5) (encR r) ∧ (∀ j v, (ints .u8 (fil r))[j]? = some v → w6.cell? ((⟨g6, 0, none⟩ : Addr).add j) = some v) by
        have hb6 : Below wr.heap.size wr w6 := ⟨(h6.os.trans h5.os), (h6.tape.trans h5.tape), (h6.output.trans h5.output), Nat.le_trans h5.size h6.size, fun x hx => (h6.block x (Nat.lt_of_lt_of_le hx h5.size)).trans (h5.block x hx)⟩
        refine ⟨(hb6.block gk hgkl).trans hgk, T.below hb6, hB0.trans (hb6.mono T.hb), rng_of_heap hrd (hb6.block b hbw), ?_⟩
        exact src_news (src_row (tl := []) (t := 5) (by rw [List.append_nil]; exact hr6) 256 (by rw [fil_len]; exact Nat.le_refl _) (by unfold maxLen; omega))))
      have KKEEP := hid (fun (w6 : World) (h6 : w6.rangeAt b (o + i * 5) (encR r)) (cs : Array Value) => (show (w6.setRow gk cs).rangeAt b (o + i * 5) (encR r) from rng_of_heap h6 (setRow_other w6 gk b cs (by have := HGB.out; omega))))
      have SL := hid (fun (wx : World) => (show (Instr.slice 28 (.slice (some ⟨gk, 0, none⟩) (256 * k) (256 * k)) (some (.int .i64 (256 * (P : Int)))) none none).run Try.prog wx = .ok (.slice (some ⟨gk, 256 * P, none⟩) (256 * k - 256 * P) (256 * k - 256 * P)) wx by
        have := sl_l wx gk (256 * k) (256 * P) (by omega); push_cast at this; exact this))
      have iP : (P : Int) < 10 := by omega
      clear hre hP hll hLS hgk T hB0 hbr hbp
      go_wp2
      refine wp_region_noPanic ?_
      refine wp_region_held_drew (S := fun w' => w'.rangeAt b (o + i * 5) (encR r)) (by kernel_rfl) hrd (fun hHeld => ?_)
      refine wpAnyH_take (i := 0) (oi := { dst := some 42, op := Op.move (Operand.tmp 11), type := 28, pos := "outright.go:135", after := #[], guard := none }) (v := .slice (some ⟨gk, 0, none⟩) (256 * k) (256 * k)) rfl (by kernel_rfl) (by kernel_rfl) (by kernel_rfl) (fun _ _ _ h => h) (Or.inl ⟨by rfl, by intro w hS; go_simp⟩) hHeld ?_
      try simp only [Act.put, List.setIfInBounds_toArray, List.set_cons_zero, List.set_cons_succ]
      refine wpAnyH_take (i := 1) (oi := { dst := some 43, op := Op.move (Operand.tmp 1), type := 22, pos := "outright.go:135", after := #[], guard := none }) (v := .slice (some ⟨b, o, none⟩) rs1.length cap1) rfl (by kernel_rfl) (by kernel_rfl) (by kernel_rfl) (fun _ _ _ h => h) (Or.inl ⟨by rfl, by intro w hS; go_simp⟩) hHeld ?_
      try simp only [Act.put, List.setIfInBounds_toArray, List.set_cons_zero, List.set_cons_succ]
      refine wpAnyH_take (i := 2) (oi := { dst := some 44, op := Op.move (Operand.tmp 12), type := 3, pos := "outright.go:135", after := #[], guard := none }) (v := .int .i64 i) rfl (by kernel_rfl) (by kernel_rfl) (by kernel_rfl) (fun _ _ _ h => h) (Or.inl ⟨by rfl, by intro w hS; go_simp⟩) hHeld ?_
      try simp only [Act.put, List.setIfInBounds_toArray, List.set_cons_zero, List.set_cons_succ]
      refine wpAnyH_take (i := 5) (oi := { dst := some 47, op := Op.move (Operand.tmp 10), type := 3, pos := "outright.go:135", after := #[], guard := none }) (v := .int .i64 k) rfl (by kernel_rfl) (by kernel_rfl) (by kernel_rfl) (fun _ _ _ h => h) (Or.inl ⟨by rfl, by intro w hS; go_simp⟩) hHeld ?_
      try simp only [Act.put, List.setIfInBounds_toArray, List.set_cons_zero, List.set_cons_succ]
      refine wpAnyH_take (i := 9) (oi := { dst := some 51, op := Op.move (Operand.tmp 1), type := 22, pos := "outright.go:135", after := #[], guard := none }) (v := .slice (some ⟨b, o, none⟩) rs1.length cap1) rfl (by kernel_rfl) (by kernel_rfl) (by kernel_rfl) (fun _ _ _ h => h) (Or.inl ⟨by rfl, by intro w hS; go_simp⟩) hHeld ?_
      try simp only [Act.put, List.setIfInBounds_toArray, List.set_cons_zero, List.set_cons_succ]
      refine wpAnyH_take (i := 10) (oi := { dst := some 52, op := Op.move (Operand.tmp 12), type := 3, pos := "outright.go:135", after := #[], guard := none }) (v := .int .i64 i) rfl (by kernel_rfl) (by kernel_rfl) (by kernel_rfl) (fun _ _ _ h => h) (Or.inl ⟨by rfl, by intro w hS; go_simp⟩) hHeld ?_
      try simp only [Act.put, List.setIfInBounds_toArray, List.set_cons_zero, List.set_cons_succ]
      refine wpAnyH_take (i := 3) (oi := { dst := some 45, op := Op.indexAddr 22 (Operand.tmp 43) (Operand.tmp 44), type := 0, pos := "outright.go:135", after := #[{ on := 1, ground := Ground.data }, { on := 2, ground := Ground.data }], guard := none }) (v := .pointer (some ⟨b, o + i * 5, none⟩)) rfl (by kernel_rfl) (by kernel_rfl) (by kernel_rfl) (fun _ _ _ h => h) (Or.inl ⟨by rfl, by intro w hS; go_simp⟩) hHeld ?_
      try simp only [Act.put, List.setIfInBounds_toArray, List.set_cons_zero, List.set_cons_succ]
      refine wpAnyH_take (i := 11) (oi := { dst := some 53, op := Op.indexAddr 22 (Operand.tmp 51) (Operand.tmp 52), type := 0, pos := "outright.go:135", after := #[{ on := 9, ground := Ground.data }, { on := 10, ground := Ground.data }], guard := none }) (v := .pointer (some ⟨b, o + i * 5, none⟩)) rfl (by kernel_rfl) (by kernel_rfl) (by kernel_rfl) (fun _ _ _ h => h) (Or.inl ⟨by rfl, by intro w hS; go_simp⟩) hHeld ?_
      try simp only [Act.put, List.setIfInBounds_toArray, List.set_cons_zero, List.set_cons_succ]
      refine wpAnyH_take (i := 4) (oi := { dst := some 46, op := Op.load 53 (Operand.tmp 45), type := 53, pos := "outright.go:135", after := #[{ on := 3, ground := Ground.data }], guard := none }) (v := .agg (encR r).toArray) rfl (by kernel_rfl) (by kernel_rfl) (by kernel_rfl) (fun _ _ _ h => h) (yieldsIf_load_mid (by rfl) 53 _ rfl b (o + i * 5) rfl (encR r) _ (fun w hS => hS) Try.underlying53 rfl hio) hHeld ?_
      try simp only [Act.put, List.setIfInBounds_toArray, List.set_cons_zero, List.set_cons_succ]
      refine wpAnyH_take (i := 12) (oi := { dst := some 54, op := Op.load 53 (Operand.tmp 53), type := 53, pos := "outright.go:135", after := #[{ on := 11, ground := Ground.data }], guard := none }) (v := .agg (encR r).toArray) rfl (by kernel_rfl) (by kernel_rfl) (by kernel_rfl) (fun _ _ _ h => h) (yieldsIf_load_mid (by rfl) 53 _ rfl b (o + i * 5) rfl (encR r) _ (fun w hS => hS) Try.underlying53 rfl hio) hHeld ?_
      try simp only [Act.put, List.setIfInBounds_toArray, List.set_cons_zero, List.set_cons_succ]
      refine wpAnyH_ready (rs := [6]) (by kernel_rfl) (by simp) ?_
      refine (AllReadyH.cons (o := { dst := some 48, op := Op.call { callee := Callee.value (Operand.func 23), args := #[Operand.tmp 46, Operand.tmp 47], argTypes := #[53, 3] }, type := 3, pos := "outright.go:135", after := #[{ on := 4, ground := Ground.data }, { on := 5, ground := Ground.data }], guard := none }) rfl (fun K hK => ?_) AllReadyH.nil)
      go_simp
      go_at_call 23
      refine (KOF.out _).mono ?_
      rintro e w5 ⟨rfl, hB5⟩
      go_wp2_with fail
      refine hK.out _ _ (KS5.out w5 hB5) (fun hHeld2 => ?_)
      clear hK K hHeld
      have hHeld := hHeld2
      clear hHeld2
      try simp only [Act.put, List.setIfInBounds_toArray, List.set_cons_zero, List.set_cons_succ]
      refine wpAnyH_take (i := 7) (oi := { dst := some 49, op := Op.binOp BinOp.mul 3 (Operand.const (Value.int IntKind.i64 256)) (Operand.tmp 48) 3, type := 3, pos := "outright.go:135", after := #[{ on := 6, ground := Ground.data }], guard := none }) (v := .int .i64 (256 * P)) rfl (by kernel_rfl) (by kernel_rfl) (by kernel_rfl) (fun _ _ _ h => h) (Or.inl ⟨by rfl, by intro w hS; go_simp; exact wrap_i64_id _ (by omega) (by omega)⟩) hHeld ?_
      try simp only [Act.put, List.setIfInBounds_toArray, List.set_cons_zero, List.set_cons_succ]
      refine wpAnyH_take (i := 8) (oi := { dst := some 50, op := Op.slice 28 (Operand.tmp 42) (some (Operand.tmp 49)) none none, type := 28, pos := "outright.go:135", after := #[{ on := 0, ground := Ground.data }, { on := 7, ground := Ground.data }], guard := none }) (v := .slice (some ⟨gk, 256 * P, none⟩) (256 * k - 256 * P) (256 * k - 256 * P)) rfl (by kernel_rfl) (by kernel_rfl) (by kernel_rfl) (fun _ _ _ h => h) (Or.inl ⟨by rfl, by intro w hS; have hq := SL.out w; go_simp⟩) hHeld ?_
      try simp only [Act.put, List.setIfInBounds_toArray, List.set_cons_zero, List.set_cons_succ]
      refine wpAnyH_ready (rs := [13]) (by kernel_rfl) (by simp) ?_
      refine (AllReadyH.cons (o := { dst := some 55, op := Op.call { callee := Callee.value (Operand.func 25), args := #[Operand.tmp 54], argTypes := #[53] }, type := 28, pos := "outright.go:135", after := #[{ on := 12, ground := Ground.data }, { on := 6, ground := Ground.chain }], guard := none }) rfl (fun K hK => ?_) AllReadyH.nil)
      go_simp
      go_at_call 25
      refine (filled_any _ r hr).mono ?_
      rintro e w6 ⟨g6, rfl, hg6, hr6, hB6⟩
      go_wp2_with fail
      obtain ⟨hK6, hT6, hBw6, hS6, hsrc6⟩ := KX.out w5 w6 g6 hB5 hB6 hr6
      refine hK.out _ _ (hS6) (fun hHeld2 => ?_)
      clear hK K hHeld
      have hHeld := hHeld2
      clear hHeld2
      try simp only [Act.put, List.setIfInBounds_toArray, List.set_cons_zero, List.set_cons_succ]
      refine wpAnyH_ready (rs := [14]) (by kernel_rfl) (by simp) ?_
      refine (AllReadyH.cons (o := { dst := some 56, op := Op.call { callee := Callee.builtin Builtin.copy, args := #[Operand.tmp 50, Operand.tmp 55], argTypes := #[28, 28] }, type := 3, pos := "outright.go:135", after := #[{ on := 8, ground := Ground.data }, { on := 13, ground := Ground.data }, { on := 13, ground := Ground.chain }], guard := none }) rfl (fun K hK => ?_) AllReadyH.nil)
      refine step_copy_row rfl (.tmp 50) (.tmp 55) 28 28 rfl 5 Try.underlying28 Try.size5 ⟨g6, 0, none⟩ (256 * k - 256 * P) (256 * k - 256 * P) 256 256 gk (256 * P) rfl rfl _ 5 hK6 (ints .u8 (fil r)) KC.out hsrc6 KFIT.out (ints_one .u8 _) ?_
      refine hK.out _ _ (KKEEP.out w6 hS6 _) (fun hHeld2 => ?_)
      clear hK K hHeld
      have hHeld := hHeld2
      clear hHeld2
      try simp only [Act.put, List.setIfInBounds_toArray, List.set_cons_zero, List.set_cons_succ]
      refine wpAnyH_done (by kernel_rfl) ?_ _
      refine NoPanic.normal ?_
      clear hHeld
      rw [KEQ.out]
      go_wp2
      go_roundw
      case rel => exact ⟨i + 1, by omega, by go_num, setRow_heap _ _ _ _ _ _ hK6, hT6.setRowG (by simp) _, hBw6.trans (below_setRow (Below.refl _ _) HGB.out _)⟩
      case measure => simp [intOf]; omega
    · obtain rfl : i = rs1.length := by omega
      clear hlt
      have T0 := T.hb
      rw [show layTo Z ((newD Z).laid rs1).ops rs1.length = ((newD Z).laid rs1).sy0.img by rw [← HOL.out]; rfl] at hgk
      have HT := hid T
      have HB0 := hid hB0
      have HGK := hid hgk
      clear T hB0 hgk HW1
      go_wp2_with (refine wpList_make_full _ rfl _ _ 34 rfl wr.heap.size 4 i4 (.bool false) 1 Try.underlying34 HI4.out hz4 hs4 .i64 .i64 _ _ k rfl rfl rfl rfl K14.out K24.out (Nat.le_refl _) ?_; intro wn hO1 hg1; have hBx := grown_keeps hg1 (fun k hk => by cases hk) (Nat.le_refl _); have hrB := made_rowB hO1; clear hg1 hO1)
      have hgnl := hlt_ hrB
      have T := HT.out.hold hBx (Nat.le_refl _) hgnl
      have HGN := hid (show B ≤ wr.heap.size from T0)
      have hgk := (hBx.block gk (hlt_ HGK.out)).trans HGK.out
      have hgne : gk ≠ wr.heap.size := by have := hlt_ HGK.out; omega
      generalize hgn0 : wr.heap.size = gn at *
      have hB0 := HB0.out.trans (hBx.mono HGN.out)
      have HNE := hid hgne
      have HR0 := hid hrB
      have HT0 := hid T
      have HB1 := hid hB0
      have HK0 := hid hgk
      have hls0 : LSt k 0 ((newD Z).laid rs1).sy0 ((newD Z).laid rs1).sy0.img (List.replicate k false) := ⟨rfl, rfl, rfl, npX, Int.le_refl _, by show (1 : Int) ≤ _; decide, by show (0 : Int) + rs1.length ≤ _; omega, rfl, by simp, fun p _ _ => rfl⟩
      have HLS0 := hid hls0
      clear hgn0 hBx HT HB0 HGK hgnl T hgk hB0 hrB hls0 hgne T0
      go_loopw [14] (fun iv wr => ∃ (i : Nat) (D : DS) (ns : List Bool), i ≤ rss.length ∧ iv = .int .i64 i ∧ LSt k i D ((newD Z).laid rs1).sy0.img ns ∧ wr.heap[gn]? = some (.cells (bls ns).toArray 4 (0, 0)) ∧ wr.heap[gk]? = some (.cells (ints .u8 ((newD Z).laid rs1).sy0.img).toArray 5 (0, 0)) ∧ TL B wr [(p1, D)] [gn, gk] ∧ Below B w wr) (fun iv _ => rss.length - (intOf iv).toNat)
      case atStart => exact ⟨0, _, _, by omega, rfl, HLS0.out, HR0.out, HK0.out, HT0.out, HB1.out⟩
      case round =>
        clear HLS0 HR0 HK0 HT0 HB1
        obtain ⟨i, D, ns, hi, rfl, hL, hgn, hgk, T, hB0⟩ := hrel
        have T0 := T.hb
        have HL := hid hL
        have HDK := hid (show DsOk D by obtain ⟨F, hDA, _⟩ := T.at 0 (by simp); exact hDA.ok)
        clear hL
        by_cases hlt : i < rss.length
        · have i1 : (i : Int) < (rss.length : Int) := by omega
          obtain ⟨b2, o2, hbp, hbr⟩ := HW2.out
          obtain ⟨hbB, rfl⟩ := hbp (by omega)
          obtain ⟨sp', cap', hc2, hw2⟩ := hbr i hlt
          obtain ⟨rs, hrs⟩ : ∃ rs, rs = rss.getD i [] := ⟨_, rfl⟩
          rw [← hrs] at hc2 hw2
          have hrok : (∀ r ∈ rs, WrOk r) ∧ rs.length ≤ 1048576 := by rw [hrs]; exact hrr _ (by rw [List.getD_eq_getElem?_getD, List.getElem?_eq_getElem hlt]; exact List.getElem_mem hlt)
          have HC2 := hid (fun (wx : World) (hb : Below B w wx) => (show wx.cell? ⟨b2, o2 + i, none⟩ = some (.slice sp' rs.length cap') from (hb.cell (p := ⟨b2, o2 + i, none⟩) hbB).trans hc2))
          have HWS := hid (fun (wx : World) (hb : Below B w wx) => hw2.below hb)
          have HRO := hid hrok
          have irl : (rs.length : Int) ≤ 1048576 := by omega
          clear hc2 hw2 hbr hbp hrs hrok
          have c2 := HC2.out wr hB0
          go_wp2_with fail
          obtain ⟨F, hDA, hGF, hnx⟩ := T.at 0 (by simp)
          change DA wr B F p1 D at hDA
          change ∀ (w' : World) (D' : DS), Nx B F p1 wr D' w' → TL B w' [(p1, D')] [gn, gk] ∧ Below B wr w' ∧ ∀ g ∈ [gn, gk], w'.heap[g]? = wr.heap[g]? at hnx
          refine (lays_any wr B F p1 D hDA T0 HL.out.pw HL.out.ar rs HRO.out.1 sp' cap' (HWS.out _ hB0) (by rw [HL.out.op]; simp; omega) (by have := HL.out.wl; omega)).mono ?_
          rintro e w401 ⟨rfl, hN⟩
          obtain ⟨T1, hBy, hKx⟩ := hnx _ _ hN
          clear hnx hDA hGF hN
          have hgn := (hKx gn (by simp)).trans hgn
          have hgk := (hKx gk (by simp)).trans hgk
          have hB0 := hB0.trans hBy
          have T0 : B ≤ w401.heap.size := T1.hb
          clear T hBy hKx
          have T := T1
          clear T1
          change TL B w401 [(p1, (D.laid rs))] [gn, gk] at T
          clear c2
          go_wp2_with fail
          have HT0 := hid T
          have HB1 := hid hB0
          have HR0 := hid hgn
          have HK0 := hid hgk
          clear T hB0 hgn hgk T0
          go_loopw [15] (fun jv wr => ∃ j : Nat, j ≤ rs.length ∧ jv = .int .i64 j ∧ wr.heap[gn]? = some (.cells (bls (mark ns k rs j)).toArray 4 (0, 0)) ∧ wr.heap[gk]? = some (.cells (ints .u8 ((newD Z).laid rs1).sy0.img).toArray 5 (0, 0)) ∧ TL B wr [(p1, D.laid rs)] [gn, gk] ∧ Below B w wr) (fun jv _ => rs.length - (intOf jv).toNat)
          case atStart => exact ⟨0, by omega, rfl, HR0.out, HK0.out, HT0.out, HB1.out⟩
          case round =>
            clear HR0 HK0 HT0 HB1
            obtain ⟨j, hj, rfl, hgn, hgk, T, hB0⟩ := hrel
            have c2 := HC2.out wr hB0
            by_cases hjl : j < rs.length
            · have j1 : (j : Int) < (rs.length : Int) := by omega
              obtain ⟨b3, o3, hbp, hbr⟩ := HWS.out wr hB0
              obtain ⟨hb3, hb3s, rfl⟩ := hbp (by omega)
              obtain ⟨r, hre⟩ : ∃ r, r = rs.getD j dR := ⟨_, rfl⟩
              have hr : WrOk r := by rw [hre]; exact HRO.out.1 _ (getD_memR rs j hjl)
              obtain ⟨P, hP⟩ : ∃ P, P = pg r k := ⟨_, rfl⟩
              have hPk : P < k := by rw [hP]; exact pg_lt r k (by omega)
              have iP : (P : Int) < (k : Int) := by omega
              have hrg := hbr j hjl
              rw [← hre] at hrg
              have hio : (Try.prog.info? 53).map (·.size) = some (encR r).length := by rw [sizeR, hr.len]
              have hnl : P < (mark ns k rs j).length := by rw [mark_len, HL.out.nl]; exact hPk
              have HMS := hid (show mark ns k rs (j + 1) = (mark ns k rs j).set P true by rw [mark_succ _ _ _ _ hjl, ← hre, ← hP])
              have KOF := hid (fun (wx : World) => (show Calls Try.prog 23 #[.agg (encR r).toArray, .int .i64 k] wx fun e w' => e = .returned (.int .i64 P) ∧ Below wx.heap.size wx w' by
                have := of_any wx r hr k hk3 (by omega); rw [← hP] at this; exact this))
              have KX := hid (fun (w5 : World) (h5 : Below wr.heap.size wr w5) => (show w5.cell? ⟨gn, P, none⟩ = some (.bool ((mark ns k rs j).getD P false)) ∧ w5.frozen? ⟨gn, P, none⟩ = false ∧ (w5.setCell ⟨gn, P, none⟩ (.bool true)).heap[gn]? = some (.cells (bls (mark ns k rs (j + 1))).toArray 4 (0, 0)) ∧ (w5.setCell ⟨gn, P, none⟩ (.bool true)).heap[gk]? = some (.cells (ints .u8 ((newD Z).laid rs1).sy0.img).toArray 5 (0, 0)) ∧ TL B (w5.setCell ⟨gn, P, none⟩ (.bool true)) [(p1, D.laid rs)] [gn, gk] ∧ Below B w (w5.setCell ⟨gn, P, none⟩ (.bool true)) by
                have e5 := (h5.block gn (hlt_ hgn)).trans hgn
                have k5 := (h5.block gk (hlt_ hgk)).trans hgk
                refine ⟨?_, frozen_of_row _ _ _ _ _ e5, ?_, (heap_setCell_other w5 _ gk _ (show gk ≠ gn from HNE.out)).trans k5, (T.below h5).setG (by simp) _ _, (hB0.trans (h5.mono T.hb)).setCell HGN.out _⟩
                · rw [cell_of_row _ _ _ _ _ _ e5, List.getElem?_toArray, bls, List.getElem?_map, List.getElem?_eq_getElem hnl, List.getD_eq_getElem?_getD, List.getElem?_eq_getElem hnl]; rfl
                · rw [heap_setCell_same _ _ _ _ _ _ e5, HMS.out]
                  simp [bls, List.map_set]))
              clear hre hP hgn hgk T hB0 hbr hbp hnl
              generalize (mark ns k rs j).getD P false = xb at *
              go_wp2_with (first
                | refine wpList_load_mid rfl 53 _ rfl b3 (o3 + j * 5) rfl _ _ hrg Try.underlying53 rfl hio ?_
                | (go_at_call 23; refine (KOF.out _).mono ?_; rintro e w5 ⟨rfl, hB5⟩; obtain ⟨cx, fx, q1, q2, q3, q4⟩ := KX.out w5 hB5))
              go_roundw
              case rel => exact ⟨j + 1, by omega, by go_num, q1, q2, q3, q4⟩
              case measure => simp [intOf]; omega
            · obtain rfl : j = rs.length := by omega
              clear hjl
              have T0 := T.hb
              have HLN := hid (show (mark ns k rs rs.length).length = k by rw [mark_len, HL.out.nl])
              by_cases hfl : i < fss.length
              · have i2 : (i : Int) < (fss.length : Int) := by omega
                obtain ⟨b4, o4, spf, capf, hsp3, c4, hSf, hfB, hb4⟩ := HW3.out.at hB0.drew i hfl
                subst hsp3
                obtain ⟨fs, hfs⟩ : ∃ fs, fs = fss.getD i [] := ⟨_, rfl⟩
                rw [← hfs] at c4 hSf hfB
                have HFB := hid (show Bts fs by rw [hfs]; exact hff _ (by rw [List.getD_eq_getElem?_getD, List.getElem?_eq_getElem hfl]; exact List.getElem_mem hfl))
                have HSF := hid hSf
                have HFN := hid hfB
                have HB0 := hid hB0.drew
                have HTD := hid (T.below (Below.refl _ _).drew)
                have HKN := hid (show wr.drew.heap[gn]? = some (.cells (bls (mark ns k rs rs.length)).toArray 4 (0, 0)) from hgn)
                have HKK := hid (show wr.drew.heap[gk]? = some (.cells (ints .u8 ((newD Z).laid rs1).sy0.img).toArray 5 (0, 0)) from hgk)
                have c2d : wr.drew.cell? ⟨b2, o2 + i, none⟩ = some (.slice sp' rs.length cap') := HC2.out _ hB0.drew
                have hc24 := And.intro c4 c2d
                have KS := hid (fun (w5 : World) (h5 : Below B wr.drew w5) => (show w5.cell? ⟨b4, o4 + i, none⟩ = some (.slice spf fs.length capf) ∧ w5.cell? ⟨b2, o2 + i, none⟩ = some (.slice sp' rs.length cap') from ⟨(h5.cell (p := ⟨b4, o4 + i, none⟩) hb4).trans c4, (h5.cell (p := ⟨b2, o2 + i, none⟩) hbB).trans c2d⟩))
                have HOP := hid (show (D.laid rs).ops.length = rs.length by show (D.ops ++ rs.map (owOf D.np)).length = _; rw [HL.out.op]; simp)
                have HEP := hid (show (D.laid rs).epoch < 4000000000000000000 by show D.epoch < _; have := HL.out.ep; omega)
                have HL2 := hid (lst_crash hk3 HL.out (by omega) HDK.out HXL.out rs HRO.out.1 HRO.out.2 fs)
                clear hSf hfB hfs hgn hgk T hB0 c4 c2d
                go_wp2
                clear c2
                refine wp_region_noPanic ?_
                refine wp_region_held_drew (S := fun w' => w'.cell? ⟨b4, o4 + i, none⟩ = some (.slice spf fs.length capf) ∧ w'.cell? ⟨b2, o2 + i, none⟩ = some (.slice sp' rs.length cap')) (by kernel_rfl) hc24 (fun hHeld => ?_)
                refine wpAnyH_take (i := 0) (oi := { dst := some 96, op := Op.move (Operand.tmp 9), type := 23, pos := "outright.go:146", after := #[], guard := none }) (v := .pointer (some ⟨p1, 0, none⟩)) rfl (by kernel_rfl) (by kernel_rfl) (by kernel_rfl) (fun _ _ _ h => h) (Or.inl ⟨by rfl, by intro w hS; go_simp⟩) hHeld ?_
                try simp only [Act.put, List.setIfInBounds_toArray, List.set_cons_zero, List.set_cons_succ]
                refine wpAnyH_take (i := 1) (oi := { dst := some 97, op := Op.move (Operand.tmp 3), type := 59, pos := "outright.go:146", after := #[], guard := none }) (v := .slice (some ⟨b4, o4, none⟩) fss.length cap3) rfl (by kernel_rfl) (by kernel_rfl) (by kernel_rfl) (fun _ _ _ h => h) (Or.inl ⟨by rfl, by intro w hS; go_simp⟩) hHeld ?_
                try simp only [Act.put, List.setIfInBounds_toArray, List.set_cons_zero, List.set_cons_succ]
                refine wpAnyH_take (i := 2) (oi := { dst := some 98, op := Op.move (Operand.tmp 14), type := 3, pos := "outright.go:146", after := #[], guard := none }) (v := .int .i64 i) rfl (by kernel_rfl) (by kernel_rfl) (by kernel_rfl) (fun _ _ _ h => h) (Or.inl ⟨by rfl, by intro w hS; go_simp⟩) hHeld ?_
                try simp only [Act.put, List.setIfInBounds_toArray, List.set_cons_zero, List.set_cons_succ]
                refine wpAnyH_take (i := 6) (oi := { dst := some 102, op := Op.move (Operand.tmp 2), type := 58, pos := "outright.go:146", after := #[], guard := none }) (v := .slice (some ⟨b2, o2, none⟩) rss.length cap2) rfl (by kernel_rfl) (by kernel_rfl) (by kernel_rfl) (fun _ _ _ h => h) (Or.inl ⟨by rfl, by intro w hS; go_simp⟩) hHeld ?_
                try simp only [Act.put, List.setIfInBounds_toArray, List.set_cons_zero, List.set_cons_succ]
                refine wpAnyH_take (i := 7) (oi := { dst := some 103, op := Op.move (Operand.tmp 14), type := 3, pos := "outright.go:146", after := #[], guard := none }) (v := .int .i64 i) rfl (by kernel_rfl) (by kernel_rfl) (by kernel_rfl) (fun _ _ _ h => h) (Or.inl ⟨by rfl, by intro w hS; go_simp⟩) hHeld ?_
                try simp only [Act.put, List.setIfInBounds_toArray, List.set_cons_zero, List.set_cons_succ]
                refine wpAnyH_take (i := 3) (oi := { dst := some 99, op := Op.indexAddr 59 (Operand.tmp 97) (Operand.tmp 98), type := 0, pos := "outright.go:146", after := #[{ on := 1, ground := Ground.data }, { on := 2, ground := Ground.data }], guard := none }) (v := .pointer (some ⟨b4, o4 + i, none⟩)) rfl (by kernel_rfl) (by kernel_rfl) (by kernel_rfl) (fun _ _ _ h => h) (Or.inl ⟨by rfl, by intro w hS; go_simp⟩) hHeld ?_
                try simp only [Act.put, List.setIfInBounds_toArray, List.set_cons_zero, List.set_cons_succ]
                refine wpAnyH_take (i := 8) (oi := { dst := some 104, op := Op.indexAddr 58 (Operand.tmp 102) (Operand.tmp 103), type := 0, pos := "outright.go:146", after := #[{ on := 6, ground := Ground.data }, { on := 7, ground := Ground.data }], guard := none }) (v := .pointer (some ⟨b2, o2 + i, none⟩)) rfl (by kernel_rfl) (by kernel_rfl) (by kernel_rfl) (fun _ _ _ h => h) (Or.inl ⟨by rfl, by intro w hS; go_simp⟩) hHeld ?_
                try simp only [Act.put, List.setIfInBounds_toArray, List.set_cons_zero, List.set_cons_succ]
                refine wpAnyH_take (i := 4) (oi := { dst := some 100, op := Op.load 28 (Operand.tmp 99), type := 28, pos := "outright.go:146", after := #[{ on := 3, ground := Ground.data }], guard := none }) (v := .slice spf fs.length capf) rfl (by kernel_rfl) (by kernel_rfl) (by kernel_rfl) (fun _ _ _ h => h) (Or.inl ⟨by rfl, by intro w hS; have hc := hS.1; go_simp⟩) hHeld ?_
                try simp only [Act.put, List.setIfInBounds_toArray, List.set_cons_zero, List.set_cons_succ]
                refine wpAnyH_take (i := 9) (oi := { dst := some 105, op := Op.load 22 (Operand.tmp 104), type := 22, pos := "outright.go:146", after := #[{ on := 8, ground := Ground.data }], guard := none }) (v := .slice sp' rs.length cap') rfl (by kernel_rfl) (by kernel_rfl) (by kernel_rfl) (fun _ _ _ h => h) (Or.inl ⟨by rfl, by intro w hS; have hc := hS.2; go_simp⟩) hHeld ?_
                try simp only [Act.put, List.setIfInBounds_toArray, List.set_cons_zero, List.set_cons_succ]
                refine wpAnyH_take (i := 10) (oi := { dst := some 106, op := Op.call { callee := Callee.builtin Builtin.len, args := #[Operand.tmp 105], argTypes := #[22] }, type := 3, pos := "outright.go:146", after := #[{ on := 9, ground := Ground.data }], guard := none }) (v := .int .i64 rs.length) rfl (by kernel_rfl) (by kernel_rfl) (by kernel_rfl) (fun _ _ _ h => h) (Or.inl ⟨by rfl, by intro w hS; go_simp⟩) hHeld ?_
                try simp only [Act.put, List.setIfInBounds_toArray, List.set_cons_zero, List.set_cons_succ]
                refine wpAnyH_ready (rs := [5]) (by kernel_rfl) (by simp) ?_
                refine (AllReadyH.cons (o := { dst := some 101, op := Op.call { callee := Callee.value (Operand.func 13), args := #[Operand.tmp 96, Operand.tmp 100], argTypes := #[23, 28] }, type := 3, pos := "outright.go:146", after := #[{ on := 0, ground := Ground.data }, { on := 4, ground := Ground.data }], guard := none }) rfl (fun K hK => ?_) AllReadyH.nil)
                go_simp
                go_at_call 13
                obtain ⟨F, hDA, hGF, hnx⟩ := HTD.out.at 0 (by simp)
                change DA wr.drew B F p1 (D.laid rs) at hDA
                change ∀ (w' : World) (D' : DS), Nx B F p1 wr.drew D' w' → TL B w' [(p1, D')] [gn, gk] ∧ Below B wr.drew w' ∧ ∀ g ∈ [gn, gk], w'.heap[g]? = wr.drew.heap[g]? at hnx
                refine (Crash_any wr.drew B F p1 (D.laid rs) hDA HEP.out fs HFB.out spf capf HSF.out (fun a hp ha hm => by have q1 := HFN.out hp a ha; have q2 := (hDA.lt _ hm).1; omega)).mono ?_
                rintro e w5 ⟨rfl, hN⟩
                rw [HOP.out]
                obtain ⟨T, hBy, hKx⟩ := hnx _ _ hN
                clear hnx hDA hGF hN
                go_wp2_with fail
                refine hK.out _ _ (KS.out w5 hBy) (fun hHeld2 => ?_)
                clear hK K hHeld
                have hHeld := hHeld2
                clear hHeld2
                try simp only [Act.put, List.setIfInBounds_toArray, List.set_cons_zero, List.set_cons_succ]
                refine wpAnyH_take (i := 11) (oi := { dst := some 107, op := Op.binOp BinOp.neq 3 (Operand.tmp 101) (Operand.tmp 106) 3, type := 4, pos := "outright.go:146", after := #[{ on := 5, ground := Ground.data }, { on := 10, ground := Ground.data }], guard := none }) (v := .bool false) rfl (by kernel_rfl) (by kernel_rfl) (by kernel_rfl) (fun _ _ _ h => h) (Or.inl ⟨by rfl, by intro w hS; go_simp⟩) hHeld ?_
                try simp only [Act.put, List.setIfInBounds_toArray, List.set_cons_zero, List.set_cons_succ]
                refine wpAnyH_done (by kernel_rfl) ?_ _
                refine NoPanic.normal ?_
                clear hHeld KS hc24
                have hB0 := HB0.out.trans hBy
                have hgn := (hKx gn (by simp)).trans HKN.out
                have hgk := (hKx gk (by simp)).trans HKK.out
                have T0 := T.hb
                clear HB0 HKN HKK HTD hBy hKx HEP HOP HSF HFN HFB
                generalize (D.laid rs).crashed fs = D2 at *
                have HD2 := hid (show DsOk D2 by obtain ⟨F, hDA, _⟩ := T.at 0 (by simp); exact hDA.ok)
                have HDL := hid (HL2.out.len HD2.out)
                go_wp2_with fail
                obtain ⟨F, hDA, hGF, hnx⟩ := T.at 0 (by simp)
                change DA w5 B F p1 D2 at hDA
                clear hnx hGF
                refine (Image_any w5 B F p1 _ hDA).mono ?_
                rintro e w442 ⟨vi, rfl, hO, hBx⟩
                have hzz : 0 < (D2.img).length := by rw [himl _ hDA.ok]; have := hDA.ok.np.1; omega
                obtain ⟨gvi, T1, LI, hgBvi⟩ := T.listb hBx hO hzz
                have hBy : Below B w5 w442 := hBx.mono T0
                have T0 : B ≤ w442.heap.size := T1.hb
                have hB0 := hB0.trans hBy
                have hgn := (hBx.block gn (hlt_ hgn)).trans hgn
                have hgk := (hBx.block gk (hlt_ hgk)).trans hgk
                clear T hBx hBy hO hzz
                have T := T1
                clear T1
                change TL B w442 [(p1, D2)] (gvi :: [gn, gk]) at T
                clear hDA
                obtain ⟨gi, ci, ri, hvi, _, hgi, hci, hmi, hoi⟩ := own_in LI.1 (by rw [HDL.out]; omega)
                rw [HDL.out] at hvi hci
                subst hvi
                clear LI hoi
                have hci2 : 256 * (k : Int) ≤ (ci : Int) := by omega
                go_wp2_with fail
                have HT := hid T
                have HB0 := hid hB0
                have HRN := hid hgn
                have HRK := hid hgk
                have HRI := hid hgi
                clear T hB0 hgn hgk hgi T0
                go_loopw [17] (fun qv wr => ∃ q : Nat, q ≤ k ∧ qv = .int .i64 q ∧ Below w442.heap.size w442 wr) (fun qv _ => k - (intOf qv).toNat)
                case atStart => exact ⟨0, by omega, rfl, Below.refl _ _⟩
                case round =>
                  obtain ⟨q, hq, rfl, hBr⟩ := hrel
                  by_cases hql : q < k
                  · have q1 : (q : Int) < (k : Int) := by omega
                    have HBD := hid hBr.drew
                    have HBS := hid (show w442.heap.size ≤ wr.drew.heap.size from hBr.size)
                    have hRN := (hBr.drew.block gn (hlt_ HRN.out)).trans HRN.out
                    have hRK := (hBr.drew.block gk (hlt_ HRK.out)).trans HRK.out
                    have hRI := (hBr.drew.block gi (hlt_ HRI.out)).trans HRI.out
                    have hcx : wr.drew.cell? ⟨gn, q, none⟩ = some (.bool ((mark ns k rs rs.length).getD q false)) := by
                      have hnl : q < (mark ns k rs rs.length).length := by rw [HLN.out]; exact hql
                      rw [cell_of_row _ _ _ _ _ _ hRN, List.getElem?_toArray, bls, List.getElem?_map, List.getElem?_eq_getElem hnl, List.getD_eq_getElem?_getD, List.getElem?_eq_getElem hnl]; rfl
                    clear hBr
                    cases hnq : (mark ns k rs rs.length).getD q false with
                    | true =>
                      rw [hnq] at hcx
                      clear hRN hRK hRI hnq
                      go_wp2
                      refine wp_region_noPanic ?_
                      refine wp_region_held_drew (S := fun w' => w'.cell? ⟨gn, q, none⟩ = some (.bool true)) (by kernel_rfl) hcx (fun hHeld => ?_)
                      refine wpAnyH_take (i := 0) (oi := { dst := some 118, op := Op.move (Operand.tmp 13), type := 34, pos := "outright.go:154", after := #[], guard := none }) (v := .slice (some ⟨gn, 0, none⟩) k k) rfl (by kernel_rfl) (by kernel_rfl) (by kernel_rfl) (fun _ _ _ h => h) (Or.inl ⟨by rfl, by intro w hS; go_simp⟩) hHeld ?_
                      try simp only [Act.put, List.setIfInBounds_toArray, List.set_cons_zero, List.set_cons_succ]
                      refine wpAnyH_take (i := 1) (oi := { dst := some 119, op := Op.move (Operand.tmp 17), type := 3, pos := "outright.go:154", after := #[], guard := none }) (v := .int .i64 q) rfl (by kernel_rfl) (by kernel_rfl) (by kernel_rfl) (fun _ _ _ h => h) (Or.inl ⟨by rfl, by intro w hS; go_simp⟩) hHeld ?_
                      try simp only [Act.put, List.setIfInBounds_toArray, List.set_cons_zero, List.set_cons_succ]
                      refine wpAnyH_take (i := 2) (oi := { dst := some 120, op := Op.indexAddr 34 (Operand.tmp 118) (Operand.tmp 119), type := 0, pos := "outright.go:154", after := #[{ on := 0, ground := Ground.data }, { on := 1, ground := Ground.data }], guard := none }) (v := .pointer (some ⟨gn, q, none⟩)) rfl (by kernel_rfl) (by kernel_rfl) (by kernel_rfl) (fun _ _ _ h => h) (Or.inl ⟨by rfl, by intro w hS; go_simp⟩) hHeld ?_
                      try simp only [Act.put, List.setIfInBounds_toArray, List.set_cons_zero, List.set_cons_succ]
                      refine wpAnyH_take (i := 3) (oi := { dst := some 121, op := Op.load 4 (Operand.tmp 120), type := 4, pos := "outright.go:154", after := #[{ on := 2, ground := Ground.data }], guard := none }) (v := .bool true) rfl (by kernel_rfl) (by kernel_rfl) (by kernel_rfl) (fun _ _ _ h => h) (Or.inl ⟨by rfl, by intro w hS; have hc := hS; go_simp⟩) hHeld ?_
                      try simp only [Act.put, List.setIfInBounds_toArray, List.set_cons_zero, List.set_cons_succ]
                      refine wpAnyH_take (i := 4) (oi := { dst := some 122, op := Op.unOp UnOp.not 4 (Operand.tmp 121), type := 4, pos := "outright.go:154", after := #[{ on := 3, ground := Ground.data }], guard := none }) (v := .bool false) rfl (by kernel_rfl) (by kernel_rfl) (by kernel_rfl) (fun _ _ _ h => h) (Or.inl ⟨by rfl, by intro w hS; go_simp⟩) hHeld ?_
                      try simp only [Act.put, List.setIfInBounds_toArray, List.set_cons_zero, List.set_cons_succ]
                      refine wpAnyH_take (i := 5) (oi := { dst := some 123, op := Op.move (Operand.tmp 122), type := 4, pos := "outright.go:154", after := #[{ on := 4, ground := Ground.data }], guard := none }) (v := .bool false) rfl (by kernel_rfl) (by kernel_rfl) (by kernel_rfl) (fun _ _ _ h => h) (Or.inl ⟨by rfl, by intro w hS; go_simp⟩) hHeld ?_
                      try simp only [Act.put, List.setIfInBounds_toArray, List.set_cons_zero, List.set_cons_succ]
                      refine wpAnyH_take (i := 6) (oi := { dst := some 124, op := Op.move (Operand.tmp 16), type := 28, pos := "outright.go:154", after := #[{ on := 5, ground := Ground.guard }], guard := some (5, true) }) (v := undef) rfl (by kernel_rfl) (by kernel_rfl) (by kernel_rfl) (fun _ _ _ h => h) (Or.inr ⟨by rfl, rfl⟩) hHeld ?_
                      try simp only [Act.put, List.setIfInBounds_toArray, List.set_cons_zero, List.set_cons_succ]
                      refine wpAnyH_take (i := 8) (oi := { dst := some 126, op := Op.move (Operand.tmp 10), type := 3, pos := "outright.go:154", after := #[{ on := 5, ground := Ground.guard }], guard := some (5, true) }) (v := undef) rfl (by kernel_rfl) (by kernel_rfl) (by kernel_rfl) (fun _ _ _ h => h) (Or.inr ⟨by rfl, rfl⟩) hHeld ?_
                      try simp only [Act.put, List.setIfInBounds_toArray, List.set_cons_zero, List.set_cons_succ]
                      refine wpAnyH_take (i := 7) (oi := { dst := some 125, op := Op.call { callee := Callee.builtin Builtin.len, args := #[Operand.tmp 124], argTypes := #[28] }, type := 3, pos := "outright.go:154", after := #[{ on := 6, ground := Ground.data }, { on := 5, ground := Ground.guard }], guard := some (5, true) }) (v := undef) rfl (by kernel_rfl) (by kernel_rfl) (by kernel_rfl) (fun _ _ _ h => h) (Or.inr ⟨by rfl, rfl⟩) hHeld ?_
                      try simp only [Act.put, List.setIfInBounds_toArray, List.set_cons_zero, List.set_cons_succ]
                      refine wpAnyH_take (i := 9) (oi := { dst := some 127, op := Op.binOp BinOp.mul 3 (Operand.const (Value.int IntKind.i64 256)) (Operand.tmp 126) 3, type := 3, pos := "outright.go:154", after := #[{ on := 8, ground := Ground.data }, { on := 5, ground := Ground.guard }], guard := some (5, true) }) (v := undef) rfl (by kernel_rfl) (by kernel_rfl) (by kernel_rfl) (fun _ _ _ h => h) (Or.inr ⟨by rfl, rfl⟩) hHeld ?_
                      try simp only [Act.put, List.setIfInBounds_toArray, List.set_cons_zero, List.set_cons_succ]
                      refine wpAnyH_take (i := 10) (oi := { dst := some 128, op := Op.binOp BinOp.neq 3 (Operand.tmp 125) (Operand.tmp 127) 3, type := 4, pos := "outright.go:154", after := #[{ on := 7, ground := Ground.data }, { on := 9, ground := Ground.data }, { on := 5, ground := Ground.guard }], guard := some (5, true) }) (v := undef) rfl (by kernel_rfl) (by kernel_rfl) (by kernel_rfl) (fun _ _ _ h => h) (Or.inr ⟨by rfl, rfl⟩) hHeld ?_
                      try simp only [Act.put, List.setIfInBounds_toArray, List.set_cons_zero, List.set_cons_succ]
                      refine wpAnyH_take (i := 11) (oi := { dst := some 129, op := Op.move (Operand.tmp 128), type := 4, pos := "outright.go:154", after := #[{ on := 10, ground := Ground.data }, { on := 5, ground := Ground.chain }, { on := 5, ground := Ground.guard }], guard := some (5, true) }) (v := undef) rfl (by kernel_rfl) (by kernel_rfl) (by kernel_rfl) (fun _ _ _ h => h) (Or.inr ⟨by rfl, rfl⟩) hHeld ?_
                      try simp only [Act.put, List.setIfInBounds_toArray, List.set_cons_zero, List.set_cons_succ]
                      refine wpAnyH_take (i := 12) (oi := { dst := some 130, op := Op.move (Operand.tmp 16), type := 28, pos := "outright.go:154", after := #[{ on := 11, ground := Ground.guard }], guard := some (11, false) }) (v := undef) rfl (by kernel_rfl) (by kernel_rfl) (by kernel_rfl) (fun _ _ _ h => h) (Or.inr ⟨by rfl, rfl⟩) hHeld ?_
                      try simp only [Act.put, List.setIfInBounds_toArray, List.set_cons_zero, List.set_cons_succ]
                      refine wpAnyH_take (i := 13) (oi := { dst := some 131, op := Op.move (Operand.tmp 17), type := 3, pos := "outright.go:154", after := #[{ on := 11, ground := Ground.guard }], guard := some (11, false) }) (v := undef) rfl (by kernel_rfl) (by kernel_rfl) (by kernel_rfl) (fun _ _ _ h => h) (Or.inr ⟨by rfl, rfl⟩) hHeld ?_
                      try simp only [Act.put, List.setIfInBounds_toArray, List.set_cons_zero, List.set_cons_succ]
                      refine wpAnyH_take (i := 15) (oi := { dst := some 133, op := Op.move (Operand.tmp 17), type := 3, pos := "outright.go:154", after := #[{ on := 11, ground := Ground.guard }], guard := some (11, false) }) (v := undef) rfl (by kernel_rfl) (by kernel_rfl) (by kernel_rfl) (fun _ _ _ h => h) (Or.inr ⟨by rfl, rfl⟩) hHeld ?_
                      try simp only [Act.put, List.setIfInBounds_toArray, List.set_cons_zero, List.set_cons_succ]
                      refine wpAnyH_take (i := 19) (oi := { dst := some 137, op := Op.move (Operand.tmp 11), type := 28, pos := "outright.go:154", after := #[{ on := 11, ground := Ground.guard }], guard := some (11, false) }) (v := undef) rfl (by kernel_rfl) (by kernel_rfl) (by kernel_rfl) (fun _ _ _ h => h) (Or.inr ⟨by rfl, rfl⟩) hHeld ?_
                      try simp only [Act.put, List.setIfInBounds_toArray, List.set_cons_zero, List.set_cons_succ]
                      refine wpAnyH_take (i := 20) (oi := { dst := some 138, op := Op.move (Operand.tmp 17), type := 3, pos := "outright.go:154", after := #[{ on := 11, ground := Ground.guard }], guard := some (11, false) }) (v := undef) rfl (by kernel_rfl) (by kernel_rfl) (by kernel_rfl) (fun _ _ _ h => h) (Or.inr ⟨by rfl, rfl⟩) hHeld ?_
                      try simp only [Act.put, List.setIfInBounds_toArray, List.set_cons_zero, List.set_cons_succ]
                      refine wpAnyH_take (i := 22) (oi := { dst := some 140, op := Op.move (Operand.tmp 17), type := 3, pos := "outright.go:154", after := #[{ on := 11, ground := Ground.guard }], guard := some (11, false) }) (v := undef) rfl (by kernel_rfl) (by kernel_rfl) (by kernel_rfl) (fun _ _ _ h => h) (Or.inr ⟨by rfl, rfl⟩) hHeld ?_
                      try simp only [Act.put, List.setIfInBounds_toArray, List.set_cons_zero, List.set_cons_succ]
                      refine wpAnyH_take (i := 14) (oi := { dst := some 132, op := Op.binOp BinOp.mul 3 (Operand.const (Value.int IntKind.i64 256)) (Operand.tmp 131) 3, type := 3, pos := "outright.go:154", after := #[{ on := 13, ground := Ground.data }, { on := 11, ground := Ground.guard }], guard := some (11, false) }) (v := undef) rfl (by kernel_rfl) (by kernel_rfl) (by kernel_rfl) (fun _ _ _ h => h) (Or.inr ⟨by rfl, rfl⟩) hHeld ?_
                      try simp only [Act.put, List.setIfInBounds_toArray, List.set_cons_zero, List.set_cons_succ]
                      refine wpAnyH_take (i := 16) (oi := { dst := some 134, op := Op.binOp BinOp.mul 3 (Operand.const (Value.int IntKind.i64 256)) (Operand.tmp 133) 3, type := 3, pos := "outright.go:154", after := #[{ on := 15, ground := Ground.data }, { on := 11, ground := Ground.guard }], guard := some (11, false) }) (v := undef) rfl (by kernel_rfl) (by kernel_rfl) (by kernel_rfl) (fun _ _ _ h => h) (Or.inr ⟨by rfl, rfl⟩) hHeld ?_
                      try simp only [Act.put, List.setIfInBounds_toArray, List.set_cons_zero, List.set_cons_succ]
                      refine wpAnyH_take (i := 21) (oi := { dst := some 139, op := Op.binOp BinOp.mul 3 (Operand.const (Value.int IntKind.i64 256)) (Operand.tmp 138) 3, type := 3, pos := "outright.go:154", after := #[{ on := 20, ground := Ground.data }, { on := 11, ground := Ground.guard }], guard := some (11, false) }) (v := undef) rfl (by kernel_rfl) (by kernel_rfl) (by kernel_rfl) (fun _ _ _ h => h) (Or.inr ⟨by rfl, rfl⟩) hHeld ?_
                      try simp only [Act.put, List.setIfInBounds_toArray, List.set_cons_zero, List.set_cons_succ]
                      refine wpAnyH_take (i := 23) (oi := { dst := some 141, op := Op.binOp BinOp.mul 3 (Operand.const (Value.int IntKind.i64 256)) (Operand.tmp 140) 3, type := 3, pos := "outright.go:154", after := #[{ on := 22, ground := Ground.data }, { on := 11, ground := Ground.guard }], guard := some (11, false) }) (v := undef) rfl (by kernel_rfl) (by kernel_rfl) (by kernel_rfl) (fun _ _ _ h => h) (Or.inr ⟨by rfl, rfl⟩) hHeld ?_
                      try simp only [Act.put, List.setIfInBounds_toArray, List.set_cons_zero, List.set_cons_succ]
                      refine wpAnyH_take (i := 17) (oi := { dst := some 135, op := Op.binOp BinOp.add 3 (Operand.tmp 134) (Operand.const (Value.int IntKind.i64 256)) 3, type := 3, pos := "outright.go:154", after := #[{ on := 16, ground := Ground.data }, { on := 11, ground := Ground.guard }], guard := some (11, false) }) (v := undef) rfl (by kernel_rfl) (by kernel_rfl) (by kernel_rfl) (fun _ _ _ h => h) (Or.inr ⟨by rfl, rfl⟩) hHeld ?_
                      try simp only [Act.put, List.setIfInBounds_toArray, List.set_cons_zero, List.set_cons_succ]
                      refine wpAnyH_take (i := 24) (oi := { dst := some 142, op := Op.binOp BinOp.add 3 (Operand.tmp 141) (Operand.const (Value.int IntKind.i64 256)) 3, type := 3, pos := "outright.go:154", after := #[{ on := 23, ground := Ground.data }, { on := 11, ground := Ground.guard }], guard := some (11, false) }) (v := undef) rfl (by kernel_rfl) (by kernel_rfl) (by kernel_rfl) (fun _ _ _ h => h) (Or.inr ⟨by rfl, rfl⟩) hHeld ?_
                      try simp only [Act.put, List.setIfInBounds_toArray, List.set_cons_zero, List.set_cons_succ]
                      refine wpAnyH_take (i := 18) (oi := { dst := some 136, op := Op.slice 28 (Operand.tmp 130) (some (Operand.tmp 132)) (some (Operand.tmp 135)) none, type := 28, pos := "outright.go:154", after := #[{ on := 12, ground := Ground.data }, { on := 14, ground := Ground.data }, { on := 17, ground := Ground.data }, { on := 11, ground := Ground.guard }], guard := some (11, false) }) (v := undef) rfl (by kernel_rfl) (by kernel_rfl) (by kernel_rfl) (fun _ _ _ h => h) (Or.inr ⟨by rfl, rfl⟩) hHeld ?_
                      try simp only [Act.put, List.setIfInBounds_toArray, List.set_cons_zero, List.set_cons_succ]
                      refine wpAnyH_take (i := 25) (oi := { dst := some 143, op := Op.slice 28 (Operand.tmp 137) (some (Operand.tmp 139)) (some (Operand.tmp 142)) none, type := 28, pos := "outright.go:154", after := #[{ on := 19, ground := Ground.data }, { on := 21, ground := Ground.data }, { on := 24, ground := Ground.data }, { on := 11, ground := Ground.guard }], guard := some (11, false) }) (v := undef) rfl (by kernel_rfl) (by kernel_rfl) (by kernel_rfl) (fun _ _ _ h => h) (Or.inr ⟨by rfl, rfl⟩) hHeld ?_
                      try simp only [Act.put, List.setIfInBounds_toArray, List.set_cons_zero, List.set_cons_succ]
                      refine wpAnyH_take (i := 26) (oi := { dst := some 144, op := Op.call { callee := Callee.value (Operand.func 15), args := #[Operand.tmp 136, Operand.tmp 143], argTypes := #[28, 28] }, type := 4, pos := "outright.go:154", after := #[{ on := 18, ground := Ground.data }, { on := 25, ground := Ground.data }, { on := 11, ground := Ground.chain }, { on := 11, ground := Ground.guard }], guard := some (11, false) }) (v := undef) rfl (by kernel_rfl) (by kernel_rfl) (by kernel_rfl) (fun _ _ _ h => h) (Or.inr ⟨by rfl, rfl⟩) hHeld ?_
                      try simp only [Act.put, List.setIfInBounds_toArray, List.set_cons_zero, List.set_cons_succ]
                      refine wpAnyH_take (i := 27) (oi := { dst := some 145, op := Op.unOp UnOp.not 4 (Operand.tmp 144), type := 4, pos := "outright.go:154", after := #[{ on := 26, ground := Ground.data }, { on := 11, ground := Ground.guard }], guard := some (11, false) }) (v := undef) rfl (by kernel_rfl) (by kernel_rfl) (by kernel_rfl) (fun _ _ _ h => h) (Or.inr ⟨by rfl, rfl⟩) hHeld ?_
                      try simp only [Act.put, List.setIfInBounds_toArray, List.set_cons_zero, List.set_cons_succ]
                      refine wpAnyH_take (i := 28) (oi := { dst := some 146, op := Op.pick (Operand.tmp 129) (Operand.const (Value.bool true)) (Operand.tmp 145), type := 4, pos := "outright.go:154", after := #[{ on := 11, ground := Ground.data }, { on := 27, ground := Ground.data }, { on := 5, ground := Ground.guard }], guard := some (5, true) }) (v := undef) rfl (by kernel_rfl) (by kernel_rfl) (by kernel_rfl) (fun _ _ _ h => h) (Or.inr ⟨by rfl, rfl⟩) hHeld ?_
                      try simp only [Act.put, List.setIfInBounds_toArray, List.set_cons_zero, List.set_cons_succ]
                      refine wpAnyH_take (i := 29) (oi := { dst := some 147, op := Op.pick (Operand.tmp 123) (Operand.tmp 146) (Operand.const (Value.bool false)), type := 4, pos := "outright.go:154", after := #[{ on := 5, ground := Ground.data }, { on := 28, ground := Ground.data }], guard := none }) (v := .bool false) rfl (by kernel_rfl) (by kernel_rfl) (by kernel_rfl) (fun _ _ _ h => h) (Or.inl ⟨by rfl, by intro w hS; go_simp⟩) hHeld ?_
                      try simp only [Act.put, List.setIfInBounds_toArray, List.set_cons_zero, List.set_cons_succ]
                      refine wpAnyH_done (by kernel_rfl) ?_ _
                      refine NoPanic.normal ?_
                      clear hHeld
                      go_wp2
                      go_roundw
                      case rel => exact ⟨q + 1, by omega, by go_num, HBD.out⟩
                      case measure => simp [intOf]; omega
                    | false =>
                      rw [hnq] at hcx
                      have hkp := HL2.out.kp q hql hnq
                      have KSM := hid (show Calls Try.prog 15 #[.slice (some ⟨gi, 256 * q, none⟩) 256 (ci - 256 * q), .slice (some ⟨gk, 256 * q, none⟩) 256 (256 * k - 256 * q)] wr.drew fun e w' => e = .returned (.bool true) ∧ Below wr.drew.heap.size wr.drew w' by
                        have := same_to wr.drew ((D2.img.drop (256 * q)).take 256) ((((newD Z).laid rs1).sy0.img.drop (256 * q)).take 256) _ _ _ _ (src_part hRI (256 * q) 256 (ci - 256 * q) (by rw [HDL.out]; omega) (by omega) (by omega)) (src_part (rest := []) (by rw [List.append_nil]; exact hRK) (256 * q) 256 (256 * k - 256 * q) (by rw [HXL.out]; omega) (by omega) (by unfold maxLen; omega)) 256 256 (by rw [List.length_take, List.length_drop, HDL.out]; omega) (by rw [List.length_take, List.length_drop, HXL.out]; omega)
                        rw [decide_eq_true hkp] at this
                        exact this)
                      have SL1 := hid (fun (wx : World) => (show (Instr.slice 28 (.slice (some ⟨gi, 0, none⟩) (256 * k) ci) (some (.int .i64 (256 * (q : Int)))) (some (.int .i64 (256 * (q : Int) + 256))) none).run Try.prog wx = .ok (.slice (some ⟨gi, 256 * q, none⟩) 256 (ci - 256 * q)) wx by
                        have := sl_lh wx gi (256 * k) ci (256 * q) (256 * q + 256) (by omega) (by omega); push_cast at this; rw [show 256 * q + 256 - 256 * q = 256 by omega] at this; exact this))
                      have SL2 := hid (fun (wx : World) => (show (Instr.slice 28 (.slice (some ⟨gk, 0, none⟩) (256 * k) (256 * k)) (some (.int .i64 (256 * (q : Int)))) (some (.int .i64 (256 * (q : Int) + 256))) none).run Try.prog wx = .ok (.slice (some ⟨gk, 256 * q, none⟩) 256 (256 * k - 256 * q)) wx by
                        have := sl_lh wx gk (256 * k) (256 * k) (256 * q) (256 * q + 256) (by omega) (by omega); push_cast at this; rw [show 256 * q + 256 - 256 * q = 256 by omega] at this; exact this))
                      have KS := hid (fun (w5 : World) (h5 : Below wr.drew.heap.size wr.drew w5) => (show w5.cell? ⟨gn, q, none⟩ = some (.bool false) from (h5.cell (p := ⟨gn, q, none⟩) (hlt_ hRN)).trans hcx))
                      clear hRN hRK hRI hnq hkp
                      go_wp2
                      refine wp_region_noPanic ?_
                      refine wp_region_held_drew (S := fun w' => w'.cell? ⟨gn, q, none⟩ = some (.bool false)) (by kernel_rfl) hcx (fun hHeld => ?_)
                      refine wpAnyH_take (i := 0) (oi := { dst := some 118, op := Op.move (Operand.tmp 13), type := 34, pos := "outright.go:154", after := #[], guard := none }) (v := .slice (some ⟨gn, 0, none⟩) k k) rfl (by kernel_rfl) (by kernel_rfl) (by kernel_rfl) (fun _ _ _ h => h) (Or.inl ⟨by rfl, by intro w hS; go_simp⟩) hHeld ?_
                      try simp only [Act.put, List.setIfInBounds_toArray, List.set_cons_zero, List.set_cons_succ]
                      refine wpAnyH_take (i := 1) (oi := { dst := some 119, op := Op.move (Operand.tmp 17), type := 3, pos := "outright.go:154", after := #[], guard := none }) (v := .int .i64 q) rfl (by kernel_rfl) (by kernel_rfl) (by kernel_rfl) (fun _ _ _ h => h) (Or.inl ⟨by rfl, by intro w hS; go_simp⟩) hHeld ?_
                      try simp only [Act.put, List.setIfInBounds_toArray, List.set_cons_zero, List.set_cons_succ]
                      refine wpAnyH_take (i := 2) (oi := { dst := some 120, op := Op.indexAddr 34 (Operand.tmp 118) (Operand.tmp 119), type := 0, pos := "outright.go:154", after := #[{ on := 0, ground := Ground.data }, { on := 1, ground := Ground.data }], guard := none }) (v := .pointer (some ⟨gn, q, none⟩)) rfl (by kernel_rfl) (by kernel_rfl) (by kernel_rfl) (fun _ _ _ h => h) (Or.inl ⟨by rfl, by intro w hS; go_simp⟩) hHeld ?_
                      try simp only [Act.put, List.setIfInBounds_toArray, List.set_cons_zero, List.set_cons_succ]
                      refine wpAnyH_take (i := 3) (oi := { dst := some 121, op := Op.load 4 (Operand.tmp 120), type := 4, pos := "outright.go:154", after := #[{ on := 2, ground := Ground.data }], guard := none }) (v := .bool false) rfl (by kernel_rfl) (by kernel_rfl) (by kernel_rfl) (fun _ _ _ h => h) (Or.inl ⟨by rfl, by intro w hS; have hc := hS; go_simp⟩) hHeld ?_
                      try simp only [Act.put, List.setIfInBounds_toArray, List.set_cons_zero, List.set_cons_succ]
                      refine wpAnyH_take (i := 4) (oi := { dst := some 122, op := Op.unOp UnOp.not 4 (Operand.tmp 121), type := 4, pos := "outright.go:154", after := #[{ on := 3, ground := Ground.data }], guard := none }) (v := .bool true) rfl (by kernel_rfl) (by kernel_rfl) (by kernel_rfl) (fun _ _ _ h => h) (Or.inl ⟨by rfl, by intro w hS; go_simp⟩) hHeld ?_
                      try simp only [Act.put, List.setIfInBounds_toArray, List.set_cons_zero, List.set_cons_succ]
                      refine wpAnyH_take (i := 5) (oi := { dst := some 123, op := Op.move (Operand.tmp 122), type := 4, pos := "outright.go:154", after := #[{ on := 4, ground := Ground.data }], guard := none }) (v := .bool true) rfl (by kernel_rfl) (by kernel_rfl) (by kernel_rfl) (fun _ _ _ h => h) (Or.inl ⟨by rfl, by intro w hS; go_simp⟩) hHeld ?_
                      try simp only [Act.put, List.setIfInBounds_toArray, List.set_cons_zero, List.set_cons_succ]
                      refine wpAnyH_take (i := 6) (oi := { dst := some 124, op := Op.move (Operand.tmp 16), type := 28, pos := "outright.go:154", after := #[{ on := 5, ground := Ground.guard }], guard := some (5, true) }) (v := .slice (some ⟨gi, 0, none⟩) (256 * k) ci) rfl (by kernel_rfl) (by kernel_rfl) (by kernel_rfl) (fun _ _ _ h => h) (Or.inl ⟨by rfl, by intro w hS; go_simp⟩) hHeld ?_
                      try simp only [Act.put, List.setIfInBounds_toArray, List.set_cons_zero, List.set_cons_succ]
                      refine wpAnyH_take (i := 8) (oi := { dst := some 126, op := Op.move (Operand.tmp 10), type := 3, pos := "outright.go:154", after := #[{ on := 5, ground := Ground.guard }], guard := some (5, true) }) (v := .int .i64 k) rfl (by kernel_rfl) (by kernel_rfl) (by kernel_rfl) (fun _ _ _ h => h) (Or.inl ⟨by rfl, by intro w hS; go_simp⟩) hHeld ?_
                      try simp only [Act.put, List.setIfInBounds_toArray, List.set_cons_zero, List.set_cons_succ]
                      refine wpAnyH_take (i := 7) (oi := { dst := some 125, op := Op.call { callee := Callee.builtin Builtin.len, args := #[Operand.tmp 124], argTypes := #[28] }, type := 3, pos := "outright.go:154", after := #[{ on := 6, ground := Ground.data }, { on := 5, ground := Ground.guard }], guard := some (5, true) }) (v := .int .i64 (256 * k)) rfl (by kernel_rfl) (by kernel_rfl) (by kernel_rfl) (fun _ _ _ h => h) (Or.inl ⟨by rfl, by intro w hS; go_simp⟩) hHeld ?_
                      try simp only [Act.put, List.setIfInBounds_toArray, List.set_cons_zero, List.set_cons_succ]
                      refine wpAnyH_take (i := 9) (oi := { dst := some 127, op := Op.binOp BinOp.mul 3 (Operand.const (Value.int IntKind.i64 256)) (Operand.tmp 126) 3, type := 3, pos := "outright.go:154", after := #[{ on := 8, ground := Ground.data }, { on := 5, ground := Ground.guard }], guard := some (5, true) }) (v := .int .i64 (256 * k)) rfl (by kernel_rfl) (by kernel_rfl) (by kernel_rfl) (fun _ _ _ h => h) (Or.inl ⟨by rfl, by intro w hS; go_simp; exact wrap_i64_id _ (by omega) (by omega)⟩) hHeld ?_
                      try simp only [Act.put, List.setIfInBounds_toArray, List.set_cons_zero, List.set_cons_succ]
                      refine wpAnyH_take (i := 10) (oi := { dst := some 128, op := Op.binOp BinOp.neq 3 (Operand.tmp 125) (Operand.tmp 127) 3, type := 4, pos := "outright.go:154", after := #[{ on := 7, ground := Ground.data }, { on := 9, ground := Ground.data }, { on := 5, ground := Ground.guard }], guard := some (5, true) }) (v := .bool false) rfl (by kernel_rfl) (by kernel_rfl) (by kernel_rfl) (fun _ _ _ h => h) (Or.inl ⟨by rfl, by intro w hS; go_simp⟩) hHeld ?_
                      try simp only [Act.put, List.setIfInBounds_toArray, List.set_cons_zero, List.set_cons_succ]
                      refine wpAnyH_take (i := 11) (oi := { dst := some 129, op := Op.move (Operand.tmp 128), type := 4, pos := "outright.go:154", after := #[{ on := 10, ground := Ground.data }, { on := 5, ground := Ground.chain }, { on := 5, ground := Ground.guard }], guard := some (5, true) }) (v := .bool false) rfl (by kernel_rfl) (by kernel_rfl) (by kernel_rfl) (fun _ _ _ h => h) (Or.inl ⟨by rfl, by intro w hS; go_simp⟩) hHeld ?_
                      try simp only [Act.put, List.setIfInBounds_toArray, List.set_cons_zero, List.set_cons_succ]
                      refine wpAnyH_take (i := 12) (oi := { dst := some 130, op := Op.move (Operand.tmp 16), type := 28, pos := "outright.go:154", after := #[{ on := 11, ground := Ground.guard }], guard := some (11, false) }) (v := .slice (some ⟨gi, 0, none⟩) (256 * k) ci) rfl (by kernel_rfl) (by kernel_rfl) (by kernel_rfl) (fun _ _ _ h => h) (Or.inl ⟨by rfl, by intro w hS; go_simp⟩) hHeld ?_
                      try simp only [Act.put, List.setIfInBounds_toArray, List.set_cons_zero, List.set_cons_succ]
                      refine wpAnyH_take (i := 13) (oi := { dst := some 131, op := Op.move (Operand.tmp 17), type := 3, pos := "outright.go:154", after := #[{ on := 11, ground := Ground.guard }], guard := some (11, false) }) (v := .int .i64 q) rfl (by kernel_rfl) (by kernel_rfl) (by kernel_rfl) (fun _ _ _ h => h) (Or.inl ⟨by rfl, by intro w hS; go_simp⟩) hHeld ?_
                      try simp only [Act.put, List.setIfInBounds_toArray, List.set_cons_zero, List.set_cons_succ]
                      refine wpAnyH_take (i := 15) (oi := { dst := some 133, op := Op.move (Operand.tmp 17), type := 3, pos := "outright.go:154", after := #[{ on := 11, ground := Ground.guard }], guard := some (11, false) }) (v := .int .i64 q) rfl (by kernel_rfl) (by kernel_rfl) (by kernel_rfl) (fun _ _ _ h => h) (Or.inl ⟨by rfl, by intro w hS; go_simp⟩) hHeld ?_
                      try simp only [Act.put, List.setIfInBounds_toArray, List.set_cons_zero, List.set_cons_succ]
                      refine wpAnyH_take (i := 19) (oi := { dst := some 137, op := Op.move (Operand.tmp 11), type := 28, pos := "outright.go:154", after := #[{ on := 11, ground := Ground.guard }], guard := some (11, false) }) (v := .slice (some ⟨gk, 0, none⟩) (256 * k) (256 * k)) rfl (by kernel_rfl) (by kernel_rfl) (by kernel_rfl) (fun _ _ _ h => h) (Or.inl ⟨by rfl, by intro w hS; go_simp⟩) hHeld ?_
                      try simp only [Act.put, List.setIfInBounds_toArray, List.set_cons_zero, List.set_cons_succ]
                      refine wpAnyH_take (i := 20) (oi := { dst := some 138, op := Op.move (Operand.tmp 17), type := 3, pos := "outright.go:154", after := #[{ on := 11, ground := Ground.guard }], guard := some (11, false) }) (v := .int .i64 q) rfl (by kernel_rfl) (by kernel_rfl) (by kernel_rfl) (fun _ _ _ h => h) (Or.inl ⟨by rfl, by intro w hS; go_simp⟩) hHeld ?_
                      try simp only [Act.put, List.setIfInBounds_toArray, List.set_cons_zero, List.set_cons_succ]
                      refine wpAnyH_take (i := 22) (oi := { dst := some 140, op := Op.move (Operand.tmp 17), type := 3, pos := "outright.go:154", after := #[{ on := 11, ground := Ground.guard }], guard := some (11, false) }) (v := .int .i64 q) rfl (by kernel_rfl) (by kernel_rfl) (by kernel_rfl) (fun _ _ _ h => h) (Or.inl ⟨by rfl, by intro w hS; go_simp⟩) hHeld ?_
                      try simp only [Act.put, List.setIfInBounds_toArray, List.set_cons_zero, List.set_cons_succ]
                      refine wpAnyH_take (i := 14) (oi := { dst := some 132, op := Op.binOp BinOp.mul 3 (Operand.const (Value.int IntKind.i64 256)) (Operand.tmp 131) 3, type := 3, pos := "outright.go:154", after := #[{ on := 13, ground := Ground.data }, { on := 11, ground := Ground.guard }], guard := some (11, false) }) (v := .int .i64 (256 * q)) rfl (by kernel_rfl) (by kernel_rfl) (by kernel_rfl) (fun _ _ _ h => h) (Or.inl ⟨by rfl, by intro w hS; go_simp; exact wrap_i64_id _ (by omega) (by omega)⟩) hHeld ?_
                      try simp only [Act.put, List.setIfInBounds_toArray, List.set_cons_zero, List.set_cons_succ]
                      refine wpAnyH_take (i := 16) (oi := { dst := some 134, op := Op.binOp BinOp.mul 3 (Operand.const (Value.int IntKind.i64 256)) (Operand.tmp 133) 3, type := 3, pos := "outright.go:154", after := #[{ on := 15, ground := Ground.data }, { on := 11, ground := Ground.guard }], guard := some (11, false) }) (v := .int .i64 (256 * q)) rfl (by kernel_rfl) (by kernel_rfl) (by kernel_rfl) (fun _ _ _ h => h) (Or.inl ⟨by rfl, by intro w hS; go_simp; exact wrap_i64_id _ (by omega) (by omega)⟩) hHeld ?_
                      try simp only [Act.put, List.setIfInBounds_toArray, List.set_cons_zero, List.set_cons_succ]
                      refine wpAnyH_take (i := 21) (oi := { dst := some 139, op := Op.binOp BinOp.mul 3 (Operand.const (Value.int IntKind.i64 256)) (Operand.tmp 138) 3, type := 3, pos := "outright.go:154", after := #[{ on := 20, ground := Ground.data }, { on := 11, ground := Ground.guard }], guard := some (11, false) }) (v := .int .i64 (256 * q)) rfl (by kernel_rfl) (by kernel_rfl) (by kernel_rfl) (fun _ _ _ h => h) (Or.inl ⟨by rfl, by intro w hS; go_simp; exact wrap_i64_id _ (by omega) (by omega)⟩) hHeld ?_
                      try simp only [Act.put, List.setIfInBounds_toArray, List.set_cons_zero, List.set_cons_succ]
                      refine wpAnyH_take (i := 23) (oi := { dst := some 141, op := Op.binOp BinOp.mul 3 (Operand.const (Value.int IntKind.i64 256)) (Operand.tmp 140) 3, type := 3, pos := "outright.go:154", after := #[{ on := 22, ground := Ground.data }, { on := 11, ground := Ground.guard }], guard := some (11, false) }) (v := .int .i64 (256 * q)) rfl (by kernel_rfl) (by kernel_rfl) (by kernel_rfl) (fun _ _ _ h => h) (Or.inl ⟨by rfl, by intro w hS; go_simp; exact wrap_i64_id _ (by omega) (by omega)⟩) hHeld ?_
                      try simp only [Act.put, List.setIfInBounds_toArray, List.set_cons_zero, List.set_cons_succ]
                      refine wpAnyH_take (i := 17) (oi := { dst := some 135, op := Op.binOp BinOp.add 3 (Operand.tmp 134) (Operand.const (Value.int IntKind.i64 256)) 3, type := 3, pos := "outright.go:154", after := #[{ on := 16, ground := Ground.data }, { on := 11, ground := Ground.guard }], guard := some (11, false) }) (v := .int .i64 (256 * q + 256)) rfl (by kernel_rfl) (by kernel_rfl) (by kernel_rfl) (fun _ _ _ h => h) (Or.inl ⟨by rfl, by intro w hS; go_simp; exact wrap_i64_id _ (by omega) (by omega)⟩) hHeld ?_
                      try simp only [Act.put, List.setIfInBounds_toArray, List.set_cons_zero, List.set_cons_succ]
                      refine wpAnyH_take (i := 24) (oi := { dst := some 142, op := Op.binOp BinOp.add 3 (Operand.tmp 141) (Operand.const (Value.int IntKind.i64 256)) 3, type := 3, pos := "outright.go:154", after := #[{ on := 23, ground := Ground.data }, { on := 11, ground := Ground.guard }], guard := some (11, false) }) (v := .int .i64 (256 * q + 256)) rfl (by kernel_rfl) (by kernel_rfl) (by kernel_rfl) (fun _ _ _ h => h) (Or.inl ⟨by rfl, by intro w hS; go_simp; exact wrap_i64_id _ (by omega) (by omega)⟩) hHeld ?_
                      try simp only [Act.put, List.setIfInBounds_toArray, List.set_cons_zero, List.set_cons_succ]
                      refine wpAnyH_take (i := 18) (oi := { dst := some 136, op := Op.slice 28 (Operand.tmp 130) (some (Operand.tmp 132)) (some (Operand.tmp 135)) none, type := 28, pos := "outright.go:154", after := #[{ on := 12, ground := Ground.data }, { on := 14, ground := Ground.data }, { on := 17, ground := Ground.data }, { on := 11, ground := Ground.guard }], guard := some (11, false) }) (v := .slice (some ⟨gi, 256 * q, none⟩) 256 (ci - 256 * q)) rfl (by kernel_rfl) (by kernel_rfl) (by kernel_rfl) (fun _ _ _ h => h) (Or.inl ⟨by rfl, by intro w hS; have hq := SL1.out w; go_simp⟩) hHeld ?_
                      try simp only [Act.put, List.setIfInBounds_toArray, List.set_cons_zero, List.set_cons_succ]
                      refine wpAnyH_take (i := 25) (oi := { dst := some 143, op := Op.slice 28 (Operand.tmp 137) (some (Operand.tmp 139)) (some (Operand.tmp 142)) none, type := 28, pos := "outright.go:154", after := #[{ on := 19, ground := Ground.data }, { on := 21, ground := Ground.data }, { on := 24, ground := Ground.data }, { on := 11, ground := Ground.guard }], guard := some (11, false) }) (v := .slice (some ⟨gk, 256 * q, none⟩) 256 (256 * k - 256 * q)) rfl (by kernel_rfl) (by kernel_rfl) (by kernel_rfl) (fun _ _ _ h => h) (Or.inl ⟨by rfl, by intro w hS; have hq := SL2.out w; go_simp⟩) hHeld ?_
                      try simp only [Act.put, List.setIfInBounds_toArray, List.set_cons_zero, List.set_cons_succ]
                      refine wpAnyH_ready (rs := [26]) (by kernel_rfl) (by simp) ?_
                      refine (AllReadyH.cons (o := { dst := some 144, op := Op.call { callee := Callee.value (Operand.func 15), args := #[Operand.tmp 136, Operand.tmp 143], argTypes := #[28, 28] }, type := 4, pos := "outright.go:154", after := #[{ on := 18, ground := Ground.data }, { on := 25, ground := Ground.data }, { on := 11, ground := Ground.chain }, { on := 11, ground := Ground.guard }], guard := some (11, false) }) rfl (fun K hK => ?_) AllReadyH.nil)
                      go_simp
                      go_at_call 15
                      refine KSM.out.mono ?_
                      rintro e w5 ⟨rfl, hB5⟩
                      go_wp2_with fail
                      refine hK.out _ _ (KS.out w5 hB5) (fun hHeld2 => ?_)
                      clear hK K hHeld
                      have hHeld := hHeld2
                      clear hHeld2
                      try simp only [Act.put, List.setIfInBounds_toArray, List.set_cons_zero, List.set_cons_succ]
                      refine wpAnyH_take (i := 27) (oi := { dst := some 145, op := Op.unOp UnOp.not 4 (Operand.tmp 144), type := 4, pos := "outright.go:154", after := #[{ on := 26, ground := Ground.data }, { on := 11, ground := Ground.guard }], guard := some (11, false) }) (v := .bool false) rfl (by kernel_rfl) (by kernel_rfl) (by kernel_rfl) (fun _ _ _ h => h) (Or.inl ⟨by rfl, by intro w hS; go_simp⟩) hHeld ?_
                      try simp only [Act.put, List.setIfInBounds_toArray, List.set_cons_zero, List.set_cons_succ]
                      refine wpAnyH_take (i := 28) (oi := { dst := some 146, op := Op.pick (Operand.tmp 129) (Operand.const (Value.bool true)) (Operand.tmp 145), type := 4, pos := "outright.go:154", after := #[{ on := 11, ground := Ground.data }, { on := 27, ground := Ground.data }, { on := 5, ground := Ground.guard }], guard := some (5, true) }) (v := .bool false) rfl (by kernel_rfl) (by kernel_rfl) (by kernel_rfl) (fun _ _ _ h => h) (Or.inl ⟨by rfl, by intro w hS; go_simp⟩) hHeld ?_
                      try simp only [Act.put, List.setIfInBounds_toArray, List.set_cons_zero, List.set_cons_succ]
                      refine wpAnyH_take (i := 29) (oi := { dst := some 147, op := Op.pick (Operand.tmp 123) (Operand.tmp 146) (Operand.const (Value.bool false)), type := 4, pos := "outright.go:154", after := #[{ on := 5, ground := Ground.data }, { on := 28, ground := Ground.data }], guard := none }) (v := .bool false) rfl (by kernel_rfl) (by kernel_rfl) (by kernel_rfl) (fun _ _ _ h => h) (Or.inl ⟨by rfl, by intro w hS; go_simp⟩) hHeld ?_
                      try simp only [Act.put, List.setIfInBounds_toArray, List.set_cons_zero, List.set_cons_succ]
                      refine wpAnyH_done (by kernel_rfl) ?_ _
                      refine NoPanic.normal ?_
                      clear hHeld
                      go_wp2
                      go_roundw
                      case rel => exact ⟨q + 1, by omega, by go_num, HBD.out.trans (hB5.mono HBS.out)⟩
                      case measure => simp [intOf]; omega
                  · obtain rfl : q = k := by omega
                    clear hql
                    have hB0 := HB0.out.trans (hBr.mono HT.out.hb)
                    have T := HT.out.below hBr
                    have hgn := (hBr.block gn (hlt_ HRN.out)).trans HRN.out
                    have hgk := (hBr.block gk (hlt_ HRK.out)).trans HRK.out
                    clear HT HB0 HRN HRK HRI hBr
                    go_wp2
                    go_roundw
                    case rel => exact ⟨i + 1, D2, _, by omega, by go_num, HL2.out, hgn, hgk, T.drop, hB0⟩
                    case measure => simp [intOf]; omega
              · have i2 : ¬ (i : Int) < (fss.length : Int) := by omega
                have HL2 := hid (lst_sync hk3 HL.out (by omega) HDK.out HXL.out rs HRO.out.1 HRO.out.2)
                go_wp2_with fail
                clear c2
                obtain ⟨F, hDA, hGF, hnx⟩ := T.at 0 (by simp)
                change DA wr B F p1 (D.laid rs) at hDA
                change ∀ (w' : World) (D' : DS), Nx B F p1 wr D' w' → TL B w' [(p1, D')] [gn, gk] ∧ Below B wr w' ∧ ∀ g ∈ [gn, gk], w'.heap[g]? = wr.heap[g]? at hnx
                refine (Sync0_any wr B F p1 (D.laid rs) hDA HL.out.pw HL.out.ar (by show D.syncs < _; have := HL.out.sl; omega)).mono ?_
                rintro e w501 ⟨rfl, hN⟩
                obtain ⟨T1, hBy, hKx⟩ := hnx _ _ hN
                clear hnx hDA hGF hN
                have hgn := (hKx gn (by simp)).trans hgn
                have hgk := (hKx gk (by simp)).trans hgk
                have hB0 := hB0.trans hBy
                have T0 : B ≤ w501.heap.size := T1.hb
                clear T hBy hKx
                have T := T1
                clear T1
                change TL B w501 [(p1, (D.laid rs).sy0)] [gn, gk] at T
                generalize (D.laid rs).sy0 = D2 at *
                have HD2 := hid (show DsOk D2 by obtain ⟨F, hDA, _⟩ := T.at 0 (by simp); exact hDA.ok)
                have HDL := hid (HL2.out.len HD2.out)
                go_wp2_with fail
                obtain ⟨F, hDA, hGF, hnx⟩ := T.at 0 (by simp)
                change DA w501 B F p1 D2 at hDA
                clear hnx hGF
                refine (Image_any w501 B F p1 _ hDA).mono ?_
                rintro e w542 ⟨vi, rfl, hO, hBx⟩
                have hzz : 0 < (D2.img).length := by rw [himl _ hDA.ok]; have := hDA.ok.np.1; omega
                obtain ⟨gvi, T1, LI, hgBvi⟩ := T.listb hBx hO hzz
                have hBy : Below B w501 w542 := hBx.mono T0
                have T0 : B ≤ w542.heap.size := T1.hb
                have hB0 := hB0.trans hBy
                have hgn := (hBx.block gn (hlt_ hgn)).trans hgn
                have hgk := (hBx.block gk (hlt_ hgk)).trans hgk
                clear T hBx hBy hO hzz
                have T := T1
                clear T1
                change TL B w542 [(p1, D2)] (gvi :: [gn, gk]) at T
                clear hDA
                obtain ⟨gi, ci, ri, hvi, _, hgi, hci, hmi, hoi⟩ := own_in LI.1 (by rw [HDL.out]; omega)
                rw [HDL.out] at hvi hci
                subst hvi
                clear LI hoi
                have hci2 : 256 * (k : Int) ≤ (ci : Int) := by omega
                go_wp2_with fail
                have HT := hid T
                have HB0 := hid hB0
                have HRN := hid hgn
                have HRK := hid hgk
                have HRI := hid hgi
                clear T hB0 hgn hgk hgi T0
                go_loopw [17] (fun qv wr => ∃ q : Nat, q ≤ k ∧ qv = .int .i64 q ∧ Below w542.heap.size w542 wr) (fun qv _ => k - (intOf qv).toNat)
                case atStart => exact ⟨0, by omega, rfl, Below.refl _ _⟩
                case round =>
                  obtain ⟨q, hq, rfl, hBr⟩ := hrel
                  by_cases hql : q < k
                  · have q1 : (q : Int) < (k : Int) := by omega
                    have HBD := hid hBr.drew
                    have HBS := hid (show w542.heap.size ≤ wr.drew.heap.size from hBr.size)
                    have hRN := (hBr.drew.block gn (hlt_ HRN.out)).trans HRN.out
                    have hRK := (hBr.drew.block gk (hlt_ HRK.out)).trans HRK.out
                    have hRI := (hBr.drew.block gi (hlt_ HRI.out)).trans HRI.out
                    have hcx : wr.drew.cell? ⟨gn, q, none⟩ = some (.bool ((mark ns k rs rs.length).getD q false)) := by
                      have hnl : q < (mark ns k rs rs.length).length := by rw [HLN.out]; exact hql
                      rw [cell_of_row _ _ _ _ _ _ hRN, List.getElem?_toArray, bls, List.getElem?_map, List.getElem?_eq_getElem hnl, List.getD_eq_getElem?_getD, List.getElem?_eq_getElem hnl]; rfl
                    clear hBr
                    cases hnq : (mark ns k rs rs.length).getD q false with
                    | true =>
                      rw [hnq] at hcx
                      clear hRN hRK hRI hnq
                      go_wp2
                      refine wp_region_noPanic ?_
                      refine wp_region_held_drew (S := fun w' => w'.cell? ⟨gn, q, none⟩ = some (.bool true)) (by kernel_rfl) hcx (fun hHeld => ?_)
                      refine wpAnyH_take (i := 0) (oi := { dst := some 118, op := Op.move (Operand.tmp 13), type := 34, pos := "outright.go:154", after := #[], guard := none }) (v := .slice (some ⟨gn, 0, none⟩) k k) rfl (by kernel_rfl) (by kernel_rfl) (by kernel_rfl) (fun _ _ _ h => h) (Or.inl ⟨by rfl, by intro w hS; go_simp⟩) hHeld ?_
                      try simp only [Act.put, List.setIfInBounds_toArray, List.set_cons_zero, List.set_cons_succ]
                      refine wpAnyH_take (i := 1) (oi := { dst := some 119, op := Op.move (Operand.tmp 17), type := 3, pos := "outright.go:154", after := #[], guard := none }) (v := .int .i64 q) rfl (by kernel_rfl) (by kernel_rfl) (by kernel_rfl) (fun _ _ _ h => h) (Or.inl ⟨by rfl, by intro w hS; go_simp⟩) hHeld ?_
                      try simp only [Act.put, List.setIfInBounds_toArray, List.set_cons_zero, List.set_cons_succ]
                      refine wpAnyH_take (i := 2) (oi := { dst := some 120, op := Op.indexAddr 34 (Operand.tmp 118) (Operand.tmp 119), type := 0, pos := "outright.go:154", after := #[{ on := 0, ground := Ground.data }, { on := 1, ground := Ground.data }], guard := none }) (v := .pointer (some ⟨gn, q, none⟩)) rfl (by kernel_rfl) (by kernel_rfl) (by kernel_rfl) (fun _ _ _ h => h) (Or.inl ⟨by rfl, by intro w hS; go_simp⟩) hHeld ?_
                      try simp only [Act.put, List.setIfInBounds_toArray, List.set_cons_zero, List.set_cons_succ]
                      refine wpAnyH_take (i := 3) (oi := { dst := some 121, op := Op.load 4 (Operand.tmp 120), type := 4, pos := "outright.go:154", after := #[{ on := 2, ground := Ground.data }], guard := none }) (v := .bool true) rfl (by kernel_rfl) (by kernel_rfl) (by kernel_rfl) (fun _ _ _ h => h) (Or.inl ⟨by rfl, by intro w hS; have hc := hS; go_simp⟩) hHeld ?_
                      try simp only [Act.put, List.setIfInBounds_toArray, List.set_cons_zero, List.set_cons_succ]
                      refine wpAnyH_take (i := 4) (oi := { dst := some 122, op := Op.unOp UnOp.not 4 (Operand.tmp 121), type := 4, pos := "outright.go:154", after := #[{ on := 3, ground := Ground.data }], guard := none }) (v := .bool false) rfl (by kernel_rfl) (by kernel_rfl) (by kernel_rfl) (fun _ _ _ h => h) (Or.inl ⟨by rfl, by intro w hS; go_simp⟩) hHeld ?_
                      try simp only [Act.put, List.setIfInBounds_toArray, List.set_cons_zero, List.set_cons_succ]
                      refine wpAnyH_take (i := 5) (oi := { dst := some 123, op := Op.move (Operand.tmp 122), type := 4, pos := "outright.go:154", after := #[{ on := 4, ground := Ground.data }], guard := none }) (v := .bool false) rfl (by kernel_rfl) (by kernel_rfl) (by kernel_rfl) (fun _ _ _ h => h) (Or.inl ⟨by rfl, by intro w hS; go_simp⟩) hHeld ?_
                      try simp only [Act.put, List.setIfInBounds_toArray, List.set_cons_zero, List.set_cons_succ]
                      refine wpAnyH_take (i := 6) (oi := { dst := some 124, op := Op.move (Operand.tmp 16), type := 28, pos := "outright.go:154", after := #[{ on := 5, ground := Ground.guard }], guard := some (5, true) }) (v := undef) rfl (by kernel_rfl) (by kernel_rfl) (by kernel_rfl) (fun _ _ _ h => h) (Or.inr ⟨by rfl, rfl⟩) hHeld ?_
                      try simp only [Act.put, List.setIfInBounds_toArray, List.set_cons_zero, List.set_cons_succ]
                      refine wpAnyH_take (i := 8) (oi := { dst := some 126, op := Op.move (Operand.tmp 10), type := 3, pos := "outright.go:154", after := #[{ on := 5, ground := Ground.guard }], guard := some (5, true) }) (v := undef) rfl (by kernel_rfl) (by kernel_rfl) (by kernel_rfl) (fun _ _ _ h => h) (Or.inr ⟨by rfl, rfl⟩) hHeld ?_
                      try simp only [Act.put, List.setIfInBounds_toArray, List.set_cons_zero, List.set_cons_succ]
                      refine wpAnyH_take (i := 7) (oi := { dst := some 125, op := Op.call { callee := Callee.builtin Builtin.len, args := #[Operand.tmp 124], argTypes := #[28] }, type := 3, pos := "outright.go:154", after := #[{ on := 6, ground := Ground.data }, { on := 5, ground := Ground.guard }], guard := some (5, true) }) (v := undef) rfl (by kernel_rfl) (by kernel_rfl) (by kernel_rfl) (fun _ _ _ h => h) (Or.inr ⟨by rfl, rfl⟩) hHeld ?_
                      try simp only [Act.put, List.setIfInBounds_toArray, List.set_cons_zero, List.set_cons_succ]
                      refine wpAnyH_take (i := 9) (oi := { dst := some 127, op := Op.binOp BinOp.mul 3 (Operand.const (Value.int IntKind.i64 256)) (Operand.tmp 126) 3, type := 3, pos := "outright.go:154", after := #[{ on := 8, ground := Ground.data }, { on := 5, ground := Ground.guard }], guard := some (5, true) }) (v := undef) rfl (by kernel_rfl) (by kernel_rfl) (by kernel_rfl) (fun _ _ _ h => h) (Or.inr ⟨by rfl, rfl⟩) hHeld ?_
                      try simp only [Act.put, List.setIfInBounds_toArray, List.set_cons_zero, List.set_cons_succ]
                      refine wpAnyH_take (i := 10) (oi := { dst := some 128, op := Op.binOp BinOp.neq 3 (Operand.tmp 125) (Operand.tmp 127) 3, type := 4, pos := "outright.go:154", after := #[{ on := 7, ground := Ground.data }, { on := 9, ground := Ground.data }, { on := 5, ground := Ground.guard }], guard := some (5, true) }) (v := undef) rfl (by kernel_rfl) (by kernel_rfl) (by kernel_rfl) (fun _ _ _ h => h) (Or.inr ⟨by rfl, rfl⟩) hHeld ?_
                      try simp only [Act.put, List.setIfInBounds_toArray, List.set_cons_zero, List.set_cons_succ]
                      refine wpAnyH_take (i := 11) (oi := { dst := some 129, op := Op.move (Operand.tmp 128), type := 4, pos := "outright.go:154", after := #[{ on := 10, ground := Ground.data }, { on := 5, ground := Ground.chain }, { on := 5, ground := Ground.guard }], guard := some (5, true) }) (v := undef) rfl (by kernel_rfl) (by kernel_rfl) (by kernel_rfl) (fun _ _ _ h => h) (Or.inr ⟨by rfl, rfl⟩) hHeld ?_
                      try simp only [Act.put, List.setIfInBounds_toArray, List.set_cons_zero, List.set_cons_succ]
                      refine wpAnyH_take (i := 12) (oi := { dst := some 130, op := Op.move (Operand.tmp 16), type := 28, pos := "outright.go:154", after := #[{ on := 11, ground := Ground.guard }], guard := some (11, false) }) (v := undef) rfl (by kernel_rfl) (by kernel_rfl) (by kernel_rfl) (fun _ _ _ h => h) (Or.inr ⟨by rfl, rfl⟩) hHeld ?_
                      try simp only [Act.put, List.setIfInBounds_toArray, List.set_cons_zero, List.set_cons_succ]
                      refine wpAnyH_take (i := 13) (oi := { dst := some 131, op := Op.move (Operand.tmp 17), type := 3, pos := "outright.go:154", after := #[{ on := 11, ground := Ground.guard }], guard := some (11, false) }) (v := undef) rfl (by kernel_rfl) (by kernel_rfl) (by kernel_rfl) (fun _ _ _ h => h) (Or.inr ⟨by rfl, rfl⟩) hHeld ?_
                      try simp only [Act.put, List.setIfInBounds_toArray, List.set_cons_zero, List.set_cons_succ]
                      refine wpAnyH_take (i := 15) (oi := { dst := some 133, op := Op.move (Operand.tmp 17), type := 3, pos := "outright.go:154", after := #[{ on := 11, ground := Ground.guard }], guard := some (11, false) }) (v := undef) rfl (by kernel_rfl) (by kernel_rfl) (by kernel_rfl) (fun _ _ _ h => h) (Or.inr ⟨by rfl, rfl⟩) hHeld ?_
                      try simp only [Act.put, List.setIfInBounds_toArray, List.set_cons_zero, List.set_cons_succ]
                      refine wpAnyH_take (i := 19) (oi := { dst := some 137, op := Op.move (Operand.tmp 11), type := 28, pos := "outright.go:154", after := #[{ on := 11, ground := Ground.guard }], guard := some (11, false) }) (v := undef) rfl (by kernel_rfl) (by kernel_rfl) (by kernel_rfl) (fun _ _ _ h => h) (Or.inr ⟨by rfl, rfl⟩) hHeld ?_
                      try simp only [Act.put, List.setIfInBounds_toArray, List.set_cons_zero, List.set_cons_succ]
                      refine wpAnyH_take (i := 20) (oi := { dst := some 138, op := Op.move (Operand.tmp 17), type := 3, pos := "outright.go:154", after := #[{ on := 11, ground := Ground.guard }], guard := some (11, false) }) (v := undef) rfl (by kernel_rfl) (by kernel_rfl) (by kernel_rfl) (fun _ _ _ h => h) (Or.inr ⟨by rfl, rfl⟩) hHeld ?_
                      try simp only [Act.put, List.setIfInBounds_toArray, List.set_cons_zero, List.set_cons_succ]
                      refine wpAnyH_take (i := 22) (oi := { dst := some 140, op := Op.move (Operand.tmp 17), type := 3, pos := "outright.go:154", after := #[{ on := 11, ground := Ground.guard }], guard := some (11, false) }) (v := undef) rfl (by kernel_rfl) (by kernel_rfl) (by kernel_rfl) (fun _ _ _ h => h) (Or.inr ⟨by rfl, rfl⟩) hHeld ?_
                      try simp only [Act.put, List.setIfInBounds_toArray, List.set_cons_zero, List.set_cons_succ]
                      refine wpAnyH_take (i := 14) (oi := { dst := some 132, op := Op.binOp BinOp.mul 3 (Operand.const (Value.int IntKind.i64 256)) (Operand.tmp 131) 3, type := 3, pos := "outright.go:154", after := #[{ on := 13, ground := Ground.data }, { on := 11, ground := Ground.guard }], guard := some (11, false) }) (v := undef) rfl (by kernel_rfl) (by kernel_rfl) (by kernel_rfl) (fun _ _ _ h => h) (Or.inr ⟨by rfl, rfl⟩) hHeld ?_
                      try simp only [Act.put, List.setIfInBounds_toArray, List.set_cons_zero, List.set_cons_succ]
                      refine wpAnyH_take (i := 16) (oi := { dst := some 134, op := Op.binOp BinOp.mul 3 (Operand.const (Value.int IntKind.i64 256)) (Operand.tmp 133) 3, type := 3, pos := "outright.go:154", after := #[{ on := 15, ground := Ground.data }, { on := 11, ground := Ground.guard }], guard := some (11, false) }) (v := undef) rfl (by kernel_rfl) (by kernel_rfl) (by kernel_rfl) (fun _ _ _ h => h) (Or.inr ⟨by rfl, rfl⟩) hHeld ?_
                      try simp only [Act.put, List.setIfInBounds_toArray, List.set_cons_zero, List.set_cons_succ]
                      refine wpAnyH_take (i := 21) (oi := { dst := some 139, op := Op.binOp BinOp.mul 3 (Operand.const (Value.int IntKind.i64 256)) (Operand.tmp 138) 3, type := 3, pos := "outright.go:154", after := #[{ on := 20, ground := Ground.data }, { on := 11, ground := Ground.guard }], guard := some (11, false) }) (v := undef) rfl (by kernel_rfl) (by kernel_rfl) (by kernel_rfl) (fun _ _ _ h => h) (Or.inr ⟨by rfl, rfl⟩) hHeld ?_
                      try simp only [Act.put, List.setIfInBounds_toArray, List.set_cons_zero, List.set_cons_succ]
                      refine wpAnyH_take (i := 23) (oi := { dst := some 141, op := Op.binOp BinOp.mul 3 (Operand.const (Value.int IntKind.i64 256)) (Operand.tmp 140) 3, type := 3, pos := "outright.go:154", after := #[{ on := 22, ground := Ground.data }, { on := 11, ground := Ground.guard }], guard := some (11, false) }) (v := undef) rfl (by kernel_rfl) (by kernel_rfl) (by kernel_rfl) (fun _ _ _ h => h) (Or.inr ⟨by rfl, rfl⟩) hHeld ?_
                      try simp only [Act.put, List.setIfInBounds_toArray, List.set_cons_zero, List.set_cons_succ]
                      refine wpAnyH_take (i := 17) (oi := { dst := some 135, op := Op.binOp BinOp.add 3 (Operand.tmp 134) (Operand.const (Value.int IntKind.i64 256)) 3, type := 3, pos := "outright.go:154", after := #[{ on := 16, ground := Ground.data }, { on := 11, ground := Ground.guard }], guard := some (11, false) }) (v := undef) rfl (by kernel_rfl) (by kernel_rfl) (by kernel_rfl) (fun _ _ _ h => h) (Or.inr ⟨by rfl, rfl⟩) hHeld ?_
                      try simp only [Act.put, List.setIfInBounds_toArray, List.set_cons_zero, List.set_cons_succ]
                      refine wpAnyH_take (i := 24) (oi := { dst := some 142, op := Op.binOp BinOp.add 3 (Operand.tmp 141) (Operand.const (Value.int IntKind.i64 256)) 3, type := 3, pos := "outright.go:154", after := #[{ on := 23, ground := Ground.data }, { on := 11, ground := Ground.guard }], guard := some (11, false) }) (v := undef) rfl (by kernel_rfl) (by kernel_rfl) (by kernel_rfl) (fun _ _ _ h => h) (Or.inr ⟨by rfl, rfl⟩) hHeld ?_
                      try simp only [Act.put, List.setIfInBounds_toArray, List.set_cons_zero, List.set_cons_succ]
                      refine wpAnyH_take (i := 18) (oi := { dst := some 136, op := Op.slice 28 (Operand.tmp 130) (some (Operand.tmp 132)) (some (Operand.tmp 135)) none, type := 28, pos := "outright.go:154", after := #[{ on := 12, ground := Ground.data }, { on := 14, ground := Ground.data }, { on := 17, ground := Ground.data }, { on := 11, ground := Ground.guard }], guard := some (11, false) }) (v := undef) rfl (by kernel_rfl) (by kernel_rfl) (by kernel_rfl) (fun _ _ _ h => h) (Or.inr ⟨by rfl, rfl⟩) hHeld ?_
                      try simp only [Act.put, List.setIfInBounds_toArray, List.set_cons_zero, List.set_cons_succ]
                      refine wpAnyH_take (i := 25) (oi := { dst := some 143, op := Op.slice 28 (Operand.tmp 137) (some (Operand.tmp 139)) (some (Operand.tmp 142)) none, type := 28, pos := "outright.go:154", after := #[{ on := 19, ground := Ground.data }, { on := 21, ground := Ground.data }, { on := 24, ground := Ground.data }, { on := 11, ground := Ground.guard }], guard := some (11, false) }) (v := undef) rfl (by kernel_rfl) (by kernel_rfl) (by kernel_rfl) (fun _ _ _ h => h) (Or.inr ⟨by rfl, rfl⟩) hHeld ?_
                      try simp only [Act.put, List.setIfInBounds_toArray, List.set_cons_zero, List.set_cons_succ]
                      refine wpAnyH_take (i := 26) (oi := { dst := some 144, op := Op.call { callee := Callee.value (Operand.func 15), args := #[Operand.tmp 136, Operand.tmp 143], argTypes := #[28, 28] }, type := 4, pos := "outright.go:154", after := #[{ on := 18, ground := Ground.data }, { on := 25, ground := Ground.data }, { on := 11, ground := Ground.chain }, { on := 11, ground := Ground.guard }], guard := some (11, false) }) (v := undef) rfl (by kernel_rfl) (by kernel_rfl) (by kernel_rfl) (fun _ _ _ h => h) (Or.inr ⟨by rfl, rfl⟩) hHeld ?_
                      try simp only [Act.put, List.setIfInBounds_toArray, List.set_cons_zero, List.set_cons_succ]
                      refine wpAnyH_take (i := 27) (oi := { dst := some 145, op := Op.unOp UnOp.not 4 (Operand.tmp 144), type := 4, pos := "outright.go:154", after := #[{ on := 26, ground := Ground.data }, { on := 11, ground := Ground.guard }], guard := some (11, false) }) (v := undef) rfl (by kernel_rfl) (by kernel_rfl) (by kernel_rfl) (fun _ _ _ h => h) (Or.inr ⟨by rfl, rfl⟩) hHeld ?_
                      try simp only [Act.put, List.setIfInBounds_toArray, List.set_cons_zero, List.set_cons_succ]
                      refine wpAnyH_take (i := 28) (oi := { dst := some 146, op := Op.pick (Operand.tmp 129) (Operand.const (Value.bool true)) (Operand.tmp 145), type := 4, pos := "outright.go:154", after := #[{ on := 11, ground := Ground.data }, { on := 27, ground := Ground.data }, { on := 5, ground := Ground.guard }], guard := some (5, true) }) (v := undef) rfl (by kernel_rfl) (by kernel_rfl) (by kernel_rfl) (fun _ _ _ h => h) (Or.inr ⟨by rfl, rfl⟩) hHeld ?_
                      try simp only [Act.put, List.setIfInBounds_toArray, List.set_cons_zero, List.set_cons_succ]
                      refine wpAnyH_take (i := 29) (oi := { dst := some 147, op := Op.pick (Operand.tmp 123) (Operand.tmp 146) (Operand.const (Value.bool false)), type := 4, pos := "outright.go:154", after := #[{ on := 5, ground := Ground.data }, { on := 28, ground := Ground.data }], guard := none }) (v := .bool false) rfl (by kernel_rfl) (by kernel_rfl) (by kernel_rfl) (fun _ _ _ h => h) (Or.inl ⟨by rfl, by intro w hS; go_simp⟩) hHeld ?_
                      try simp only [Act.put, List.setIfInBounds_toArray, List.set_cons_zero, List.set_cons_succ]
                      refine wpAnyH_done (by kernel_rfl) ?_ _
                      refine NoPanic.normal ?_
                      clear hHeld
                      go_wp2
                      go_roundw
                      case rel => exact ⟨q + 1, by omega, by go_num, HBD.out⟩
                      case measure => simp [intOf]; omega
                    | false =>
                      rw [hnq] at hcx
                      have hkp := HL2.out.kp q hql hnq
                      have KSM := hid (show Calls Try.prog 15 #[.slice (some ⟨gi, 256 * q, none⟩) 256 (ci - 256 * q), .slice (some ⟨gk, 256 * q, none⟩) 256 (256 * k - 256 * q)] wr.drew fun e w' => e = .returned (.bool true) ∧ Below wr.drew.heap.size wr.drew w' by
                        have := same_to wr.drew ((D2.img.drop (256 * q)).take 256) ((((newD Z).laid rs1).sy0.img.drop (256 * q)).take 256) _ _ _ _ (src_part hRI (256 * q) 256 (ci - 256 * q) (by rw [HDL.out]; omega) (by omega) (by omega)) (src_part (rest := []) (by rw [List.append_nil]; exact hRK) (256 * q) 256 (256 * k - 256 * q) (by rw [HXL.out]; omega) (by omega) (by unfold maxLen; omega)) 256 256 (by rw [List.length_take, List.length_drop, HDL.out]; omega) (by rw [List.length_take, List.length_drop, HXL.out]; omega)
                        rw [decide_eq_true hkp] at this
                        exact this)
                      have SL1 := hid (fun (wx : World) => (show (Instr.slice 28 (.slice (some ⟨gi, 0, none⟩) (256 * k) ci) (some (.int .i64 (256 * (q : Int)))) (some (.int .i64 (256 * (q : Int) + 256))) none).run Try.prog wx = .ok (.slice (some ⟨gi, 256 * q, none⟩) 256 (ci - 256 * q)) wx by
                        have := sl_lh wx gi (256 * k) ci (256 * q) (256 * q + 256) (by omega) (by omega); push_cast at this; rw [show 256 * q + 256 - 256 * q = 256 by omega] at this; exact this))
                      have SL2 := hid (fun (wx : World) => (show (Instr.slice 28 (.slice (some ⟨gk, 0, none⟩) (256 * k) (256 * k)) (some (.int .i64 (256 * (q : Int)))) (some (.int .i64 (256 * (q : Int) + 256))) none).run Try.prog wx = .ok (.slice (some ⟨gk, 256 * q, none⟩) 256 (256 * k - 256 * q)) wx by
                        have := sl_lh wx gk (256 * k) (256 * k) (256 * q) (256 * q + 256) (by omega) (by omega); push_cast at this; rw [show 256 * q + 256 - 256 * q = 256 by omega] at this; exact this))
                      have KS := hid (fun (w5 : World) (h5 : Below wr.drew.heap.size wr.drew w5) => (show w5.cell? ⟨gn, q, none⟩ = some (.bool false) from (h5.cell (p := ⟨gn, q, none⟩) (hlt_ hRN)).trans hcx))
                      clear hRN hRK hRI hnq hkp
                      go_wp2
                      refine wp_region_noPanic ?_
                      refine wp_region_held_drew (S := fun w' => w'.cell? ⟨gn, q, none⟩ = some (.bool false)) (by kernel_rfl) hcx (fun hHeld => ?_)
                      refine wpAnyH_take (i := 0) (oi := { dst := some 118, op := Op.move (Operand.tmp 13), type := 34, pos := "outright.go:154", after := #[], guard := none }) (v := .slice (some ⟨gn, 0, none⟩) k k) rfl (by kernel_rfl) (by kernel_rfl) (by kernel_rfl) (fun _ _ _ h => h) (Or.inl ⟨by rfl, by intro w hS; go_simp⟩) hHeld ?_
                      try simp only [Act.put, List.setIfInBounds_toArray, List.set_cons_zero, List.set_cons_succ]
                      refine wpAnyH_take (i := 1) (oi := { dst := some 119, op := Op.move (Operand.tmp 17), type := 3, pos := "outright.go:154", after := #[], guard := none }) (v := .int .i64 q) rfl (by kernel_rfl) (by kernel_rfl) (by kernel_rfl) (fun _ _ _ h => h) (Or.inl ⟨by rfl, by intro w hS; go_simp⟩) hHeld ?_
                      try simp only [Act.put, List.setIfInBounds_toArray, List.set_cons_zero, List.set_cons_succ]
                      refine wpAnyH_take (i := 2) (oi := { dst := some 120, op := Op.indexAddr 34 (Operand.tmp 118) (Operand.tmp 119), type := 0, pos := "outright.go:154", after := #[{ on := 0, ground := Ground.data }, { on := 1, ground := Ground.data }], guard := none }) (v := .pointer (some ⟨gn, q, none⟩)) rfl (by kernel_rfl) (by kernel_rfl) (by kernel_rfl) (fun _ _ _ h => h) (Or.inl ⟨by rfl, by intro w hS; go_simp⟩) hHeld ?_
                      try simp only [Act.put, List.setIfInBounds_toArray, List.set_cons_zero, List.set_cons_succ]
                      refine wpAnyH_take (i := 3) (oi := { dst := some 121, op := Op.load 4 (Operand.tmp 120), type := 4, pos := "outright.go:154", after := #[{ on := 2, ground := Ground.data }], guard := none }) (v := .bool false) rfl (by kernel_rfl) (by kernel_rfl) (by kernel_rfl) (fun _ _ _ h => h) (Or.inl ⟨by rfl, by intro w hS; have hc := hS; go_simp⟩) hHeld ?_
                      try simp only [Act.put, List.setIfInBounds_toArray, List.set_cons_zero, List.set_cons_succ]
                      refine wpAnyH_take (i := 4) (oi := { dst := some 122, op := Op.unOp UnOp.not 4 (Operand.tmp 121), type := 4, pos := "outright.go:154", after := #[{ on := 3, ground := Ground.data }], guard := none }) (v := .bool true) rfl (by kernel_rfl) (by kernel_rfl) (by kernel_rfl) (fun _ _ _ h => h) (Or.inl ⟨by rfl, by intro w hS; go_simp⟩) hHeld ?_
                      try simp only [Act.put, List.setIfInBounds_toArray, List.set_cons_zero, List.set_cons_succ]
                      refine wpAnyH_take (i := 5) (oi := { dst := some 123, op := Op.move (Operand.tmp 122), type := 4, pos := "outright.go:154", after := #[{ on := 4, ground := Ground.data }], guard := none }) (v := .bool true) rfl (by kernel_rfl) (by kernel_rfl) (by kernel_rfl) (fun _ _ _ h => h) (Or.inl ⟨by rfl, by intro w hS; go_simp⟩) hHeld ?_
                      try simp only [Act.put, List.setIfInBounds_toArray, List.set_cons_zero, List.set_cons_succ]
                      refine wpAnyH_take (i := 6) (oi := { dst := some 124, op := Op.move (Operand.tmp 16), type := 28, pos := "outright.go:154", after := #[{ on := 5, ground := Ground.guard }], guard := some (5, true) }) (v := .slice (some ⟨gi, 0, none⟩) (256 * k) ci) rfl (by kernel_rfl) (by kernel_rfl) (by kernel_rfl) (fun _ _ _ h => h) (Or.inl ⟨by rfl, by intro w hS; go_simp⟩) hHeld ?_
                      try simp only [Act.put, List.setIfInBounds_toArray, List.set_cons_zero, List.set_cons_succ]
                      refine wpAnyH_take (i := 8) (oi := { dst := some 126, op := Op.move (Operand.tmp 10), type := 3, pos := "outright.go:154", after := #[{ on := 5, ground := Ground.guard }], guard := some (5, true) }) (v := .int .i64 k) rfl (by kernel_rfl) (by kernel_rfl) (by kernel_rfl) (fun _ _ _ h => h) (Or.inl ⟨by rfl, by intro w hS; go_simp⟩) hHeld ?_
                      try simp only [Act.put, List.setIfInBounds_toArray, List.set_cons_zero, List.set_cons_succ]
                      refine wpAnyH_take (i := 7) (oi := { dst := some 125, op := Op.call { callee := Callee.builtin Builtin.len, args := #[Operand.tmp 124], argTypes := #[28] }, type := 3, pos := "outright.go:154", after := #[{ on := 6, ground := Ground.data }, { on := 5, ground := Ground.guard }], guard := some (5, true) }) (v := .int .i64 (256 * k)) rfl (by kernel_rfl) (by kernel_rfl) (by kernel_rfl) (fun _ _ _ h => h) (Or.inl ⟨by rfl, by intro w hS; go_simp⟩) hHeld ?_
                      try simp only [Act.put, List.setIfInBounds_toArray, List.set_cons_zero, List.set_cons_succ]
                      refine wpAnyH_take (i := 9) (oi := { dst := some 127, op := Op.binOp BinOp.mul 3 (Operand.const (Value.int IntKind.i64 256)) (Operand.tmp 126) 3, type := 3, pos := "outright.go:154", after := #[{ on := 8, ground := Ground.data }, { on := 5, ground := Ground.guard }], guard := some (5, true) }) (v := .int .i64 (256 * k)) rfl (by kernel_rfl) (by kernel_rfl) (by kernel_rfl) (fun _ _ _ h => h) (Or.inl ⟨by rfl, by intro w hS; go_simp; exact wrap_i64_id _ (by omega) (by omega)⟩) hHeld ?_
                      try simp only [Act.put, List.setIfInBounds_toArray, List.set_cons_zero, List.set_cons_succ]
                      refine wpAnyH_take (i := 10) (oi := { dst := some 128, op := Op.binOp BinOp.neq 3 (Operand.tmp 125) (Operand.tmp 127) 3, type := 4, pos := "outright.go:154", after := #[{ on := 7, ground := Ground.data }, { on := 9, ground := Ground.data }, { on := 5, ground := Ground.guard }], guard := some (5, true) }) (v := .bool false) rfl (by kernel_rfl) (by kernel_rfl) (by kernel_rfl) (fun _ _ _ h => h) (Or.inl ⟨by rfl, by intro w hS; go_simp⟩) hHeld ?_
                      try simp only [Act.put, List.setIfInBounds_toArray, List.set_cons_zero, List.set_cons_succ]
                      refine wpAnyH_take (i := 11) (oi := { dst := some 129, op := Op.move (Operand.tmp 128), type := 4, pos := "outright.go:154", after := #[{ on := 10, ground := Ground.data }, { on := 5, ground := Ground.chain }, { on := 5, ground := Ground.guard }], guard := some (5, true) }) (v := .bool false) rfl (by kernel_rfl) (by kernel_rfl) (by kernel_rfl) (fun _ _ _ h => h) (Or.inl ⟨by rfl, by intro w hS; go_simp⟩) hHeld ?_
                      try simp only [Act.put, List.setIfInBounds_toArray, List.set_cons_zero, List.set_cons_succ]
                      refine wpAnyH_take (i := 12) (oi := { dst := some 130, op := Op.move (Operand.tmp 16), type := 28, pos := "outright.go:154", after := #[{ on := 11, ground := Ground.guard }], guard := some (11, false) }) (v := .slice (some ⟨gi, 0, none⟩) (256 * k) ci) rfl (by kernel_rfl) (by kernel_rfl) (by kernel_rfl) (fun _ _ _ h => h) (Or.inl ⟨by rfl, by intro w hS; go_simp⟩) hHeld ?_
                      try simp only [Act.put, List.setIfInBounds_toArray, List.set_cons_zero, List.set_cons_succ]
                      refine wpAnyH_take (i := 13) (oi := { dst := some 131, op := Op.move (Operand.tmp 17), type := 3, pos := "outright.go:154", after := #[{ on := 11, ground := Ground.guard }], guard := some (11, false) }) (v := .int .i64 q) rfl (by kernel_rfl) (by kernel_rfl) (by kernel_rfl) (fun _ _ _ h => h) (Or.inl ⟨by rfl, by intro w hS; go_simp⟩) hHeld ?_
                      try simp only [Act.put, List.setIfInBounds_toArray, List.set_cons_zero, List.set_cons_succ]
                      refine wpAnyH_take (i := 15) (oi := { dst := some 133, op := Op.move (Operand.tmp 17), type := 3, pos := "outright.go:154", after := #[{ on := 11, ground := Ground.guard }], guard := some (11, false) }) (v := .int .i64 q) rfl (by kernel_rfl) (by kernel_rfl) (by kernel_rfl) (fun _ _ _ h => h) (Or.inl ⟨by rfl, by intro w hS; go_simp⟩) hHeld ?_
                      try simp only [Act.put, List.setIfInBounds_toArray, List.set_cons_zero, List.set_cons_succ]
                      refine wpAnyH_take (i := 19) (oi := { dst := some 137, op := Op.move (Operand.tmp 11), type := 28, pos := "outright.go:154", after := #[{ on := 11, ground := Ground.guard }], guard := some (11, false) }) (v := .slice (some ⟨gk, 0, none⟩) (256 * k) (256 * k)) rfl (by kernel_rfl) (by kernel_rfl) (by kernel_rfl) (fun _ _ _ h => h) (Or.inl ⟨by rfl, by intro w hS; go_simp⟩) hHeld ?_
                      try simp only [Act.put, List.setIfInBounds_toArray, List.set_cons_zero, List.set_cons_succ]
                      refine wpAnyH_take (i := 20) (oi := { dst := some 138, op := Op.move (Operand.tmp 17), type := 3, pos := "outright.go:154", after := #[{ on := 11, ground := Ground.guard }], guard := some (11, false) }) (v := .int .i64 q) rfl (by kernel_rfl) (by kernel_rfl) (by kernel_rfl) (fun _ _ _ h => h) (Or.inl ⟨by rfl, by intro w hS; go_simp⟩) hHeld ?_
                      try simp only [Act.put, List.setIfInBounds_toArray, List.set_cons_zero, List.set_cons_succ]
                      refine wpAnyH_take (i := 22) (oi := { dst := some 140, op := Op.move (Operand.tmp 17), type := 3, pos := "outright.go:154", after := #[{ on := 11, ground := Ground.guard }], guard := some (11, false) }) (v := .int .i64 q) rfl (by kernel_rfl) (by kernel_rfl) (by kernel_rfl) (fun _ _ _ h => h) (Or.inl ⟨by rfl, by intro w hS; go_simp⟩) hHeld ?_
                      try simp only [Act.put, List.setIfInBounds_toArray, List.set_cons_zero, List.set_cons_succ]
                      refine wpAnyH_take (i := 14) (oi := { dst := some 132, op := Op.binOp BinOp.mul 3 (Operand.const (Value.int IntKind.i64 256)) (Operand.tmp 131) 3, type := 3, pos := "outright.go:154", after := #[{ on := 13, ground := Ground.data }, { on := 11, ground := Ground.guard }], guard := some (11, false) }) (v := .int .i64 (256 * q)) rfl (by kernel_rfl) (by kernel_rfl) (by kernel_rfl) (fun _ _ _ h => h) (Or.inl ⟨by rfl, by intro w hS; go_simp; exact wrap_i64_id _ (by omega) (by omega)⟩) hHeld ?_
                      try simp only [Act.put, List.setIfInBounds_toArray, List.set_cons_zero, List.set_cons_succ]
                      refine wpAnyH_take (i := 16) (oi := { dst := some 134, op := Op.binOp BinOp.mul 3 (Operand.const (Value.int IntKind.i64 256)) (Operand.tmp 133) 3, type := 3, pos := "outright.go:154", after := #[{ on := 15, ground := Ground.data }, { on := 11, ground := Ground.guard }], guard := some (11, false) }) (v := .int .i64 (256 * q)) rfl (by kernel_rfl) (by kernel_rfl) (by kernel_rfl) (fun _ _ _ h => h) (Or.inl ⟨by rfl, by intro w hS; go_simp; exact wrap_i64_id _ (by omega) (by omega)⟩) hHeld ?_
                      try simp only [Act.put, List.setIfInBounds_toArray, List.set_cons_zero, List.set_cons_succ]
                      refine wpAnyH_take (i := 21) (oi := { dst := some 139, op := Op.binOp BinOp.mul 3 (Operand.const (Value.int IntKind.i64 256)) (Operand.tmp 138) 3, type := 3, pos := "outright.go:154", after := #[{ on := 20, ground := Ground.data }, { on := 11, ground := Ground.guard }], guard := some (11, false) }) (v := .int .i64 (256 * q)) rfl (by kernel_rfl) (by kernel_rfl) (by kernel_rfl) (fun _ _ _ h => h) (Or.inl ⟨by rfl, by intro w hS; go_simp; exact wrap_i64_id _ (by omega) (by omega)⟩) hHeld ?_
                      try simp only [Act.put, List.setIfInBounds_toArray, List.set_cons_zero, List.set_cons_succ]
                      refine wpAnyH_take (i := 23) (oi := { dst := some 141, op := Op.binOp BinOp.mul 3 (Operand.const (Value.int IntKind.i64 256)) (Operand.tmp 140) 3, type := 3, pos := "outright.go:154", after := #[{ on := 22, ground := Ground.data }, { on := 11, ground := Ground.guard }], guard := some (11, false) }) (v := .int .i64 (256 * q)) rfl (by kernel_rfl) (by kernel_rfl) (by kernel_rfl) (fun _ _ _ h => h) (Or.inl ⟨by rfl, by intro w hS; go_simp; exact wrap_i64_id _ (by omega) (by omega)⟩) hHeld ?_
                      try simp only [Act.put, List.setIfInBounds_toArray, List.set_cons_zero, List.set_cons_succ]
                      refine wpAnyH_take (i := 17) (oi := { dst := some 135, op := Op.binOp BinOp.add 3 (Operand.tmp 134) (Operand.const (Value.int IntKind.i64 256)) 3, type := 3, pos := "outright.go:154", after := #[{ on := 16, ground := Ground.data }, { on := 11, ground := Ground.guard }], guard := some (11, false) }) (v := .int .i64 (256 * q + 256)) rfl (by kernel_rfl) (by kernel_rfl) (by kernel_rfl) (fun _ _ _ h => h) (Or.inl ⟨by rfl, by intro w hS; go_simp; exact wrap_i64_id _ (by omega) (by omega)⟩) hHeld ?_
                      try simp only [Act.put, List.setIfInBounds_toArray, List.set_cons_zero, List.set_cons_succ]
                      refine wpAnyH_take (i := 24) (oi := { dst := some 142, op := Op.binOp BinOp.add 3 (Operand.tmp 141) (Operand.const (Value.int IntKind.i64 256)) 3, type := 3, pos := "outright.go:154", after := #[{ on := 23, ground := Ground.data }, { on := 11, ground := Ground.guard }], guard := some (11, false) }) (v := .int .i64 (256 * q + 256)) rfl (by kernel_rfl) (by kernel_rfl) (by kernel_rfl) (fun _ _ _ h => h) (Or.inl ⟨by rfl, by intro w hS; go_simp; exact wrap_i64_id _ (by omega) (by omega)⟩) hHeld ?_
                      try simp only [Act.put, List.setIfInBounds_toArray, List.set_cons_zero, List.set_cons_succ]
                      refine wpAnyH_take (i := 18) (oi := { dst := some 136, op := Op.slice 28 (Operand.tmp 130) (some (Operand.tmp 132)) (some (Operand.tmp 135)) none, type := 28, pos := "outright.go:154", after := #[{ on := 12, ground := Ground.data }, { on := 14, ground := Ground.data }, { on := 17, ground := Ground.data }, { on := 11, ground := Ground.guard }], guard := some (11, false) }) (v := .slice (some ⟨gi, 256 * q, none⟩) 256 (ci - 256 * q)) rfl (by kernel_rfl) (by kernel_rfl) (by kernel_rfl) (fun _ _ _ h => h) (Or.inl ⟨by rfl, by intro w hS; have hq := SL1.out w; go_simp⟩) hHeld ?_
                      try simp only [Act.put, List.setIfInBounds_toArray, List.set_cons_zero, List.set_cons_succ]
                      refine wpAnyH_take (i := 25) (oi := { dst := some 143, op := Op.slice 28 (Operand.tmp 137) (some (Operand.tmp 139)) (some (Operand.tmp 142)) none, type := 28, pos := "outright.go:154", after := #[{ on := 19, ground := Ground.data }, { on := 21, ground := Ground.data }, { on := 24, ground := Ground.data }, { on := 11, ground := Ground.guard }], guard := some (11, false) }) (v := .slice (some ⟨gk, 256 * q, none⟩) 256 (256 * k - 256 * q)) rfl (by kernel_rfl) (by kernel_rfl) (by kernel_rfl) (fun _ _ _ h => h) (Or.inl ⟨by rfl, by intro w hS; have hq := SL2.out w; go_simp⟩) hHeld ?_
                      try simp only [Act.put, List.setIfInBounds_toArray, List.set_cons_zero, List.set_cons_succ]
                      refine wpAnyH_ready (rs := [26]) (by kernel_rfl) (by simp) ?_
                      refine (AllReadyH.cons (o := { dst := some 144, op := Op.call { callee := Callee.value (Operand.func 15), args := #[Operand.tmp 136, Operand.tmp 143], argTypes := #[28, 28] }, type := 4, pos := "outright.go:154", after := #[{ on := 18, ground := Ground.data }, { on := 25, ground := Ground.data }, { on := 11, ground := Ground.chain }, { on := 11, ground := Ground.guard }], guard := some (11, false) }) rfl (fun K hK => ?_) AllReadyH.nil)
                      go_simp
                      go_at_call 15
                      refine KSM.out.mono ?_
                      rintro e w5 ⟨rfl, hB5⟩
                      go_wp2_with fail
                      refine hK.out _ _ (KS.out w5 hB5) (fun hHeld2 => ?_)
                      clear hK K hHeld
                      have hHeld := hHeld2
                      clear hHeld2
                      try simp only [Act.put, List.setIfInBounds_toArray, List.set_cons_zero, List.set_cons_succ]
                      refine wpAnyH_take (i := 27) (oi := { dst := some 145, op := Op.unOp UnOp.not 4 (Operand.tmp 144), type := 4, pos := "outright.go:154", after := #[{ on := 26, ground := Ground.data }, { on := 11, ground := Ground.guard }], guard := some (11, false) }) (v := .bool false) rfl (by kernel_rfl) (by kernel_rfl) (by kernel_rfl) (fun _ _ _ h => h) (Or.inl ⟨by rfl, by intro w hS; go_simp⟩) hHeld ?_
                      try simp only [Act.put, List.setIfInBounds_toArray, List.set_cons_zero, List.set_cons_succ]
                      refine wpAnyH_take (i := 28) (oi := { dst := some 146, op := Op.pick (Operand.tmp 129) (Operand.const (Value.bool true)) (Operand.tmp 145), type := 4, pos := "outright.go:154", after := #[{ on := 11, ground := Ground.data }, { on := 27, ground := Ground.data }, { on := 5, ground := Ground.guard }], guard := some (5, true) }) (v := .bool false) rfl (by kernel_rfl) (by kernel_rfl) (by kernel_rfl) (fun _ _ _ h => h) (Or.inl ⟨by rfl, by intro w hS; go_simp⟩) hHeld ?_
                      try simp only [Act.put, List.setIfInBounds_toArray, List.set_cons_zero, List.set_cons_succ]
                      refine wpAnyH_take (i := 29) (oi := { dst := some 147, op := Op.pick (Operand.tmp 123) (Operand.tmp 146) (Operand.const (Value.bool false)), type := 4, pos := "outright.go:154", after := #[{ on := 5, ground := Ground.data }, { on := 28, ground := Ground.data }], guard := none }) (v := .bool false) rfl (by kernel_rfl) (by kernel_rfl) (by kernel_rfl) (fun _ _ _ h => h) (Or.inl ⟨by rfl, by intro w hS; go_simp⟩) hHeld ?_
                      try simp only [Act.put, List.setIfInBounds_toArray, List.set_cons_zero, List.set_cons_succ]
                      refine wpAnyH_done (by kernel_rfl) ?_ _
                      refine NoPanic.normal ?_
                      clear hHeld
                      go_wp2
                      go_roundw
                      case rel => exact ⟨q + 1, by omega, by go_num, HBD.out.trans (hB5.mono HBS.out)⟩
                      case measure => simp [intOf]; omega
                  · obtain rfl : q = k := by omega
                    clear hql
                    have hB0 := HB0.out.trans (hBr.mono HT.out.hb)
                    have T := HT.out.below hBr
                    have hgn := (hBr.block gn (hlt_ HRN.out)).trans HRN.out
                    have hgk := (hBr.block gk (hlt_ HRK.out)).trans HRK.out
                    clear HT HB0 HRN HRK HRI hBr
                    go_wp2
                    go_roundw
                    case rel => exact ⟨i + 1, D2, _, by omega, by go_num, HL2.out, hgn, hgk, T.drop, hB0⟩
                    case measure => simp [intOf]; omega
        · obtain rfl : i = rss.length := by omega
          clear hlt
          go_wp2_with fail
          obtain ⟨F, hDA, hGF, hnx⟩ := T.at 0 (by simp)
          change DA wr B F p1 D at hDA
          clear hnx
          refine (Power_any wr B F p1 _ hDA).mono ?_
          rintro e wx ⟨rfl, rfl⟩
          clear hDA hGF
          rw [HL.out.pw]
          have hepL := HL.out.ep
          go_wp2_with fail
          obtain ⟨F, hDA, hGF, hnx⟩ := T.at 0 (by simp)
          change DA wr B F p1 D at hDA
          clear hnx
          refine (Epoch_any wr B F p1 _ hDA).mono ?_
          rintro e wx ⟨rfl, rfl⟩
          clear hDA hGF
          generalize D.epoch = ep at *
          go_wp2_with fail
          go_ret
          exact ⟨by simp [hepL], hB0⟩
end Go.Proofs.Ytcibcakgheegbaa
