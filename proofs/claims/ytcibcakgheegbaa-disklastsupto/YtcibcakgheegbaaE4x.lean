import Derived.Test.YtcibcakgheegbaaE4w
namespace Go.Proofs.Ytcibcakgheegbaa
set_option linter.unusedVariables false
set_option linter.unusedSimpArgs false
open Go.RowKit
attribute [local go_sem ↓] Go.wp_at_zero Go.wp_at_succ

theorem field3 (w : World) (a b c d : Int) : (Instr.field 40 (.agg #[.int .i64 a, .int .i64 b, .int .i64 c, .int .i64 d]) 3).run Try.prog w = .ok (.int .i64 d) w := by kernel_rfl
theorem layAll (img : List Int) (ops : List OW) : layTo img ops ops.length = ops.foldl lay1 img := by unfold layTo; rw [List.take_length]
theorem Read_same (w : World) (base : Nat) (F : List Nat) (p : Nat) (D : DS) (h : DA w base F p D) (hpw : D.power = true) (q : Nat) (hq : q < D.np) (hr : D.reads < 4000000000000000000) :
    Calls Try.prog 24 #[.pointer (some ⟨p, 0, none⟩), .int .i64 q] w fun e w' => ∃ v, e = .returned (.tuple #[v, .int .i64 0]) ∧ Own w' w.heap.size v (D.readOf q) ∧ DA w' base F p { D with reads := D.reads + 1 } ∧ Fr F w w' := by
  obtain ⟨P, rfl, rfl, hk, hok⟩ := h
  refine (Read_in w base P D hk hok hpw q hq hr).mono ?_
  rintro e w' ⟨v, rfl, h1, h2, h3⟩
  exact ⟨v, rfl, h1, ⟨P, rfl, rfl, h2, ⟨hok.n, hok.bts, hok.ops, by show 0 ≤ D.reads + 1 ∧ D.reads + 1 ≤ _; have := hok.reads; omega, hok.writes, hok.syncs, hok.epoch, hok.armed⟩⟩, h3⟩
theorem TL.drop {base : Nat} {w : World} {ds : List (Nat × DS)} {g : Nat} {G : List Nat} (h : TL base w ds (g :: G)) : TL base w ds G := by
  obtain ⟨hb, Fs, e1, e2, e3, e4⟩ := h
  exact ⟨hb, Fs, e1, e2, e3, fun x hx => e4 x (List.mem_cons_of_mem _ hx)⟩
/-- A call that keeps its disk where it lies, and hands out a new list. -/
theorem TL.read {base : Nat} {w : World} {ds : List (Nat × DS)} {G : List Nat} (h : TL base w ds G) (i : Nat) (hi : i < ds.length) :
    ∃ F, DA w base F (ds.getD i dd).1 (ds.getD i dd).2 ∧ ∀ (w' : World) (D' : DS) (v : Value) (zs : List Int), DA w' base F (ds.getD i dd).1 D' → Fr F w w' → Own w' w.heap.size v zs → 0 < zs.length → ∃ g, TL base w' (ds.set i ((ds.getD i dd).1, D')) (g :: G) ∧ Lst w' (g :: G) v zs ∧ Below base w w' ∧ ∀ g ∈ G, w'.heap[g]? = w.heap[g]? := by
  obtain ⟨hb, Fs, e1, e2, e3, e4⟩ := h
  have hl := (e2 i hi).lt
  refine ⟨Fs.getD i [], e2 i hi, fun w' D' v zs hD hF hO hz => ?_⟩
  obtain ⟨g, cap, rest, rfl, q1, q2, q3, q4, q5⟩ := own_in hO hz
  refine ⟨g, ⟨Nat.le_trans hb hF.size, Fs, by simp [e1], fun j hj => ?_, fun j k hj hk hne => e3 j k (by simpa using hj) (by simpa using hk) hne, fun x hx => ?_⟩, ⟨hO.base_le (Nat.zero_le _), fun k e => by rw [q5] at e; rw [← Option.some.inj e]; simp⟩, hF.below (fun k hk => (hl k hk).1) hb, fun x hx => hF.block x (e4 x hx).1 ((e4 x hx).2 i hi)⟩
  · simp at hj
    rw [getD_setD _ _ _ _ hi]
    split
    · rename_i hji; subst hji; exact hD
    · rename_i hne
      exact (e2 j hj).other (b2 := 0) hF (e3 i j hi hj (fun e => hne e.symm))
  · rcases List.mem_cons.1 hx with rfl | hx
    · exact ⟨hlt q2, fun j hj e => by have := ((e2 j (by simpa using hj)).lt x e).2; omega⟩
    · exact ⟨Nat.lt_of_lt_of_le (e4 x hx).1 hF.size, fun j hj => (e4 x hx).2 j (by simpa using hj)⟩
set_option maxRecDepth 100000 in
set_option maxHeartbeats 2000000 in
theorem copies_walk (w : World) (n : Int) (hn0 : -9223372036854775808 ≤ n) (hn1 : n ≤ 9223372036854775807) (rs1 rs2 rs3 : List WR) (hr1 : ∀ r ∈ rs1, WrOk r) (hr2 : ∀ r ∈ rs2, WrOk r) (hr3 : ∀ r ∈ rs3, WrOk r) (sp1 sp2 sp3 : Option Addr) (cap1 cap2 cap3 : Nat) (W1 : Wrs w w.heap.size sp1 rs1) (W2 : Wrs w w.heap.size sp2 rs2) (W3 : Wrs w w.heap.size sp3 rs3) (hl1 : rs1.length ≤ 1048576) (hl2 : rs2.length ≤ 1048576) (hl3 : rs3.length ≤ 1048576) :
    Calls Try.prog 8 #[.int .i64 n, .slice sp1 rs1.length cap1, .slice sp2 rs2.length cap2, .slice sp3 rs3.length cap3] w fun e w' => e = .returned (.bool true) ∧ Below w.heap.size w w' := by
  have q23 := nilp
  obtain ⟨k, hk⟩ : ∃ k, k = (n % 8).toNat + 3 := ⟨_, rfl⟩
  obtain ⟨Z, hZ⟩ : ∃ Z : List Int, Z = List.replicate (256 * k) 0 := ⟨_, rfl⟩
  have FR := hid (fun w => fresh_to w n hn0 hn1 k hk Z hZ)
  have hk3 : 3 ≤ k := by omega
  have hk4 : k ≤ 10 := by have := Int.emod_lt_of_pos n (show (0 : Int) < 8 by decide); omega
  have ik4 : (k : Int) ≤ 10 := by omega
  have HZ := hid hZ
  skip
  clear hZ hk
  have HL1 := hid (show (newD Z).ops.length + rs1.length ≤ 400000000000 by show 0 + rs1.length ≤ _; omega)
  have HL2 := hid (show (newD Z).writes + rs1.length ≤ 4000000000000000000 by show (0 : Int) + rs1.length ≤ _; omega)
  have T := TL.nil w w.heap.size (Nat.le_refl _)
  have T0 : w.heap.size ≤ w.heap.size := Nat.le_refl _
  have hB0 : Below w.heap.size w w := Below.refl _ _
  obtain ⟨B, hBB⟩ : ∃ B, B = w.heap.size := ⟨_, rfl⟩
  rw [← hBB] at W1 W2 W3 T hB0 ⊢
  replace T0 : B ≤ w.heap.size := by omega
  have HBB := hid hBB
  clear hBB
  have okN : DsOk (newD Z) := by rw [HZ.out]; exact newZ_ok hk3 (by omega)
  have npN : (newD Z).np = k := by rw [HZ.out]; exact emp_replicate k
  have okL := laid_ok okN hr1 HL1.out HL2.out
  have okX := sy0_ok okL (by show (0 : Int) < _; decide)
  have npX : ((newD Z).laid rs1).sy0.np = k := by rw [sy0_np okL, laid_np, npN]
  have HXL := hid (show ((newD Z).laid rs1).sy0.img.length = 256 * k by rw [okX.np.2.2.1, npX])
  have OKX := hid okX
  clear okN okL okX
  have npC : (newD ((newD Z).laid rs1).sy0.img).np = k := by show ((newD Z).laid rs1).sy0.img.length / 256 = k; rw [HXL.out]; omega
  have HR1 := hid (fun q (hq : q < k) => (show (({ ((newD Z).laid rs1).sy0 with reads := (q : Int) } : DS).readOf q).length = 256 by show ((((newD Z).laid rs1).sy0.img.drop (q * 256)).take 256).length = _; rw [List.length_take, List.length_drop, HXL.out]; omega))
  have HR2 := hid (fun q (hq : q < k) => (show (({ (newD ((newD Z).laid rs1).sy0.img) with reads := (q : Int) } : DS).readOf q).length = 256 by show ((((newD Z).laid rs1).sy0.img.drop (q * 256)).take 256).length = _; rw [List.length_take, List.length_drop, HXL.out]; omega))
  have HR3 := hid (fun (q : Nat) => (show ({ ((newD Z).laid rs1).sy0 with reads := (q : Int) } : DS).readOf q = ({ (newD ((newD Z).laid rs1).sy0.img) with reads := (q : Int) } : DS).readOf q from rfl))
  have EQ1 := hid (fun (q : Nat) => (show ((({ ((newD Z).laid rs1).sy0 with reads := (q : Int) } : DS).laid rs2).crashed []).sy0.img = ((newD Z).laid rs1).sy0.img from none_img _))
  have EQ2 := hid (fun (q : Nat) => (show (({ (newD ((newD Z).laid rs1).sy0.img) with reads := (q : Int) } : DS).laid rs3).sy0.img = (((newD Z).laid rs1).laid rs3).sy0.img by
    have e1 : (({ (newD ((newD Z).laid rs1).sy0.img) with reads := (q : Int) } : DS).laid rs3).ops = rs3.map (owOf k) := by show [] ++ rs3.map (owOf (newD ((newD Z).laid rs1).sy0.img).np) = _; rw [npC]; rfl
    have e2 : (((newD Z).laid rs1).laid rs3).ops = rs1.map (owOf k) ++ rs3.map (owOf k) := by show ([] ++ rs1.map (owOf (newD Z).np)) ++ rs3.map (owOf (newD Z).np) = _; rw [npN]; rfl
    have e3 : ((newD Z).laid rs1).ops = rs1.map (owOf k) := by show [] ++ rs1.map (owOf (newD Z).np) = _; rw [npN]; rfl
    show layTo (layTo Z ((newD Z).laid rs1).ops ((newD Z).laid rs1).ops.length) (({ (newD ((newD Z).laid rs1).sy0.img) with reads := (q : Int) } : DS).laid rs3).ops (({ (newD ((newD Z).laid rs1).sy0.img) with reads := (q : Int) } : DS).laid rs3).ops.length = layTo Z (((newD Z).laid rs1).laid rs3).ops (((newD Z).laid rs1).laid rs3).ops.length
    rw [layAll, layAll, layAll, e1, e2, e3, List.foldl_append]))
  have hfd := field3
  go_enter Try.func8, Try.ntmps8
  go_wp2_with fail
  refine (FR.out w).mono ?_
  rintro e w1 ⟨p1, Fp1, rfl, hD, hBx⟩
  have T := T.push hBx hD
  clear hD
  have hBy : Below B w w1 := hBx.mono T0
  have T0 : B ≤ w1.heap.size := Nat.le_trans T0 hBx.size
  have hB0 := hB0.trans hBy
  have W1 := W1.below hBy
  have W2 := W2.below hBy
  have W3 := W3.below hBy
  clear hBx hBy
  change TL B w1 [(p1, (newD Z))] [] at T
  go_wp2_with fail
  obtain ⟨F, hDA, hGF, hnx⟩ := T.at 0 (by simp)
  change DA w1 B F p1 (newD Z) at hDA
  change ∀ (w' : World) (D' : DS), Nx B F p1 w1 D' w' → TL B w' [(p1, D')] [] ∧ Below B w1 w' ∧ ∀ g ∈ [], w'.heap[g]? = w1.heap[g]? at hnx
  refine (lays_any w1 B F p1 (newD Z) hDA T0 rfl rfl rs1 hr1 sp1 cap1 W1 HL1.out HL2.out).mono ?_
  rintro e w2 ⟨rfl, hN⟩
  obtain ⟨T1, hBy, hKx⟩ := hnx _ _ hN
  clear hnx hDA hGF hN
  have hB0 := hB0.trans hBy
  have W1 := W1.below hBy
  have W2 := W2.below hBy
  have W3 := W3.below hBy
  have T0 : B ≤ w2.heap.size := T1.hb
  clear T hBy hKx
  have T := T1
  clear T1
  change TL B w2 [(p1, ((newD Z).laid rs1))] [] at T
  go_wp2_with fail
  obtain ⟨F, hDA, hGF, hnx⟩ := T.at 0 (by simp)
  change DA w2 B F p1 ((newD Z).laid rs1) at hDA
  change ∀ (w' : World) (D' : DS), Nx B F p1 w2 D' w' → TL B w' [(p1, D')] [] ∧ Below B w2 w' ∧ ∀ g ∈ [], w'.heap[g]? = w2.heap[g]? at hnx
  refine (Sync0_any w2 B F p1 ((newD Z).laid rs1) hDA rfl rfl (by show (0 : Int) < _; decide)).mono ?_
  rintro e w3 ⟨rfl, hN⟩
  obtain ⟨T1, hBy, hKx⟩ := hnx _ _ hN
  clear hnx hDA hGF hN
  have hB0 := hB0.trans hBy
  have W1 := W1.below hBy
  have W2 := W2.below hBy
  have W3 := W3.below hBy
  have T0 : B ≤ w3.heap.size := T1.hb
  clear T hBy hKx
  have T := T1
  clear T1
  change TL B w3 [(p1, ((newD Z).laid rs1).sy0)] [] at T
  go_wp2_with fail
  obtain ⟨F, hDA, hGF, hnx⟩ := T.at 0 (by simp)
  change DA w3 B F p1 ((newD Z).laid rs1).sy0 at hDA
  clear hnx hGF
  refine (Image_any w3 B F p1 _ hDA).mono ?_
  rintro e w4 ⟨vi, rfl, hO, hBx⟩
  have hzz : 0 < (((newD Z).laid rs1).sy0.img).length := by rw [himl _ hDA.ok]; have := hDA.ok.np.1; omega
  obtain ⟨gvi, T1, LI, hgBvi⟩ := T.listb hBx hO hzz
  have hBy : Below B w3 w4 := hBx.mono T0
  have T0 : B ≤ w4.heap.size := T1.hb
  have hB0 := hB0.trans hBy
  have W1 := W1.below hBy
  have W2 := W2.below hBy
  have W3 := W3.below hBy
  clear T hBx hBy hO hzz
  have T := T1
  clear T1
  change TL B w4 [(p1, ((newD Z).laid rs1).sy0)] (gvi :: []) at T
  clear hDA
  obtain ⟨gi, capi, resti, hvi, _, hgi, hci, hmi, hoi⟩ := own_in LI.1 (by rw [HXL.out]; omega)
  subst hvi
  have hgv : gvi = gi := by have q := LI.2 gi hoi; simp at q; exact q.symm
  subst hgv
  have HGB := hid (show B ≤ gvi from hgBvi)
  clear hgBvi hoi
  obtain ⟨s1, c1, hv1, hs1, hn1⟩ := LI.form
  simp only [Value.slice.injEq] at hv1
  obtain ⟨rfl, _, rfl⟩ := hv1
  go_wp2_with fail
  refine (Load_any w4 ((newD Z).laid rs1).sy0.img k hk3 (by omega) HXL.out OKX.out.bts _ _ hs1 hn1).mono ?_
  rintro e w5 ⟨p2, F2, rfl, hD, hBx⟩
  have T := T.push hBx hD
  clear hD hs1 hn1 LI
  have hgi := (hBx.block gvi (hlt_ hgi)).trans hgi
  have hBy : Below B w4 w5 := hBx.mono T0
  have T0 : B ≤ w5.heap.size := Nat.le_trans T0 hBx.size
  have hB0 := hB0.trans hBy
  have W1 := W1.below hBy
  have W2 := W2.below hBy
  have W3 := W3.below hBy
  clear hBx hBy
  change TL B w5 [(p1, ((newD Z).laid rs1).sy0), (p2, (newD ((newD Z).laid rs1).sy0.img))] (gvi :: []) at T
  go_wp2_with fail
  obtain ⟨F, hDA, hGF, hnx⟩ := T.at 1 (by simp)
  change DA w5 B F p2 (newD ((newD Z).laid rs1).sy0.img) at hDA
  clear hnx
  refine (Pages_any w5 B F p2 _ hDA).mono ?_
  rintro e wx ⟨rfl, rfl⟩
  clear hDA hGF
  rw [npC]
  go_wp2_with fail
  obtain ⟨F, hDA, hGF, hnx⟩ := T.at 0 (by simp)
  change DA w5 B F p1 ((newD Z).laid rs1).sy0 at hDA
  clear hnx
  refine (Pages_any w5 B F p1 _ hDA).mono ?_
  rintro e wx ⟨rfl, rfl⟩
  clear hDA hGF
  rw [npX]
  go_wp2_with fail
  have hlw : (((newD Z).laid rs1).sy0.img.length : Int) = 256 * (k : Int) := by rw [HXL.out]; omega
  have HB0 := hid hB0
  have HT := hid T
  have HG := hid hgi
  have HW1 := hid W1
  have HW2 := hid W2
  have HW3 := hid W3
  clear hB0 T hgi T0 W1 W2 W3
  go_loopw [13] (fun iv wr => ∃ (i : Nat) (zs : List Int), i ≤ 256 * k ∧ iv = .int .i64 i ∧ zs.length = 256 * k ∧ wr.heap[gvi]? = some (.cells (ints .u8 zs ++ resti).toArray 5 (0, 0)) ∧ TL B wr [(p1, ((newD Z).laid rs1).sy0), (p2, (newD ((newD Z).laid rs1).sy0.img))] (gvi :: []) ∧ Below B w5 wr) (fun iv _ => 256 * k - (intOf iv).toNat)
  case atStart => exact ⟨0, ((newD Z).laid rs1).sy0.img, by omega, rfl, HXL.out, HG.out, HT.out, Below.refl _ _⟩
  case round =>
    obtain ⟨i, zs, hi, rfl, hzs, hgi, T, hBr⟩ := hrel
    by_cases hlt : i < 256 * k
    · have i1 : (i : Int) < 256 * (k : Int) := by omega
      have HZ1 := hid hzs
      have cx : wr.cell? ⟨gvi, i, none⟩ = some (.int .u8 (zs.getD i 0)) := by
        rw [cell_of_row _ _ _ _ _ _ hgi, List.getElem?_toArray, List.getElem?_append_left (by rw [ints_len]; omega), ints_get _ _ _ (by omega)]
      have fx : wr.frozen? ⟨gvi, i, none⟩ = false := frozen_of_row _ _ _ _ _ hgi
      have KR := hid (fun (x : Int) => (show (wr.setCell ⟨gvi, i, none⟩ (.int .u8 x)).heap[gvi]? = some (.cells (ints .u8 (zs.set i x) ++ resti).toArray 5 (0, 0)) by
        rw [heap_setCell_same _ _ _ _ _ _ hgi]
        congr 2
        rw [List.setIfInBounds_toArray, List.set_append_left _ _ (by rw [ints_len]; omega)]
        simp [ints, List.map_set]))
      have HT := hid T
      have HHB := hid hBr
      clear hzs hgi T hBr HG HB0
      generalize zs.getD i 0 = x at *
      go_wp2
      go_roundw
      case rel => exact ⟨i + 1, _, by omega, by go_num, by rw [List.length_set]; exact HZ1.out, KR.out _, HT.out.setG (by simp) _ _, HHB.out.setCell HGB.out _⟩
      case measure => simp [intOf]; omega
    · have i1 : ¬ (i : Int) < 256 * (k : Int) := by omega
      clear hlt hgi hzs
      have hB0 := HB0.out.trans hBr
      have T0 := T.hb
      have W1 := HW1.out.below hBr
      have W2 := HW2.out.below hBr
      have W3 := HW3.out.below hBr
      clear HT HG HB0 HW1 HW2 HW3 hBr
      go_wp2_with fail
      have HB0 := hid hB0
      have HT := hid T
      have HW1 := hid W1
      have HW2 := hid W2
      have HW3 := hid W3
      clear hB0 T T0 W1 W2 W3
      obtain ⟨wb, hwb⟩ : ∃ wb, wb = wr := ⟨_, rfl⟩
      subst hwb
      go_loopw [14] (fun qv wr => ∃ q : Nat, q ≤ k ∧ qv = .int .i64 q ∧ TL B wr [(p1, ({ ((newD Z).laid rs1).sy0 with reads := (q : Int) } : DS)), (p2, ({ (newD ((newD Z).laid rs1).sy0.img) with reads := (q : Int) } : DS))] (gvi :: []) ∧ Below B wb wr) (fun qv _ => k - (intOf qv).toNat)
      case atStart => exact ⟨0, by omega, rfl, HT.out, Below.refl _ _⟩
      case round =>
        obtain ⟨q, hq, rfl, T, hBr⟩ := hrel
        have T0 := T.hb
        by_cases hlt : q < k
        · have i1 : (q : Int) < (k : Int) := by omega
          have hB0 := hBr
          clear hBr
          go_wp2_with fail
          obtain ⟨F, hDA, hGF, hnx⟩ := T.at 0 (by simp)
          change DA wr B F p1 ({ ((newD Z).laid rs1).sy0 with reads := (q : Int) } : DS) at hDA
          clear hnx
          refine (Pages_any wr B F p1 _ hDA).mono ?_
          rintro e wx ⟨rfl, rfl⟩
          clear hDA hGF
          rw [show ({ ((newD Z).laid rs1).sy0 with reads := (q : Int) } : DS).np = k from npX]
          go_wp2_with fail
          obtain ⟨F, hDA, hnx⟩ := T.read 0 (by simp)
          change DA wr B F p1 ({ ((newD Z).laid rs1).sy0 with reads := (q : Int) } : DS) at hDA
          change ∀ (w' : World) (D' : DS) (v : Value) (zs : List Int), DA w' B F p1 D' → Fr F wr w' → Own w' wr.heap.size v zs → 0 < zs.length → ∃ g, TL B w' [(p1, D'), (p2, ({ (newD ((newD Z).laid rs1).sy0.img) with reads := (q : Int) } : DS))] (g :: (gvi :: [])) ∧ Lst w' (g :: (gvi :: [])) v zs ∧ Below B wr w' ∧ ∀ g ∈ (gvi :: []), w'.heap[g]? = wr.heap[g]? at hnx
          refine (Read_same wr B F p1 _ hDA rfl q (by show q < ((newD Z).laid rs1).sy0.np; rw [npX]; exact hlt) (by show (q : Int) < _; omega)).mono ?_
          rintro e w26 ⟨va, rfl, hO, hN, hF⟩
          obtain ⟨gva, T1, LA, hBy, hKx⟩ := hnx _ _ _ _ hN hF hO (by rw [HR1.out q hlt]; decide)
          clear hnx hDA hN hF hO
          have hB0 := hB0.trans hBy
          have T0 : B ≤ w26.heap.size := T1.hb
          clear T hBy hKx
          have T := T1
          clear T1
          change TL B w26 [(p1, ({ ((newD Z).laid rs1).sy0 with reads := (q : Int) + 1 } : DS)), (p2, ({ (newD ((newD Z).laid rs1).sy0.img) with reads := (q : Int) } : DS))] (gva :: (gvi :: [])) at T
          obtain ⟨s3, c3, hv3, hs3, hn3⟩ := LA.form
          rw [HR1.out q hlt] at hv3
          subst hv3
          clear hs3 hn3
          go_wp2_with fail
          obtain ⟨F, hDA, hnx⟩ := T.read 1 (by simp)
          change DA w26 B F p2 ({ (newD ((newD Z).laid rs1).sy0.img) with reads := (q : Int) } : DS) at hDA
          change ∀ (w' : World) (D' : DS) (v : Value) (zs : List Int), DA w' B F p2 D' → Fr F w26 w' → Own w' w26.heap.size v zs → 0 < zs.length → ∃ g, TL B w' [(p1, ({ ((newD Z).laid rs1).sy0 with reads := (q : Int) + 1 } : DS)), (p2, D')] (g :: (gva :: (gvi :: []))) ∧ Lst w' (g :: (gva :: (gvi :: []))) v zs ∧ Below B w26 w' ∧ ∀ g ∈ (gva :: (gvi :: [])), w'.heap[g]? = w26.heap[g]? at hnx
          refine (Read_same w26 B F p2 _ hDA rfl q (by show q < (newD ((newD Z).laid rs1).sy0.img).np; rw [npC]; exact hlt) (by show (q : Int) < _; omega)).mono ?_
          rintro e w27 ⟨vb, rfl, hO, hN, hF⟩
          obtain ⟨gvb, T1, LB, hBy, hKx⟩ := hnx _ _ _ _ hN hF hO (by rw [HR2.out q hlt]; decide)
          clear hnx hDA hN hF hO
          have hB0 := hB0.trans hBy
          have LA := LA.keep hKx
          have LA := LA.mono gvb
          have T0 : B ≤ w27.heap.size := T1.hb
          clear T hBy hKx
          have T := T1
          clear T1
          change TL B w27 [(p1, ({ ((newD Z).laid rs1).sy0 with reads := (q : Int) + 1 } : DS)), (p2, ({ (newD ((newD Z).laid rs1).sy0.img) with reads := (q : Int) + 1 } : DS))] (gvb :: (gva :: (gvi :: []))) at T
          obtain ⟨s4, c4, hv4, hs4, hn4⟩ := LB.form
          rw [HR2.out q hlt] at hv4
          subst hv4
          clear hn4
          obtain ⟨s5, c5, hv5, hs5, hn5⟩ := LA.form
          simp only [Value.slice.injEq] at hv5
          obtain ⟨rfl, hzz5, rfl⟩ := hv5
          clear hn5 hzz5
          go_wp2_with fail
          refine (same_to w27 _ _ _ _ _ _ hs5 hs4 _ _ (HR1.out q hlt) (HR2.out q hlt)).mono ?_
          rintro e w28 ⟨rfl, hBx⟩
          have T := T.below hBx
          have hBy : Below B w27 w28 := hBx.mono T0
          have T0 : B ≤ w28.heap.size := T.hb
          have hB0 := hB0.trans hBy
          have LA := LA.below hBx
          have LB := LB.below hBx
          clear hBx hBy
          rw [decide_eq_true (HR3.out q)]
          clear hs4 hs5 LA LB
          replace T := T.drop.drop
          go_wp2
          go_roundw
          case rel => exact ⟨q + 1, by omega, by go_num, by rw [show ((q + 1 : Nat) : Int) = (q : Int) + 1 from rfl]; exact T, hB0⟩
          case measure => simp [intOf]; omega
        · obtain rfl : q = k := by omega
          clear hlt
          have hB0 := HB0.out.trans hBr
          have W1 := HW1.out.below hBr
          have W2 := HW2.out.below hBr
          have W3 := HW3.out.below hBr
          clear HT HB0 HW1 HW2 HW3 hBr
          go_wp2_with fail
          obtain ⟨F, hDA, hGF, hnx⟩ := T.at 0 (by simp)
          change DA wr B F p1 ({ ((newD Z).laid rs1).sy0 with reads := (q : Int) } : DS) at hDA
          clear hnx
          refine (Pages_any wr B F p1 _ hDA).mono ?_
          rintro e wx ⟨rfl, rfl⟩
          clear hDA hGF
          rw [show ({ ((newD Z).laid rs1).sy0 with reads := (q : Int) } : DS).np = q from npX]
          go_wp2_with fail
          obtain ⟨F, hDA, hGF, hnx⟩ := T.at 0 (by simp)
          change DA wr B F p1 ({ ((newD Z).laid rs1).sy0 with reads := (q : Int) } : DS) at hDA
          change ∀ (w' : World) (D' : DS), Nx B F p1 wr D' w' → TL B w' [(p1, D'), (p2, ({ (newD ((newD Z).laid rs1).sy0.img) with reads := (q : Int) } : DS))] (gvi :: []) ∧ Below B wr w' ∧ ∀ g ∈ (gvi :: []), w'.heap[g]? = wr.heap[g]? at hnx
          refine (lays_any wr B F p1 ({ ((newD Z).laid rs1).sy0 with reads := (q : Int) } : DS) hDA T0 rfl rfl rs2 hr2 sp2 cap2 W2 (by show 0 + rs2.length ≤ _; omega) (by show (0 : Int) + rs1.length + rs2.length ≤ _; omega)).mono ?_
          rintro e w66 ⟨rfl, hN⟩
          obtain ⟨T1, hBy, hKx⟩ := hnx _ _ hN
          clear hnx hDA hGF hN
          have hB0 := hB0.trans hBy
          have W1 := W1.below hBy
          have W2 := W2.below hBy
          have W3 := W3.below hBy
          have T0 : B ≤ w66.heap.size := T1.hb
          clear T hBy hKx
          have T := T1
          clear T1
          change TL B w66 [(p1, (({ ((newD Z).laid rs1).sy0 with reads := (q : Int) } : DS).laid rs2)), (p2, ({ (newD ((newD Z).laid rs1).sy0.img) with reads := (q : Int) } : DS))] (gvi :: []) at T
          go_wp2_with fail
          obtain ⟨F, hDA, hGF, hnx⟩ := T.at 1 (by simp)
          change DA w66 B F p2 ({ (newD ((newD Z).laid rs1).sy0.img) with reads := (q : Int) } : DS) at hDA
          change ∀ (w' : World) (D' : DS), Nx B F p2 w66 D' w' → TL B w' [(p1, (({ ((newD Z).laid rs1).sy0 with reads := (q : Int) } : DS).laid rs2)), (p2, D')] (gvi :: []) ∧ Below B w66 w' ∧ ∀ g ∈ (gvi :: []), w'.heap[g]? = w66.heap[g]? at hnx
          refine (lays_any w66 B F p2 ({ (newD ((newD Z).laid rs1).sy0.img) with reads := (q : Int) } : DS) hDA T0 rfl rfl rs3 hr3 sp3 cap3 W3 (by show 0 + rs3.length ≤ _; omega) (by show (0 : Int) + rs3.length ≤ _; omega)).mono ?_
          rintro e w67 ⟨rfl, hN⟩
          obtain ⟨T1, hBy, hKx⟩ := hnx _ _ hN
          clear hnx hDA hGF hN
          have hB0 := hB0.trans hBy
          have W1 := W1.below hBy
          have W2 := W2.below hBy
          have W3 := W3.below hBy
          have T0 : B ≤ w67.heap.size := T1.hb
          clear T hBy hKx
          have T := T1
          clear T1
          change TL B w67 [(p1, (({ ((newD Z).laid rs1).sy0 with reads := (q : Int) } : DS).laid rs2)), (p2, (({ (newD ((newD Z).laid rs1).sy0.img) with reads := (q : Int) } : DS).laid rs3))] (gvi :: []) at T
          go_wp2_with fail
          obtain ⟨F, hDA, hGF, hnx⟩ := T.at 0 (by simp)
          change DA w67 B F p1 (({ ((newD Z).laid rs1).sy0 with reads := (q : Int) } : DS).laid rs2) at hDA
          change ∀ (w' : World) (D' : DS), Nx B F p1 w67 D' w' → TL B w' [(p1, D'), (p2, (({ (newD ((newD Z).laid rs1).sy0.img) with reads := (q : Int) } : DS).laid rs3))] (gvi :: []) ∧ Below B w67 w' ∧ ∀ g ∈ (gvi :: []), w'.heap[g]? = w67.heap[g]? at hnx
          refine (Crash_any w67 B F p1 (({ ((newD Z).laid rs1).sy0 with reads := (q : Int) } : DS).laid rs2) hDA (by show (0 : Int) < _; decide) [] (fun x hx => by cases hx) none 0 (Src.nil _) (fun a _ ha => by cases ha)).mono ?_
          rintro e w68 ⟨rfl, hN⟩
          rw [show (({ ((newD Z).laid rs1).sy0 with reads := (q : Int) } : DS).laid rs2).ops.length = rs2.length by simp [DS.laid, DS.sy0]]
          obtain ⟨T1, hBy, hKx⟩ := hnx _ _ hN
          clear hnx hDA hGF hN
          have hB0 := hB0.trans hBy
          have W1 := W1.below hBy
          have W2 := W2.below hBy
          have W3 := W3.below hBy
          have T0 : B ≤ w68.heap.size := T1.hb
          clear T hBy hKx
          have T := T1
          clear T1
          change TL B w68 [(p1, ((({ ((newD Z).laid rs1).sy0 with reads := (q : Int) } : DS).laid rs2).crashed [])), (p2, (({ (newD ((newD Z).laid rs1).sy0.img) with reads := (q : Int) } : DS).laid rs3))] (gvi :: []) at T
          go_wp2_with fail
          obtain ⟨F, hDA, hGF, hnx⟩ := T.at 1 (by simp)
          change DA w68 B F p2 (({ (newD ((newD Z).laid rs1).sy0.img) with reads := (q : Int) } : DS).laid rs3) at hDA
          clear hnx
          refine (Epoch_any w68 B F p2 _ hDA).mono ?_
          rintro e wx ⟨rfl, rfl⟩
          clear hDA hGF
          rw [show (({ (newD ((newD Z).laid rs1).sy0.img) with reads := (q : Int) } : DS).laid rs3).epoch = 0 from rfl]
          go_wp2_with fail
          obtain ⟨F, hDA, hGF, hnx⟩ := T.at 1 (by simp)
          change DA w68 B F p2 (({ (newD ((newD Z).laid rs1).sy0.img) with reads := (q : Int) } : DS).laid rs3) at hDA
          clear hnx hGF
          refine (Counts_any w68 B F p2 _ hDA).mono ?_
          rintro e w69 ⟨rfl, hBx⟩
          clear hDA
          have T := T.below hBx
          have hBy : Below B w68 w69 := hBx.mono T0
          have T0 : B ≤ w69.heap.size := T.hb
          have hB0 := hB0.trans hBy
          have W1 := W1.below hBy
          have W2 := W2.below hBy
          have W3 := W3.below hBy
          clear hBx hBy
          rw [show (({ (newD ((newD Z).laid rs1).sy0.img) with reads := (q : Int) } : DS).laid rs3).ops.length = rs3.length by simp [DS.laid, newD]]
          go_wp2_with fail
          obtain ⟨F, hDA, hGF, hnx⟩ := T.at 1 (by simp)
          change DA w69 B F p2 (({ (newD ((newD Z).laid rs1).sy0.img) with reads := (q : Int) } : DS).laid rs3) at hDA
          change ∀ (w' : World) (D' : DS), Nx B F p2 w69 D' w' → TL B w' [(p1, ((({ ((newD Z).laid rs1).sy0 with reads := (q : Int) } : DS).laid rs2).crashed [])), (p2, D')] (gvi :: []) ∧ Below B w69 w' ∧ ∀ g ∈ (gvi :: []), w'.heap[g]? = w69.heap[g]? at hnx
          refine (Sync0_any w69 B F p2 (({ (newD ((newD Z).laid rs1).sy0.img) with reads := (q : Int) } : DS).laid rs3) hDA rfl rfl (by show (0 : Int) < _; decide)).mono ?_
          rintro e w70 ⟨rfl, hN⟩
          obtain ⟨T1, hBy, hKx⟩ := hnx _ _ hN
          clear hnx hDA hGF hN
          have hB0 := hB0.trans hBy
          have W1 := W1.below hBy
          have W2 := W2.below hBy
          have W3 := W3.below hBy
          have T0 : B ≤ w70.heap.size := T1.hb
          clear T hBy hKx
          have T := T1
          clear T1
          change TL B w70 [(p1, ((({ ((newD Z).laid rs1).sy0 with reads := (q : Int) } : DS).laid rs2).crashed [])), (p2, ((({ (newD ((newD Z).laid rs1).sy0.img) with reads := (q : Int) } : DS).laid rs3).sy0))] (gvi :: []) at T
          go_wp2_with fail
          obtain ⟨F, hDA, hGF, hnx⟩ := T.at 0 (by simp)
          change DA w70 B F p1 ((({ ((newD Z).laid rs1).sy0 with reads := (q : Int) } : DS).laid rs2).crashed []) at hDA
          change ∀ (w' : World) (D' : DS), Nx B F p1 w70 D' w' → TL B w' [(p1, D'), (p2, ((({ (newD ((newD Z).laid rs1).sy0.img) with reads := (q : Int) } : DS).laid rs3).sy0))] (gvi :: []) ∧ Below B w70 w' ∧ ∀ g ∈ (gvi :: []), w'.heap[g]? = w70.heap[g]? at hnx
          refine (Sync0_any w70 B F p1 ((({ ((newD Z).laid rs1).sy0 with reads := (q : Int) } : DS).laid rs2).crashed []) hDA rfl rfl (by show (1 : Int) < _; decide)).mono ?_
          rintro e w71 ⟨rfl, hN⟩
          obtain ⟨T1, hBy, hKx⟩ := hnx _ _ hN
          clear hnx hDA hGF hN
          have hB0 := hB0.trans hBy
          have W1 := W1.below hBy
          have W2 := W2.below hBy
          have W3 := W3.below hBy
          have T0 : B ≤ w71.heap.size := T1.hb
          clear T hBy hKx
          have T := T1
          clear T1
          change TL B w71 [(p1, (((({ ((newD Z).laid rs1).sy0 with reads := (q : Int) } : DS).laid rs2).crashed []).sy0)), (p2, ((({ (newD ((newD Z).laid rs1).sy0.img) with reads := (q : Int) } : DS).laid rs3).sy0))] (gvi :: []) at T
          go_wp2_with fail
          refine (FR.out w71).mono ?_
          rintro e w72 ⟨p3, Fp3, rfl, hD, hBx⟩
          have T := T.push hBx hD
          clear hD
          have hBy : Below B w71 w72 := hBx.mono T0
          have T0 : B ≤ w72.heap.size := Nat.le_trans T0 hBx.size
          have hB0 := hB0.trans hBy
          have W1 := W1.below hBy
          have W2 := W2.below hBy
          have W3 := W3.below hBy
          clear hBx hBy
          change TL B w72 [(p1, (((({ ((newD Z).laid rs1).sy0 with reads := (q : Int) } : DS).laid rs2).crashed []).sy0)), (p2, ((({ (newD ((newD Z).laid rs1).sy0.img) with reads := (q : Int) } : DS).laid rs3).sy0)), (p3, (newD Z))] (gvi :: []) at T
          go_wp2_with fail
          refine (FR.out w72).mono ?_
          rintro e w73 ⟨p4, Fp4, rfl, hD, hBx⟩
          have T := T.push hBx hD
          clear hD
          have hBy : Below B w72 w73 := hBx.mono T0
          have T0 : B ≤ w73.heap.size := Nat.le_trans T0 hBx.size
          have hB0 := hB0.trans hBy
          have W1 := W1.below hBy
          have W2 := W2.below hBy
          have W3 := W3.below hBy
          clear hBx hBy
          change TL B w73 [(p1, (((({ ((newD Z).laid rs1).sy0 with reads := (q : Int) } : DS).laid rs2).crashed []).sy0)), (p2, ((({ (newD ((newD Z).laid rs1).sy0.img) with reads := (q : Int) } : DS).laid rs3).sy0)), (p3, (newD Z)), (p4, (newD Z))] (gvi :: []) at T
          go_wp2_with fail
          obtain ⟨F, hDA, hGF, hnx⟩ := T.at 2 (by simp)
          change DA w73 B F p3 (newD Z) at hDA
          change ∀ (w' : World) (D' : DS), Nx B F p3 w73 D' w' → TL B w' [(p1, (((({ ((newD Z).laid rs1).sy0 with reads := (q : Int) } : DS).laid rs2).crashed []).sy0)), (p2, ((({ (newD ((newD Z).laid rs1).sy0.img) with reads := (q : Int) } : DS).laid rs3).sy0)), (p3, D'), (p4, (newD Z))] (gvi :: []) ∧ Below B w73 w' ∧ ∀ g ∈ (gvi :: []), w'.heap[g]? = w73.heap[g]? at hnx
          refine (lays_any w73 B F p3 (newD Z) hDA T0 rfl rfl rs1 hr1 sp1 cap1 W1 HL1.out HL2.out).mono ?_
          rintro e w74 ⟨rfl, hN⟩
          obtain ⟨T1, hBy, hKx⟩ := hnx _ _ hN
          clear hnx hDA hGF hN
          have hB0 := hB0.trans hBy
          have W1 := W1.below hBy
          have W2 := W2.below hBy
          have W3 := W3.below hBy
          have T0 : B ≤ w74.heap.size := T1.hb
          clear T hBy hKx
          have T := T1
          clear T1
          change TL B w74 [(p1, (((({ ((newD Z).laid rs1).sy0 with reads := (q : Int) } : DS).laid rs2).crashed []).sy0)), (p2, ((({ (newD ((newD Z).laid rs1).sy0.img) with reads := (q : Int) } : DS).laid rs3).sy0)), (p3, ((newD Z).laid rs1)), (p4, (newD Z))] (gvi :: []) at T
          go_wp2_with fail
          obtain ⟨F, hDA, hGF, hnx⟩ := T.at 3 (by simp)
          change DA w74 B F p4 (newD Z) at hDA
          change ∀ (w' : World) (D' : DS), Nx B F p4 w74 D' w' → TL B w' [(p1, (((({ ((newD Z).laid rs1).sy0 with reads := (q : Int) } : DS).laid rs2).crashed []).sy0)), (p2, ((({ (newD ((newD Z).laid rs1).sy0.img) with reads := (q : Int) } : DS).laid rs3).sy0)), (p3, ((newD Z).laid rs1)), (p4, D')] (gvi :: []) ∧ Below B w74 w' ∧ ∀ g ∈ (gvi :: []), w'.heap[g]? = w74.heap[g]? at hnx
          refine (lays_any w74 B F p4 (newD Z) hDA T0 rfl rfl rs1 hr1 sp1 cap1 W1 HL1.out HL2.out).mono ?_
          rintro e w75 ⟨rfl, hN⟩
          obtain ⟨T1, hBy, hKx⟩ := hnx _ _ hN
          clear hnx hDA hGF hN
          have hB0 := hB0.trans hBy
          have W1 := W1.below hBy
          have W2 := W2.below hBy
          have W3 := W3.below hBy
          have T0 : B ≤ w75.heap.size := T1.hb
          clear T hBy hKx
          have T := T1
          clear T1
          change TL B w75 [(p1, (((({ ((newD Z).laid rs1).sy0 with reads := (q : Int) } : DS).laid rs2).crashed []).sy0)), (p2, ((({ (newD ((newD Z).laid rs1).sy0.img) with reads := (q : Int) } : DS).laid rs3).sy0)), (p3, ((newD Z).laid rs1)), (p4, ((newD Z).laid rs1))] (gvi :: []) at T
          go_wp2_with fail
          obtain ⟨F, hDA, hGF, hnx⟩ := T.at 3 (by simp)
          change DA w75 B F p4 ((newD Z).laid rs1) at hDA
          change ∀ (w' : World) (D' : DS), Nx B F p4 w75 D' w' → TL B w' [(p1, (((({ ((newD Z).laid rs1).sy0 with reads := (q : Int) } : DS).laid rs2).crashed []).sy0)), (p2, ((({ (newD ((newD Z).laid rs1).sy0.img) with reads := (q : Int) } : DS).laid rs3).sy0)), (p3, ((newD Z).laid rs1)), (p4, D')] (gvi :: []) ∧ Below B w75 w' ∧ ∀ g ∈ (gvi :: []), w'.heap[g]? = w75.heap[g]? at hnx
          refine (lays_any w75 B F p4 ((newD Z).laid rs1) hDA T0 rfl rfl rs3 hr3 sp3 cap3 W3 (by rw [show ((newD Z).laid rs1).ops.length = rs1.length by simp [DS.laid, newD]]; omega) (by show (0 : Int) + rs1.length + rs3.length ≤ _; omega)).mono ?_
          rintro e w76 ⟨rfl, hN⟩
          obtain ⟨T1, hBy, hKx⟩ := hnx _ _ hN
          clear hnx hDA hGF hN
          have hB0 := hB0.trans hBy
          have W1 := W1.below hBy
          have W2 := W2.below hBy
          have W3 := W3.below hBy
          have T0 : B ≤ w76.heap.size := T1.hb
          clear T hBy hKx
          have T := T1
          clear T1
          change TL B w76 [(p1, (((({ ((newD Z).laid rs1).sy0 with reads := (q : Int) } : DS).laid rs2).crashed []).sy0)), (p2, ((({ (newD ((newD Z).laid rs1).sy0.img) with reads := (q : Int) } : DS).laid rs3).sy0)), (p3, ((newD Z).laid rs1)), (p4, (((newD Z).laid rs1).laid rs3))] (gvi :: []) at T
          go_wp2_with fail
          obtain ⟨F, hDA, hGF, hnx⟩ := T.at 2 (by simp)
          change DA w76 B F p3 ((newD Z).laid rs1) at hDA
          change ∀ (w' : World) (D' : DS), Nx B F p3 w76 D' w' → TL B w' [(p1, (((({ ((newD Z).laid rs1).sy0 with reads := (q : Int) } : DS).laid rs2).crashed []).sy0)), (p2, ((({ (newD ((newD Z).laid rs1).sy0.img) with reads := (q : Int) } : DS).laid rs3).sy0)), (p3, D'), (p4, (((newD Z).laid rs1).laid rs3))] (gvi :: []) ∧ Below B w76 w' ∧ ∀ g ∈ (gvi :: []), w'.heap[g]? = w76.heap[g]? at hnx
          refine (Sync0_any w76 B F p3 ((newD Z).laid rs1) hDA rfl rfl (by show (0 : Int) < _; decide)).mono ?_
          rintro e w77 ⟨rfl, hN⟩
          obtain ⟨T1, hBy, hKx⟩ := hnx _ _ hN
          clear hnx hDA hGF hN
          have hB0 := hB0.trans hBy
          have W1 := W1.below hBy
          have W2 := W2.below hBy
          have W3 := W3.below hBy
          have T0 : B ≤ w77.heap.size := T1.hb
          clear T hBy hKx
          have T := T1
          clear T1
          change TL B w77 [(p1, (((({ ((newD Z).laid rs1).sy0 with reads := (q : Int) } : DS).laid rs2).crashed []).sy0)), (p2, ((({ (newD ((newD Z).laid rs1).sy0.img) with reads := (q : Int) } : DS).laid rs3).sy0)), (p3, ((newD Z).laid rs1).sy0), (p4, (((newD Z).laid rs1).laid rs3))] (gvi :: []) at T
          go_wp2_with fail
          obtain ⟨F, hDA, hGF, hnx⟩ := T.at 3 (by simp)
          change DA w77 B F p4 (((newD Z).laid rs1).laid rs3) at hDA
          change ∀ (w' : World) (D' : DS), Nx B F p4 w77 D' w' → TL B w' [(p1, (((({ ((newD Z).laid rs1).sy0 with reads := (q : Int) } : DS).laid rs2).crashed []).sy0)), (p2, ((({ (newD ((newD Z).laid rs1).sy0.img) with reads := (q : Int) } : DS).laid rs3).sy0)), (p3, ((newD Z).laid rs1).sy0), (p4, D')] (gvi :: []) ∧ Below B w77 w' ∧ ∀ g ∈ (gvi :: []), w'.heap[g]? = w77.heap[g]? at hnx
          refine (Sync0_any w77 B F p4 (((newD Z).laid rs1).laid rs3) hDA rfl rfl (by show (0 : Int) < _; decide)).mono ?_
          rintro e w78 ⟨rfl, hN⟩
          obtain ⟨T1, hBy, hKx⟩ := hnx _ _ hN
          clear hnx hDA hGF hN
          have hB0 := hB0.trans hBy
          have W1 := W1.below hBy
          have W2 := W2.below hBy
          have W3 := W3.below hBy
          have T0 : B ≤ w78.heap.size := T1.hb
          clear T hBy hKx
          have T := T1
          clear T1
          change TL B w78 [(p1, (((({ ((newD Z).laid rs1).sy0 with reads := (q : Int) } : DS).laid rs2).crashed []).sy0)), (p2, ((({ (newD ((newD Z).laid rs1).sy0.img) with reads := (q : Int) } : DS).laid rs3).sy0)), (p3, ((newD Z).laid rs1).sy0), (p4, (((newD Z).laid rs1).laid rs3).sy0)] (gvi :: []) at T
          go_wp2_with fail
          obtain ⟨F, hDA, hGF, hnx⟩ := T.at 0 (by simp)
          change DA w78 B F p1 (((({ ((newD Z).laid rs1).sy0 with reads := (q : Int) } : DS).laid rs2).crashed []).sy0) at hDA
          clear hnx hGF
          refine (Image_any w78 B F p1 _ hDA).mono ?_
          rintro e w79 ⟨v1, rfl, hO, hBx⟩
          have hzz : 0 < ((((({ ((newD Z).laid rs1).sy0 with reads := (q : Int) } : DS).laid rs2).crashed []).sy0).img).length := by rw [himl _ hDA.ok]; have := hDA.ok.np.1; omega
          obtain ⟨gv1, T1, L1, hgBv1⟩ := T.listb hBx hO hzz
          have hBy : Below B w78 w79 := hBx.mono T0
          have T0 : B ≤ w79.heap.size := T1.hb
          have hB0 := hB0.trans hBy
          have W1 := W1.below hBy
          have W2 := W2.below hBy
          have W3 := W3.below hBy
          clear T hBx hBy hO hzz
          have T := T1
          clear T1
          change TL B w79 [(p1, (((({ ((newD Z).laid rs1).sy0 with reads := (q : Int) } : DS).laid rs2).crashed []).sy0)), (p2, ((({ (newD ((newD Z).laid rs1).sy0.img) with reads := (q : Int) } : DS).laid rs3).sy0)), (p3, ((newD Z).laid rs1).sy0), (p4, (((newD Z).laid rs1).laid rs3).sy0)] (gv1 :: (gvi :: [])) at T
          clear hDA
          go_wp2_with fail
          obtain ⟨F, hDA, hGF, hnx⟩ := T.at 2 (by simp)
          change DA w79 B F p3 ((newD Z).laid rs1).sy0 at hDA
          clear hnx hGF
          refine (Image_any w79 B F p3 _ hDA).mono ?_
          rintro e w80 ⟨v3, rfl, hO, hBx⟩
          have hzz : 0 < (((newD Z).laid rs1).sy0.img).length := by rw [himl _ hDA.ok]; have := hDA.ok.np.1; omega
          obtain ⟨gv3, T1, L3, hgBv3⟩ := T.listb hBx hO hzz
          have hBy : Below B w79 w80 := hBx.mono T0
          have T0 : B ≤ w80.heap.size := T1.hb
          have hB0 := hB0.trans hBy
          have W1 := W1.below hBy
          have W2 := W2.below hBy
          have W3 := W3.below hBy
          have L1 := L1.below hBx
          have L1 := L1.mono gv3
          clear T hBx hBy hO hzz
          have T := T1
          clear T1
          change TL B w80 [(p1, (((({ ((newD Z).laid rs1).sy0 with reads := (q : Int) } : DS).laid rs2).crashed []).sy0)), (p2, ((({ (newD ((newD Z).laid rs1).sy0.img) with reads := (q : Int) } : DS).laid rs3).sy0)), (p3, ((newD Z).laid rs1).sy0), (p4, (((newD Z).laid rs1).laid rs3).sy0)] (gv3 :: (gv1 :: (gvi :: []))) at T
          clear hDA
          obtain ⟨s1, c1, hv1, hs1, _⟩ := L1.form
          subst hv1
          obtain ⟨s3, c3, hv3, hs3, _⟩ := L3.form
          subst hv3
          go_wp2_with fail
          refine (same_any w80 _ _ _ _ _ _ hs1 hs3).mono ?_
          rintro e w81 ⟨rfl, hBx⟩
          have T := T.below hBx
          have hBy : Below B w80 w81 := hBx.mono T0
          have T0 : B ≤ w81.heap.size := T.hb
          have hB0 := hB0.trans hBy
          have W1 := W1.below hBy
          have W2 := W2.below hBy
          have W3 := W3.below hBy
          have L1 := L1.below hBx
          have L3 := L3.below hBx
          clear hBx hBy
          rw [decide_eq_true (EQ1.out q)]
          clear hs1 hs3 L1 L3
          go_wp2_with fail
          obtain ⟨F, hDA, hGF, hnx⟩ := T.at 1 (by simp)
          change DA w81 B F p2 ((({ (newD ((newD Z).laid rs1).sy0.img) with reads := (q : Int) } : DS).laid rs3).sy0) at hDA
          clear hnx hGF
          refine (Image_any w81 B F p2 _ hDA).mono ?_
          rintro e w82 ⟨v2, rfl, hO, hBx⟩
          have hzz : 0 < (((({ (newD ((newD Z).laid rs1).sy0.img) with reads := (q : Int) } : DS).laid rs3).sy0).img).length := by rw [himl _ hDA.ok]; have := hDA.ok.np.1; omega
          obtain ⟨gv2, T1, L2, hgBv2⟩ := T.listb hBx hO hzz
          have hBy : Below B w81 w82 := hBx.mono T0
          have T0 : B ≤ w82.heap.size := T1.hb
          have hB0 := hB0.trans hBy
          have W1 := W1.below hBy
          have W2 := W2.below hBy
          have W3 := W3.below hBy
          clear T hBx hBy hO hzz
          have T := T1
          clear T1
          change TL B w82 [(p1, (((({ ((newD Z).laid rs1).sy0 with reads := (q : Int) } : DS).laid rs2).crashed []).sy0)), (p2, ((({ (newD ((newD Z).laid rs1).sy0.img) with reads := (q : Int) } : DS).laid rs3).sy0)), (p3, ((newD Z).laid rs1).sy0), (p4, (((newD Z).laid rs1).laid rs3).sy0)] (gv2 :: (gv3 :: (gv1 :: (gvi :: [])))) at T
          clear hDA
          go_wp2_with fail
          obtain ⟨F, hDA, hGF, hnx⟩ := T.at 3 (by simp)
          change DA w82 B F p4 (((newD Z).laid rs1).laid rs3).sy0 at hDA
          clear hnx hGF
          refine (Image_any w82 B F p4 _ hDA).mono ?_
          rintro e w83 ⟨v4, rfl, hO, hBx⟩
          have hzz : 0 < ((((newD Z).laid rs1).laid rs3).sy0.img).length := by rw [himl _ hDA.ok]; have := hDA.ok.np.1; omega
          obtain ⟨gv4, T1, L4, hgBv4⟩ := T.listb hBx hO hzz
          have hBy : Below B w82 w83 := hBx.mono T0
          have T0 : B ≤ w83.heap.size := T1.hb
          have hB0 := hB0.trans hBy
          have W1 := W1.below hBy
          have W2 := W2.below hBy
          have W3 := W3.below hBy
          have L2 := L2.below hBx
          have L2 := L2.mono gv4
          clear T hBx hBy hO hzz
          have T := T1
          clear T1
          change TL B w83 [(p1, (((({ ((newD Z).laid rs1).sy0 with reads := (q : Int) } : DS).laid rs2).crashed []).sy0)), (p2, ((({ (newD ((newD Z).laid rs1).sy0.img) with reads := (q : Int) } : DS).laid rs3).sy0)), (p3, ((newD Z).laid rs1).sy0), (p4, (((newD Z).laid rs1).laid rs3).sy0)] (gv4 :: (gv2 :: (gv3 :: (gv1 :: (gvi :: []))))) at T
          clear hDA
          obtain ⟨s1, c1, hv1, hs1, _⟩ := L2.form
          subst hv1
          obtain ⟨s3, c3, hv3, hs3, _⟩ := L4.form
          subst hv3
          go_wp2_with fail
          refine (same_any w83 _ _ _ _ _ _ hs1 hs3).mono ?_
          rintro e w84 ⟨rfl, hBx⟩
          have T := T.below hBx
          have hBy : Below B w83 w84 := hBx.mono T0
          have T0 : B ≤ w84.heap.size := T.hb
          have hB0 := hB0.trans hBy
          have W1 := W1.below hBy
          have W2 := W2.below hBy
          have W3 := W3.below hBy
          have L2 := L2.below hBx
          have L4 := L4.below hBx
          clear hBx hBy
          rw [decide_eq_true (EQ2.out q)]
          go_wp2_with fail
          go_ret
          exact ⟨rfl, hB0⟩
end Go.Proofs.Ytcibcakgheegbaa
