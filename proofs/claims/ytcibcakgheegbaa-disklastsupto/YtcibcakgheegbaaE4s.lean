import Derived.Test.YtcibcakgheegbaaE4o
namespace Go.Proofs.Ytcibcakgheegbaa
set_option linter.unusedVariables false
set_option linter.unusedSimpArgs false
open Go.RowKit
attribute [local go_sem ↓] Go.wp_at_zero Go.wp_at_succ

set_option maxHeartbeats 400000 in
theorem fate_any (w : World) (fs : List Int) (sp : Option Addr) (cap : Nat) (hS : Src w sp cap fs) (i : Nat) (hi : i ≤ 1048576) :
    Calls Try.prog 22 #[.slice sp fs.length cap, .int .i64 i] w fun e w' => e = .returned (.int .u8 (fs.getD i 0)) ∧ w = w' := by
  obtain ⟨hc, hm, b, o, hb, hsp, hsrc⟩ := hS
  unfold maxLen at hm
  have i0 : (fs.length : Int) ≤ 9223372036854775807 := by omega
  by_cases hl : i < fs.length
  · have i1 : (i : Int) < (fs.length : Int) := by omega
    obtain rfl := hsp (by omega)
    have c0 := hsrc i hl
    generalize fs.getD i 0 = x at *
    clear hsrc
    go_enter Try.func22, Try.ntmps22
    go_wp2
    go_ret
    exact ⟨rfl, rfl⟩
  · have i1 : ¬ (i : Int) < (fs.length : Int) := by omega
    have e : fs.getD i 0 = 0 := by rw [List.getD_eq_getElem?_getD, List.getElem?_eq_none (by omega)]; rfl
    rw [e]
    clear e hsrc
    go_enter Try.func22, Try.ntmps22
    go_wp2
    go_ret
    exact ⟨rfl, rfl⟩
theorem same_to (w : World) (zs ys : List Int) (sp tp : Option Addr) (cap dap : Nat) (hS : Src w sp cap zs) (hT : Src w tp dap ys) (n m : Nat) (hn : zs.length = n) (hm : ys.length = m) :
    Calls Try.prog 15 #[.slice sp n cap, .slice tp m dap] w fun e w' => e = .returned (.bool (decide (zs = ys))) ∧ Below w.heap.size w w' := by
  subst hn hm; exact same_any w zs ys sp tp cap dap hS hT
theorem src_was {w : World} {g cap n : Nat} {zs : List Int} {rest : List Value} (h : w.heap[g]? = some (.cells (ints .u8 zs ++ rest).toArray 5 (0, 0))) (hm : cap ≤ maxLen) (hn : zs.length = n) (hc : n ≤ cap) : Src w (some ⟨g, 0, none⟩) cap zs := by
  refine ⟨by omega, hm, g, 0, fun _ => hlt h, fun _ => rfl, fun j hj => ?_⟩
  rw [Nat.zero_add, cell_of_row _ _ _ _ _ _ h, List.getElem?_toArray, List.getElem?_append_left (by rw [ints_len]; exact hj), ints_get _ _ _ hj]
theorem src_part {w : World} {g : Nat} {zs : List Int} {rest : List Value} (h : w.heap[g]? = some (.cells (ints .u8 zs ++ rest).toArray 5 (0, 0))) (o l cap : Nat) (hl : o + l ≤ zs.length) (hc : l ≤ cap) (hm : cap ≤ maxLen) : Src w (some ⟨g, o, none⟩) cap ((zs.drop o).take l) := by
  have el : ((zs.drop o).take l).length = l := by simp; omega
  refine ⟨by omega, hm, g, o, fun _ => hlt h, fun _ => rfl, fun j hj => ?_⟩
  rw [el] at hj
  rw [cell_of_row _ _ _ _ _ _ h, List.getElem?_toArray, List.getElem?_append_left (by rw [ints_len]; omega), ints_get _ _ _ (by omega)]
  simp [List.getElem?_take, hj]
theorem TL.setG {base : Nat} {w : World} {ds : List (Nat × DS)} {G : List Nat} (h : TL base w ds G) {g : Nat} (hg : g ∈ G) (o : Nat) (v : Value) : TL base (w.setCell ⟨g, o, none⟩ v) ds G := by
  obtain ⟨hb, Fs, e1, e2, e3, e4⟩ := h
  refine ⟨by rw [World.size_setCell]; exact hb, Fs, e1, fun i hi => ?_, e3, fun k hk => ⟨by rw [World.size_setCell]; exact (e4 k hk).1, (e4 k hk).2⟩⟩
  obtain ⟨P, q1, q2, q3, q4⟩ := e2 i hi
  refine ⟨P, q1, q2, q3.of_heap fun x hx => heap_setCell_other w _ x v ?_, q4⟩
  intro e
  have e : x = g := e
  exact (e4 g hg).2 i hi (by rw [← q2, ← e]; exact hx)
/-- The document's own laying down of a torn write, byte behind byte. -/
def twTo (img : List Int) (o : OW) (f : Nat) : Nat → List Int
  | 0 => img
  | j + 1 => if f.testBit (j / 64) then (twTo img o f j).set (o.page * 256 + j) (o.data.getD j 0) else twTo img o f j
theorem twTo_len (img : List Int) (o : OW) (f : Nat) : ∀ j, (twTo img o f j).length = img.length
  | 0 => rfl
  | j + 1 => by
    unfold twTo
    split
    · rw [List.length_set]; exact twTo_len img o f j
    · exact twTo_len img o f j
theorem getD_set0 (l : List Int) (i j : Nat) (x : Int) (h : i < l.length) : (l.set i x).getD j 0 = if j = i then x else l.getD j 0 := by
  by_cases e : j = i
  · subst e; rw [if_pos rfl, List.getD_eq_getElem?_getD, List.getElem?_set_self h]; rfl
  · rw [if_neg e, List.getD_eq_getElem?_getD, List.getElem?_set_ne (fun q => e q.symm), ← List.getD_eq_getElem?_getD]
theorem twTo_get {img : List Int} {n : Nat} {o : OW} (f : Nat) (h : img.length = 256 * n) (ho : OwOk n o) : ∀ j, j ≤ 256 → ∀ k, (twTo img o f j).getD k 0 = if o.page * 256 ≤ k ∧ k < o.page * 256 + j ∧ f.testBit ((k - o.page * 256) / 64) = true then o.data.getD (k - o.page * 256) 0 else img.getD k 0
  | 0, _, k => by rw [if_neg (by omega)]; rfl
  | j + 1, hj, k => by
    have ih := twTo_get f h ho j (by omega) k
    have hl := twTo_len img o f j
    obtain ⟨h1, h2, h3⟩ := ho
    unfold twTo
    split
    · rename_i hb
      rw [getD_set0 _ _ _ _ (by rw [hl, h]; omega)]
      by_cases c : k = o.page * 256 + j
      · have hs : k - o.page * 256 = j := by omega
        rw [if_pos c, if_pos ⟨by omega, by omega, by rw [hs]; exact hb⟩, hs]
      · rw [if_neg c, ih]
        by_cases d : o.page * 256 ≤ k ∧ k < o.page * 256 + j ∧ f.testBit ((k - o.page * 256) / 64) = true
        · rw [if_pos d, if_pos ⟨d.1, by omega, d.2.2⟩]
        · rw [if_neg d, if_neg (fun e => d ⟨e.1, by omega, e.2.2⟩)]
    · rename_i hb
      rw [ih]
      by_cases d : o.page * 256 ≤ k ∧ k < o.page * 256 + j ∧ f.testBit ((k - o.page * 256) / 64) = true
      · rw [if_pos d, if_pos ⟨d.1, by omega, d.2.2⟩]
      · rw [if_neg d, if_neg]
        rintro ⟨e1, e2, e3⟩
        by_cases c : k < o.page * 256 + j
        · exact d ⟨e1, c, e3⟩
        · rw [show k - o.page * 256 = j by omega] at e3
          exact hb e3
theorem tw_torn {img : List Int} {n : Nat} {o : OW} (f : Nat) (h : img.length = 256 * n) (ho : OwOk n o) : twTo img o f 256 = tornTo img o f 4 := by
  apply list_ext0
  · rw [twTo_len, tornTo_len f h ho 4 (Nat.le_refl _), h]
  · intro k hk
    rw [twTo_get f h ho 256 (Nat.le_refl _), tornTo_get f h ho 4 (Nat.le_refl _)]
theorem torn0 (img : List Int) (o : OW) : ∀ j, tornTo img o 0 j = img
  | 0 => rfl
  | j + 1 => by rw [tornTo, if_neg (by simp)]; exact torn0 img o j
theorem crash_step {img : List Int} {n : Nat} {ops : List OW} (fs : List Int) (h : img.length = 256 * n) (ho : ∀ o ∈ ops, OwOk n o) (i : Nat) (hi : i < ops.length) : crashTo img ops fs (i + 1) = twTo (crashTo img ops fs i) (ops.getD i dW) (fateOf fs i) 256 := by
  rw [tw_torn _ (crashTo_len fs h ho i (by omega)) (ho _ (getD_memW ops i hi)), crashTo]
  split
  · rfl
  · rename_i hf
    have e : fateOf fs i = 0 := by unfold fateOf; rw [List.getD_eq_getElem?_getD, List.getElem?_eq_none (by omega)]; rfl
    rw [e, torn0]
set_option maxRecDepth 100000 in
set_option maxHeartbeats 2000000 in
theorem tears_walk (w : World) (n : Int) (hn0 : -9223372036854775808 ≤ n) (hn1 : n ≤ 9223372036854775807) (rs1 rs2 : List WR) (hr1 : ∀ r ∈ rs1, WrOk r) (hr2 : ∀ r ∈ rs2, WrOk r) (sp1 sp2 sp3 : Option Addr) (cap1 cap2 cap3 : Nat) (W1 : Wrs w w.heap.size sp1 rs1) (W2 : Wrs w w.heap.size sp2 rs2) (hl1 : rs1.length ≤ 1048576) (hl2 : rs2.length ≤ 1048576)
    (fs : List Int) (hfb : Bts fs) (hF3 : Src w sp3 cap3 fs) :
    Calls Try.prog 5 #[.int .i64 n, .slice sp1 rs1.length cap1, .slice sp2 rs2.length cap2, .slice sp3 fs.length cap3] w fun e w' => e = .returned (.bool true) ∧ Below w.heap.size w w' := by
  have q23 := nilp
  obtain ⟨k, hk⟩ : ∃ k, k = (n % 8).toNat + 3 := ⟨_, rfl⟩
  obtain ⟨Z, hZ⟩ : ∃ Z : List Int, Z = List.replicate (256 * k) 0 := ⟨_, rfl⟩
  have FR := hid (fun w => fresh_to w n hn0 hn1 k hk Z hZ)
  have hk3 : 3 ≤ k := by omega
  have hk4 : k ≤ 10 := by have := Int.emod_lt_of_pos n (show (0 : Int) < 8 by decide); omega
  have ik4 : (k : Int) ≤ 10 := by omega
  have HZ := hid hZ
  clear hZ hk
  have HL1 := hid (show (newD Z).ops.length + rs1.length ≤ 400000000000 by show 0 + rs1.length ≤ _; omega)
  have HL2 := hid (show (newD Z).writes + rs1.length ≤ 4000000000000000000 by show (0 : Int) + rs1.length ≤ _; omega)
  have HL3 := hid (show ((newD Z).laid rs1).sy0.ops.length + rs2.length ≤ 400000000000 by show 0 + rs2.length ≤ _; omega)
  have HL4 := hid (show ((newD Z).laid rs1).sy0.writes + rs2.length ≤ 4000000000000000000 by show (0 : Int) + rs1.length + rs2.length ≤ _; omega)
  have T := TL.nil w w.heap.size (Nat.le_refl _)
  have T0 : w.heap.size ≤ w.heap.size := Nat.le_refl _
  have hB0 : Below w.heap.size w w := Below.refl _ _
  obtain ⟨B, hBB⟩ : ∃ B, B = w.heap.size := ⟨_, rfl⟩
  rw [← hBB] at W1 W2 T hB0 ⊢
  replace T0 : B ≤ w.heap.size := by omega
  have HBB := hid hBB
  have W20 := W2
  have HF3 := hid hF3
  have HFB := hid (show ∀ a, 0 < fs.length → sp3 = some a → a.block < B from fun a hp ha => by
    obtain ⟨_, _, b, o, q1, q2, _⟩ := hF3
    rw [q2 hp] at ha
    rw [← Option.some.inj ha, hBB]; exact q1 hp)
  clear hBB hF3
  have okN : DsOk (newD Z) := by rw [HZ.out]; exact newZ_ok hk3 (by omega)
  have npN : (newD Z).np = k := by rw [HZ.out]; exact emp_replicate k
  have okL := laid_ok okN hr1 HL1.out HL2.out
  have okX := sy0_ok okL (by show (0 : Int) < _; decide)
  have npX : ((newD Z).laid rs1).sy0.np = k := by rw [sy0_np okL, laid_np, npN]
  have okY := laid_ok okX hr2 HL3.out HL4.out
  have npY : (((newD Z).laid rs1).sy0.laid rs2).np = k := by rw [laid_np, npX]
  have hyl : (((newD Z).laid rs1).sy0.laid rs2).ops.length = rs2.length := by simp [DS.laid, DS.sy0]
  have HYL := hid (show (((newD Z).laid rs1).sy0.laid rs2).img.length = 256 * k by rw [okY.np.2.2.1, npY])
  have hlw0 := hid (show ((((newD Z).laid rs1).sy0.laid rs2).img.length : Int) = 256 * (k : Int) by rw [HYL.out]; omega)
  have OKY := hid okY
  have NPY := hid npY
  clear okN okL okX npX okY npY
  go_enter Try.func5, Try.ntmps5
  go_wp2_with fail
  refine (FR.out w).mono ?_
  rintro e w1 ⟨p1, Fp1, rfl, hD, hBx⟩
  have T := T.push hBx hD
  clear hD
  have hBy : Below B w w1 := hBx.mono T0
  have T0 : B ≤ w1.heap.size := Nat.le_trans T0 hBx.size
  have hB0 := hB0.trans hBy
  have W1 := W1.below hBy
  have W2 := W2.below hBy
  clear hBx hBy
  change TL B w1 [(p1, (newD Z))] [] at T
  go_wp2_with fail
  obtain ⟨F, hDA, hGF, hnx⟩ := T.at 0 (by simp)
  change DA w1 B F p1 (newD Z) at hDA
  clear hnx
  refine (Pages_any w1 B F p1 _ hDA).mono ?_
  rintro e wx ⟨rfl, rfl⟩
  clear hDA hGF
  rw [npN]
  go_wp2_with fail
  obtain ⟨F, hDA, hGF, hnx⟩ := T.at 0 (by simp)
  change DA w1 B F p1 (newD Z) at hDA
  change ∀ (w' : World) (D' : DS), Nx B F p1 w1 D' w' → TL B w' [(p1, D')] [] ∧ Below B w1 w' ∧ ∀ g ∈ [], w'.heap[g]? = w1.heap[g]? at hnx
  refine (lays_any w1 B F p1 (newD Z) hDA T0 rfl rfl rs1 hr1 sp1 cap1 W1 HL1.out HL2.out).mono ?_
  rintro e w2 ⟨rfl, hN⟩
  obtain ⟨T1, hBy, hKx⟩ := hnx _ _ hN
  clear hnx hDA hGF hN
  have hB0 := hB0.trans hBy
  have W1 := W1.below hBy
  have W2 := W2.below hBy
  have T0 : B ≤ w2.heap.size := T1.hb
  clear T hBy hKx
  have T := T1
  clear T1
  change TL B w2 [(p1, ((newD Z).laid rs1))] [] at T
  go_wp2_with fail
  obtain ⟨F, hDA, hGF, hnx⟩ := T.at 0 (by simp)
  change DA w2 B F p1 ((newD Z).laid rs1) at hDA
  change ∀ (w' : World) (D' : DS), Nx B F p1 w2 D' w' → TL B w' [(p1, D')] [] ∧ Below B w2 w' ∧ ∀ g ∈ [], w'.heap[g]? = w2.heap[g]? at hnx
  refine (Sync0_any w2 B F p1 ((newD Z).laid rs1) hDA rfl rfl (by show (0 : Int) < _; decide)).mono ?_
  rintro e w3 ⟨rfl, hN⟩
  obtain ⟨T1, hBy, hKx⟩ := hnx _ _ hN
  clear hnx hDA hGF hN
  have hB0 := hB0.trans hBy
  have W1 := W1.below hBy
  have W2 := W2.below hBy
  have T0 : B ≤ w3.heap.size := T1.hb
  clear T hBy hKx
  have T := T1
  clear T1
  change TL B w3 [(p1, ((newD Z).laid rs1).sy0)] [] at T
  go_wp2_with fail
  obtain ⟨F, hDA, hGF, hnx⟩ := T.at 0 (by simp)
  change DA w3 B F p1 ((newD Z).laid rs1).sy0 at hDA
  change ∀ (w' : World) (D' : DS), Nx B F p1 w3 D' w' → TL B w' [(p1, D')] [] ∧ Below B w3 w' ∧ ∀ g ∈ [], w'.heap[g]? = w3.heap[g]? at hnx
  refine (lays_any w3 B F p1 ((newD Z).laid rs1).sy0 hDA T0 rfl rfl rs2 hr2 sp2 cap2 W2 HL3.out HL4.out).mono ?_
  rintro e w4 ⟨rfl, hN⟩
  obtain ⟨T1, hBy, hKx⟩ := hnx _ _ hN
  clear hnx hDA hGF hN
  have hB0 := hB0.trans hBy
  have W1 := W1.below hBy
  have W2 := W2.below hBy
  have T0 : B ≤ w4.heap.size := T1.hb
  clear T hBy hKx
  have T := T1
  clear T1
  change TL B w4 [(p1, (((newD Z).laid rs1).sy0.laid rs2))] [] at T
  go_wp2_with fail
  obtain ⟨F, hDA, hGF, hnx⟩ := T.at 0 (by simp)
  change DA w4 B F p1 (((newD Z).laid rs1).sy0.laid rs2) at hDA
  clear hnx hGF
  refine (Image_any w4 B F p1 _ hDA).mono ?_
  rintro e w5 ⟨vw, rfl, hO, hBx⟩
  have hzz : 0 < (((((newD Z).laid rs1).sy0.laid rs2)).img).length := by rw [himl _ hDA.ok]; have := hDA.ok.np.1; omega
  obtain ⟨gvw, T1, LW, hgBvw⟩ := T.listb hBx hO hzz
  have hBy : Below B w4 w5 := hBx.mono T0
  have T0 : B ≤ w5.heap.size := T1.hb
  have hB0 := hB0.trans hBy
  have W1 := W1.below hBy
  have W2 := W2.below hBy
  clear T hBx hBy hO hzz
  have T := T1
  clear T1
  change TL B w5 [(p1, (((newD Z).laid rs1).sy0.laid rs2))] (gvw :: []) at T
  clear hDA
  obtain ⟨gw, capw, rest, hvw, _, hgw, hcw, hmw, how⟩ := own_in LW.1 (by rw [HYL.out]; omega)
  subst hvw
  have hgv : gvw = gw := by have q := LW.2 gw how; simp at q; exact q.symm
  subst hgv
  have HGB := hid (show B ≤ gvw from hgBvw)
  clear LW how hgBvw
  go_wp2_with fail
  have hFsrc : Src w5 sp3 cap3 fs := HF3.out.below hB0 (by rw [HBB.out]; exact Nat.le_refl _)
  obtain ⟨F, hDA, hGF, hnx⟩ := T.at 0 (by simp)
  change DA w5 B F p1 (((newD Z).laid rs1).sy0.laid rs2) at hDA
  change ∀ (w' : World) (D' : DS), Nx B F p1 w5 D' w' → TL B w' [(p1, D')] (gvw :: []) ∧ Below B w5 w' ∧ ∀ g ∈ (gvw :: []), w'.heap[g]? = w5.heap[g]? at hnx
  refine (Crash_any w5 B F p1 (((newD Z).laid rs1).sy0.laid rs2) hDA (by show (0 : Int) < _; decide) fs hfb sp3 cap3 hFsrc (fun a hp ha e => by have := (hDA.lt _ e).1; have := HFB.out a hp ha; omega)).mono ?_
  rintro e w6 ⟨rfl, hN⟩
  rw [hyl]
  obtain ⟨T1, hBy, hKx⟩ := hnx _ _ hN
  clear hnx hDA hGF hN hFsrc
  have hgw := (hKx gvw (by simp)).trans hgw
  have hB0 := hB0.trans hBy
  have W1 := W1.below hBy
  have W2 := W2.below hBy
  have T0 : B ≤ w6.heap.size := T1.hb
  clear T hBy hKx
  have T := T1
  clear T1
  change TL B w6 [(p1, ((((newD Z).laid rs1).sy0.laid rs2).crashed fs))] (gvw :: []) at T
  have hlw : ((((((newD Z).laid rs1).sy0.laid rs2)).img).length : Int) = 256 * (k : Int) := hlw0.out
  go_wp2_with fail
  have HB0 := hid hB0
  have HT := hid T
  have HG := hid hgw
  have HW2 := hid W20
  clear W1 W2 T hB0 hgw T0
  go_loopw [12] (fun iv wr => ∃ i : Nat, i ≤ rs2.length ∧ iv = .int .i64 i ∧ wr.heap[gvw]? = some (.cells (ints .u8 (crashTo (((newD Z).laid rs1).sy0.laid rs2).img (((newD Z).laid rs1).sy0.laid rs2).ops fs i) ++ rest).toArray 5 (0, 0)) ∧ TL B wr [(p1, ((((newD Z).laid rs1).sy0.laid rs2).crashed fs))] [gvw] ∧ Below B w wr) (fun iv _ => rs2.length - (intOf iv).toNat)
  case atStart => exact ⟨0, by omega, rfl, HG.out, HT.out, HB0.out⟩
  case round =>
    clear HG HT HB0
    obtain ⟨i, hi, rfl, hgw, T, hB0⟩ := hrel
    by_cases hlt : i < rs2.length
    · have i1 : (i : Int) < (rs2.length : Int) := by omega
      obtain ⟨r, hre⟩ : ∃ r, r = rs2.getD i dR := ⟨_, rfl⟩
      have hr : WrOk r := by rw [hre]; exact hr2 _ (getD_memR rs2 i hlt)
      obtain ⟨P, hP⟩ : ∃ P, P = pg r k := ⟨_, rfl⟩
      have hPk : P < k := by rw [hP]; exact pg_lt r k (by omega)
      obtain ⟨o, ho⟩ : ∃ o : OW, o = ⟨P, fil r⟩ := ⟨_, rfl⟩
      have hoo : OwOk k o := by rw [ho]; exact ⟨hPk, fil_len r, fil_bts hr⟩
      have hog : ((((newD Z).laid rs1).sy0.laid rs2)).ops.getD i dW = o := by
        have e : ((((newD Z).laid rs1).sy0.laid rs2)).ops = rs2.map (owOf k) := by show [] ++ rs2.map (owOf ((newD Z).laid rs1).sy0.np) = _; rw [← NPY.out]; rfl
        rw [e, ho, hP, List.getD_eq_getElem?_getD, List.getElem?_map, List.getElem?_eq_getElem hlt, hre, List.getD_eq_getElem?_getD, List.getElem?_eq_getElem hlt]; rfl
      obtain ⟨f, hf⟩ : ∃ f : Nat, (f : Int) = fs.getD i 0 := ⟨(fs.getD i 0).toNat, by have := hfb.get i; omega⟩
      have hf256 : f < 256 := by have := hfb.get i; omega
      have hfo : fateOf fs i = f := by unfold fateOf; omega
      have hcl : (crashTo (((newD Z).laid rs1).sy0.laid rs2).img (((newD Z).laid rs1).sy0.laid rs2).ops fs i).length = 256 * k := crashTo_len fs HYL.out (by have := OKY.out.np.2.2.2; rw [NPY.out] at this; exact this) i (by rw [hyl]; omega)
      have HST := hid (show crashTo (((newD Z).laid rs1).sy0.laid rs2).img (((newD Z).laid rs1).sy0.laid rs2).ops fs (i + 1) = twTo (crashTo (((newD Z).laid rs1).sy0.laid rs2).img (((newD Z).laid rs1).sy0.laid rs2).ops fs i) o f 256 by rw [crash_step fs HYL.out (by have := OKY.out.np.2.2.2; rw [NPY.out] at this; exact this) i (by rw [hyl]; exact hlt), hog, hfo])
      have HFT := hid (fun (wx : World) (hb : Below B w wx) => (show Calls Try.prog 22 #[.slice sp3 fs.length cap3, .int .i64 i] wx fun e w' => e = .returned (.int .u8 f) ∧ wx = w' by
        have := fate_any wx fs sp3 cap3 (HF3.out.below hb (by rw [HBB.out]; exact Nat.le_refl _)) i (by omega)
        rw [← hf] at this; exact this))
      have hopg : o.page = P := by rw [ho]
      have hodt : ∀ j, j < 256 → o.data.getD j 0 = r.fill.getD (j / 64) 0 := fun j hj => by rw [ho]; exact fil_get r j hj
      obtain ⟨I0, hI0⟩ : ∃ I0, I0 = crashTo (((newD Z).laid rs1).sy0.laid rs2).img (((newD Z).laid rs1).sy0.laid rs2).ops fs i := ⟨_, rfl⟩
      rw [← hI0] at hgw hcl HST
      have HWR := hid (fun (wx : World) (hb : Below B w wx) => (show ∃ b o2, sp2 = some ⟨b, o2, none⟩ ∧ b < B ∧ wx.rangeAt b (o2 + i * 5) (encR r) by
        obtain ⟨b, o2, q1, q2⟩ := HW2.out
        obtain ⟨q3, _, q4⟩ := q1 (by omega)
        exact ⟨b, o2, q4, q3, by rw [hre]; exact rng_below (q2 i hlt) hb q3⟩))
      have HOO := hid hoo
      have HPG := hid hopg
      have HOD := hid hodt
      have HPP := hid hP
      have HCL := hid hcl
      have HG := hid hgw
      have HT := hid T
      have HB := hid hB0
      clear hre ho hoo hog hf hfo hcl hopg hodt hI0 hP hgw T hB0
      go_wp2
      go_loopw [13] (fun jv wr => ∃ j : Nat, j ≤ 256 ∧ jv = .int .i64 j ∧ wr.heap[gvw]? = some (.cells (ints .u8 (twTo I0 o f j) ++ rest).toArray 5 (0, 0)) ∧ TL B wr [(p1, ((((newD Z).laid rs1).sy0.laid rs2).crashed fs))] [gvw] ∧ Below B w wr) (fun jv _ => 256 - (intOf jv).toNat)
      case atStart => exact ⟨0, by omega, rfl, HG.out, HT.out, HB.out⟩
      case round =>
        clear HG HT HB
        obtain ⟨j, hj, rfl, hgw, T, hB0⟩ := hrel
        by_cases hjl : j < 256
        · have j1 : (j : Int) < 256 := by omega
          obtain ⟨d, hd⟩ : ∃ d, d = j / 64 := ⟨_, rfl⟩
          have dt : (j : Int).tdiv 64 = (d : Int) := by rw [hd, Int.tdiv_eq_ediv_of_nonneg (by omega)]; rfl
          have d4 : d < 4 := by omega
          have id4 : (d : Int) < 4 := by omega
          have hbt := bit_u8 f d hf256
          cases hc : f.testBit d with
          | false =>
            rw [hc] at hbt
            have HTN := hid (show twTo I0 o f (j + 1) = twTo I0 o f j by rw [twTo, ← hd, hc]; rfl)
            clear hc hd
            go_wp2_with (go_at_call 22; refine (HFT.out _ hB0).mono ?_; rintro e wx ⟨rfl, rfl⟩)
            go_roundw
            case rel => exact ⟨j + 1, by omega, by go_num, by rw [HTN.out]; exact hgw, T, hB0⟩
            case measure => simp [intOf]; omega
          | true =>
            rw [hc] at hbt
            obtain ⟨b, o2, rfl, hbB, hrg⟩ := HWR.out wr hB0
            obtain ⟨x, hx⟩ : ∃ x, x = r.fill.getD d 0 := ⟨_, rfl⟩
            have hfl := hr.1
            have hxc : wr.cell? ⟨b, o2 + i * 5 + 1 + d, none⟩ = some (.int .u8 x) := by
              have := hrg (d + 1) (.int .u8 x) (by rw [encR, List.getElem?_cons_succ, ints_get _ _ _ (by omega), hx])
              rwa [show o2 + i * 5 + (d + 1) = o2 + i * 5 + 1 + d by omega] at this
            have hio : (Try.prog.info? 53).map (·.size) = some (encR r).length := by rw [sizeR, hr.len]
            have KIN := hid (show wr.drew.rangeAt b (o2 + i * 5) (encR r) ∧ wr.drew.cell? ⟨b, o2 + i * 5 + 1 + d, none⟩ = some (.int .u8 x) from ⟨hrg, hxc⟩)
            have hjP : P * 256 + j < (twTo I0 o f j).length := by rw [twTo_len, HCL.out]; omega
            have HTN := hid (show twTo I0 o f (j + 1) = (twTo I0 o f j).set (256 * P + j) x by rw [twTo, ← hd, hc, HPG.out, HOD.out j hjl, ← hd, hx, Nat.mul_comm P 256]; rfl)
            have HJP := hid (show 256 * P + j < (twTo I0 o f j).length by omega)
            have hbs : b < wr.heap.size := Nat.lt_of_lt_of_le hbB T.hb
            have hgB : B ≤ gvw := by have := HGB.out; exact this
            have KOF := hid (fun (wx : World) => (show Calls Try.prog 23 #[.agg (encR r).toArray, .int .i64 k] wx fun e w' => e = .returned (.int .i64 P) ∧ Below wx.heap.size wx w' by
              have := of_any wx r hr k hk3 (by omega); rw [← HPP.out] at this; exact this))
            obtain ⟨y, hy⟩ : ∃ y, y = (twTo I0 o f j).getD (256 * P + j) 0 := ⟨_, rfl⟩
            have KX := hid (fun (w5 : World) (h5 : Below wr.drew.heap.size wr.drew w5) => (show w5.cell? ⟨gvw, 256 * P + j, none⟩ = some (.int .u8 y) ∧ w5.frozen? ⟨gvw, 256 * P + j, none⟩ = false ∧ w5.heap[gvw]? = some (.cells (ints .u8 (twTo I0 o f j) ++ rest).toArray 5 (0, 0)) ∧ TL B w5 [(p1, ((((newD Z).laid rs1).sy0.laid rs2).crashed fs))] [gvw] ∧ Below B w w5 ∧ (w5.rangeAt b (o2 + i * 5) (encR r) ∧ w5.cell? ⟨b, o2 + i * 5 + 1 + d, none⟩ = some (.int .u8 x)) by
              have e5 : w5.heap[gvw]? = some (.cells (ints .u8 (twTo I0 o f j) ++ rest).toArray 5 (0, 0)) := (h5.block gvw (hlt_ hgw)).trans hgw
              have hb5 : Below wr.heap.size wr w5 := ⟨h5.os, h5.tape, h5.output, h5.size, h5.block⟩
              refine ⟨?_, frozen_of_row _ _ _ _ _ e5, e5, T.below hb5, hB0.trans (hb5.mono T.hb), rng_below hrg hb5 hbs, (hb5.cell (p := ⟨b, o2 + i * 5 + 1 + d, none⟩) hbs).trans hxc⟩
              rw [cell_of_row _ _ _ _ _ _ e5, List.getElem?_toArray, List.getElem?_append_left (by rw [ints_len]; exact HJP.out), ints_get _ _ _ HJP.out, hy]))
            have KS := hid (fun (w5 : World) (h5 : Below wr.drew.heap.size wr.drew w5) => (show (w5.setCell ⟨gvw, 256 * P + j, none⟩ (.int .u8 x)).rangeAt b (o2 + i * 5) (encR r) ∧ (w5.setCell ⟨gvw, 256 * P + j, none⟩ (.int .u8 x)).cell? ⟨b, o2 + i * 5 + 1 + d, none⟩ = some (.int .u8 x) by
              have hne : (w5.setCell ⟨gvw, 256 * P + j, none⟩ (.int .u8 x)).heap[b]? = w5.heap[b]? := heap_setCell_other w5 _ b _ (show b ≠ gvw by omega)
              obtain ⟨_, _, _, _, _, q1, q2⟩ := KX.out w5 h5
              exact ⟨rng_of_heap q1 hne, by rw [World.cell?, hne]; exact q2⟩))
            have KR := hid (fun (w5 : World) (e5 : w5.heap[gvw]? = some (.cells (ints .u8 (twTo I0 o f j) ++ rest).toArray 5 (0, 0))) => (show (w5.setCell ⟨gvw, 256 * P + j, none⟩ (.int .u8 x)).heap[gvw]? = some (.cells (ints .u8 (twTo I0 o f (j + 1)) ++ rest).toArray 5 (0, 0)) by
              rw [heap_setCell_same _ _ _ _ _ _ e5, HTN.out]
              congr 2
              rw [List.setIfInBounds_toArray, List.set_append_left _ _ (by rw [ints_len]; exact HJP.out)]
              simp [ints, List.map_set]))
            have iP : (P : Int) < 10 := by omega
            have iL : (256 * (P : Int) + (j : Int)) < ((((newD Z).laid rs1).sy0.laid rs2).img.length : Int) := by rw [HYL.out]; omega
            have HHB := hid hB0
            clear hc hd hx hxc hrg hjP hy hgw T hB0 HWR
            go_wp2_with (go_at_call 22; refine (HFT.out _ HHB.out).mono ?_; rintro e wx ⟨rfl, rfl⟩)
            refine wp_region_noPanic ?_
            refine wp_region_held_drew (S := fun w' => w'.rangeAt b (o2 + i * 5) (encR r) ∧ w'.cell? ⟨b, o2 + i * 5 + 1 + d, none⟩ = some (.int .u8 x)) (by kernel_rfl) KIN.out (fun hHeld => ?_)
            refine wpAnyH_take (i := 0) (oi := { dst := some 72, op := Op.move (Operand.tmp 11), type := 28, pos := "outright.go:82", after := #[], guard := none }) (v := .slice (some ⟨gvw, 0, none⟩) (((newD Z).laid rs1).sy0.laid rs2).img.length capw) rfl (by kernel_rfl) (by kernel_rfl) (by kernel_rfl) (fun _ _ _ h => h) (Or.inl ⟨by rfl, by intro w hS; go_simp⟩) hHeld ?_
            try simp only [Act.put, List.setIfInBounds_toArray, List.set_cons_zero, List.set_cons_succ]
            refine wpAnyH_take (i := 1) (oi := { dst := some 73, op := Op.move (Operand.tmp 2), type := 22, pos := "outright.go:82", after := #[], guard := none }) (v := .slice (some ⟨b, o2, none⟩) rs2.length cap2) rfl (by kernel_rfl) (by kernel_rfl) (by kernel_rfl) (fun _ _ _ h => h) (Or.inl ⟨by rfl, by intro w hS; go_simp⟩) hHeld ?_
            try simp only [Act.put, List.setIfInBounds_toArray, List.set_cons_zero, List.set_cons_succ]
            refine wpAnyH_take (i := 2) (oi := { dst := some 74, op := Op.move (Operand.tmp 12), type := 3, pos := "outright.go:82", after := #[], guard := none }) (v := .int .i64 i) rfl (by kernel_rfl) (by kernel_rfl) (by kernel_rfl) (fun _ _ _ h => h) (Or.inl ⟨by rfl, by intro w hS; go_simp⟩) hHeld ?_
            try simp only [Act.put, List.setIfInBounds_toArray, List.set_cons_zero, List.set_cons_succ]
            refine wpAnyH_take (i := 5) (oi := { dst := some 77, op := Op.move (Operand.tmp 10), type := 3, pos := "outright.go:82", after := #[], guard := none }) (v := .int .i64 k) rfl (by kernel_rfl) (by kernel_rfl) (by kernel_rfl) (fun _ _ _ h => h) (Or.inl ⟨by rfl, by intro w hS; go_simp⟩) hHeld ?_
            try simp only [Act.put, List.setIfInBounds_toArray, List.set_cons_zero, List.set_cons_succ]
            refine wpAnyH_take (i := 8) (oi := { dst := some 80, op := Op.move (Operand.tmp 13), type := 3, pos := "outright.go:82", after := #[], guard := none }) (v := .int .i64 j) rfl (by kernel_rfl) (by kernel_rfl) (by kernel_rfl) (fun _ _ _ h => h) (Or.inl ⟨by rfl, by intro w hS; go_simp⟩) hHeld ?_
            try simp only [Act.put, List.setIfInBounds_toArray, List.set_cons_zero, List.set_cons_succ]
            refine wpAnyH_take (i := 10) (oi := { dst := some 82, op := Op.move (Operand.tmp 2), type := 22, pos := "outright.go:82", after := #[], guard := none }) (v := .slice (some ⟨b, o2, none⟩) rs2.length cap2) rfl (by kernel_rfl) (by kernel_rfl) (by kernel_rfl) (fun _ _ _ h => h) (Or.inl ⟨by rfl, by intro w hS; go_simp⟩) hHeld ?_
            try simp only [Act.put, List.setIfInBounds_toArray, List.set_cons_zero, List.set_cons_succ]
            refine wpAnyH_take (i := 11) (oi := { dst := some 83, op := Op.move (Operand.tmp 12), type := 3, pos := "outright.go:82", after := #[], guard := none }) (v := .int .i64 i) rfl (by kernel_rfl) (by kernel_rfl) (by kernel_rfl) (fun _ _ _ h => h) (Or.inl ⟨by rfl, by intro w hS; go_simp⟩) hHeld ?_
            try simp only [Act.put, List.setIfInBounds_toArray, List.set_cons_zero, List.set_cons_succ]
            refine wpAnyH_take (i := 12) (oi := { dst := some 84, op := Op.move (Operand.tmp 13), type := 3, pos := "outright.go:82", after := #[], guard := none }) (v := .int .i64 j) rfl (by kernel_rfl) (by kernel_rfl) (by kernel_rfl) (fun _ _ _ h => h) (Or.inl ⟨by rfl, by intro w hS; go_simp⟩) hHeld ?_
            try simp only [Act.put, List.setIfInBounds_toArray, List.set_cons_zero, List.set_cons_succ]
            refine wpAnyH_take (i := 3) (oi := { dst := some 75, op := Op.indexAddr 22 (Operand.tmp 73) (Operand.tmp 74), type := 0, pos := "outright.go:82", after := #[{ on := 1, ground := Ground.data }, { on := 2, ground := Ground.data }], guard := none }) (v := .pointer (some ⟨b, o2 + i * 5, none⟩)) rfl (by kernel_rfl) (by kernel_rfl) (by kernel_rfl) (fun _ _ _ h => h) (Or.inl ⟨by rfl, by intro w hS; go_simp⟩) hHeld ?_
            try simp only [Act.put, List.setIfInBounds_toArray, List.set_cons_zero, List.set_cons_succ]
            refine wpAnyH_take (i := 13) (oi := { dst := some 85, op := Op.binOp BinOp.quo 3 (Operand.tmp 84) (Operand.const (Value.int IntKind.i64 64)) 3, type := 3, pos := "outright.go:82", after := #[{ on := 12, ground := Ground.data }], guard := none }) (v := .int .i64 d) rfl (by kernel_rfl) (by kernel_rfl) (by kernel_rfl) (fun _ _ _ h => h) (Or.inl ⟨by rfl, by intro w hS; go_simp; exact wrap_i64_id _ (by omega) (by omega)⟩) hHeld ?_
            try simp only [Act.put, List.setIfInBounds_toArray, List.set_cons_zero, List.set_cons_succ]
            refine wpAnyH_take (i := 14) (oi := { dst := some 86, op := Op.indexAddr 22 (Operand.tmp 82) (Operand.tmp 83), type := 0, pos := "outright.go:82", after := #[{ on := 10, ground := Ground.data }, { on := 11, ground := Ground.data }], guard := none }) (v := .pointer (some ⟨b, o2 + i * 5, none⟩)) rfl (by kernel_rfl) (by kernel_rfl) (by kernel_rfl) (fun _ _ _ h => h) (Or.inl ⟨by rfl, by intro w hS; go_simp⟩) hHeld ?_
            try simp only [Act.put, List.setIfInBounds_toArray, List.set_cons_zero, List.set_cons_succ]
            refine wpAnyH_take (i := 4) (oi := { dst := some 76, op := Op.load 53 (Operand.tmp 75), type := 53, pos := "outright.go:82", after := #[{ on := 3, ground := Ground.data }], guard := none }) (v := .agg (encR r).toArray) rfl (by kernel_rfl) (by kernel_rfl) (by kernel_rfl) (fun _ _ _ h => h) (yieldsIf_load_mid (by rfl) 53 _ rfl b (o2 + i * 5) rfl (encR r) _ (fun w hS => hS.1) Try.underlying53 rfl hio) hHeld ?_
            try simp only [Act.put, List.setIfInBounds_toArray, List.set_cons_zero, List.set_cons_succ]
            refine wpAnyH_take (i := 15) (oi := { dst := some 87, op := Op.fieldAddr 53 (Operand.tmp 86) 1, type := 0, pos := "outright.go:82", after := #[{ on := 14, ground := Ground.data }], guard := none }) (v := .pointer (some ⟨b, o2 + i * 5 + 1, none⟩)) rfl (by kernel_rfl) (by kernel_rfl) (by kernel_rfl) (fun _ _ _ h => h) (Or.inl ⟨by rfl, by intro w hS; go_simp⟩) hHeld ?_
            try simp only [Act.put, List.setIfInBounds_toArray, List.set_cons_zero, List.set_cons_succ]
            refine wpAnyH_take (i := 16) (oi := { dst := some 88, op := Op.indexAddr 51 (Operand.tmp 87) (Operand.tmp 85), type := 0, pos := "outright.go:82", after := #[{ on := 15, ground := Ground.data }, { on := 13, ground := Ground.data }], guard := none }) (v := .pointer (some ⟨b, o2 + i * 5 + 1 + d, none⟩)) rfl (by kernel_rfl) (by kernel_rfl) (by kernel_rfl) (fun _ _ _ h => h) (Or.inl ⟨by rfl, by intro w hS; go_simp⟩) hHeld ?_
            try simp only [Act.put, List.setIfInBounds_toArray, List.set_cons_zero, List.set_cons_succ]
            refine wpAnyH_take (i := 17) (oi := { dst := some 89, op := Op.load 5 (Operand.tmp 88), type := 5, pos := "outright.go:82", after := #[{ on := 16, ground := Ground.data }], guard := none }) (v := .int .u8 x) rfl (by kernel_rfl) (by kernel_rfl) (by kernel_rfl) (fun _ _ _ h => h) (Or.inl ⟨by rfl, by intro w hS; have hc := hS.2; go_simp⟩) hHeld ?_
            try simp only [Act.put, List.setIfInBounds_toArray, List.set_cons_zero, List.set_cons_succ]
            refine wpAnyH_ready (rs := [6]) (by kernel_rfl) (by simp) ?_
            refine (AllReadyH.cons (o := { dst := some 78, op := Op.call { callee := Callee.value (Operand.func 23), args := #[Operand.tmp 76, Operand.tmp 77], argTypes := #[53, 3] }, type := 3, pos := "outright.go:82", after := #[{ on := 4, ground := Ground.data }, { on := 5, ground := Ground.data }], guard := none }) rfl (fun K hK => ?_) AllReadyH.nil)
            go_simp
            go_at_call 23
            refine (KOF.out _).mono ?_
            rintro e w5 ⟨rfl, hB5⟩
            go_wp2_with fail
            obtain ⟨cx, fx, hrow, hT5, hBw5, hS5⟩ := KX.out w5 hB5
            refine hK.out _ _ (hS5) (fun hHeld2 => ?_)
            clear hK K hHeld
            have hHeld := hHeld2
            clear hHeld2
            try simp only [Act.put, List.setIfInBounds_toArray, List.set_cons_zero, List.set_cons_succ]
            refine wpAnyH_take (i := 7) (oi := { dst := some 79, op := Op.binOp BinOp.mul 3 (Operand.const (Value.int IntKind.i64 256)) (Operand.tmp 78) 3, type := 3, pos := "outright.go:82", after := #[{ on := 6, ground := Ground.data }], guard := none }) (v := .int .i64 (256 * P)) rfl (by kernel_rfl) (by kernel_rfl) (by kernel_rfl) (fun _ _ _ h => h) (Or.inl ⟨by rfl, by intro w hS; go_simp; exact wrap_i64_id _ (by omega) (by omega)⟩) hHeld ?_
            try simp only [Act.put, List.setIfInBounds_toArray, List.set_cons_zero, List.set_cons_succ]
            refine wpAnyH_take (i := 9) (oi := { dst := some 81, op := Op.binOp BinOp.add 3 (Operand.tmp 79) (Operand.tmp 80) 3, type := 3, pos := "outright.go:82", after := #[{ on := 7, ground := Ground.data }, { on := 8, ground := Ground.data }], guard := none }) (v := .int .i64 (256 * P + j)) rfl (by kernel_rfl) (by kernel_rfl) (by kernel_rfl) (fun _ _ _ h => h) (Or.inl ⟨by rfl, by intro w hS; go_simp; exact wrap_i64_id _ (by omega) (by omega)⟩) hHeld ?_
            try simp only [Act.put, List.setIfInBounds_toArray, List.set_cons_zero, List.set_cons_succ]
            refine wpAnyH_take (i := 18) (oi := { dst := some 90, op := Op.indexAddr 28 (Operand.tmp 72) (Operand.tmp 81), type := 0, pos := "outright.go:82", after := #[{ on := 0, ground := Ground.data }, { on := 9, ground := Ground.data }, { on := 0, ground := Ground.phase }, { on := 1, ground := Ground.phase }, { on := 2, ground := Ground.phase }, { on := 3, ground := Ground.phase }, { on := 4, ground := Ground.phase }, { on := 5, ground := Ground.phase }, { on := 6, ground := Ground.phase }, { on := 7, ground := Ground.phase }, { on := 8, ground := Ground.phase }, { on := 9, ground := Ground.phase }, { on := 10, ground := Ground.phase }, { on := 11, ground := Ground.phase }, { on := 12, ground := Ground.phase }, { on := 13, ground := Ground.phase }, { on := 14, ground := Ground.phase }, { on := 15, ground := Ground.phase }, { on := 16, ground := Ground.phase }, { on := 17, ground := Ground.phase }], guard := none }) (v := .pointer (some ⟨gvw, 256 * P + j, none⟩)) rfl (by kernel_rfl) (by kernel_rfl) (by kernel_rfl) (fun _ _ _ h => h) (Or.inl ⟨by rfl, by intro w hS; have q1 : (256 * (P : Int) + (j : Int)).toNat = 256 * P + j := (by omega); go_simp; intro q; exact absurd (q (by omega)) (by omega)⟩) hHeld ?_
            try simp only [Act.put, List.setIfInBounds_toArray, List.set_cons_zero, List.set_cons_succ]
            refine wpAnyH_ready (rs := [19]) (by kernel_rfl) (by simp) ?_
            refine (AllReadyH.cons (o := { dst := none, op := Op.store 5 (Operand.tmp 90) (Operand.tmp 89), type := 0, pos := "outright.go:82", after := #[{ on := 18, ground := Ground.data }, { on := 17, ground := Ground.data }, { on := 6, ground := Ground.chain }, { on := 0, ground := Ground.phase }, { on := 1, ground := Ground.phase }, { on := 2, ground := Ground.phase }, { on := 3, ground := Ground.phase }, { on := 4, ground := Ground.phase }, { on := 5, ground := Ground.phase }, { on := 6, ground := Ground.phase }, { on := 7, ground := Ground.phase }, { on := 8, ground := Ground.phase }, { on := 9, ground := Ground.phase }, { on := 10, ground := Ground.phase }, { on := 11, ground := Ground.phase }, { on := 12, ground := Ground.phase }, { on := 13, ground := Ground.phase }, { on := 14, ground := Ground.phase }, { on := 15, ground := Ground.phase }, { on := 16, ground := Ground.phase }, { on := 17, ground := Ground.phase }], guard := none }) rfl (fun K hK => ?_) AllReadyH.nil)
            go_simp
            refine hK.out _ _ (KS.out w5 hB5) (fun hHeld2 => ?_)
            clear hK K hHeld
            have hHeld := hHeld2
            clear hHeld2
            try simp only [Act.put, List.setIfInBounds_toArray, List.set_cons_zero, List.set_cons_succ]
            refine wpAnyH_done (by kernel_rfl) ?_ _
            refine NoPanic.normal ?_
            clear hHeld
            go_wp2
            go_roundw
            case rel => exact ⟨j + 1, by omega, by go_num, KR.out w5 hrow, hT5.setG (by simp) _ _, hBw5.setCell HGB.out _⟩
            case measure => simp [intOf]; omega
        · obtain rfl : j = 256 := by omega
          clear hjl
          rw [← HST.out] at hgw
          go_wp2
          go_roundw
          case rel => exact ⟨i + 1, by omega, by go_num, hgw, T, hB0⟩
          case measure => simp [intOf]; omega
    · obtain rfl : i = rs2.length := by omega
      clear hlt
      have hzl : (crashTo (((newD Z).laid rs1).sy0.laid rs2).img (((newD Z).laid rs1).sy0.laid rs2).ops fs rs2.length).length = (((newD Z).laid rs1).sy0.laid rs2).img.length := by rw [crashTo_len fs HYL.out (by have := OKY.out.np.2.2.2; rw [NPY.out] at this; exact this) rs2.length (by rw [hyl]; exact Nat.le_refl _), HYL.out]
      have hei : ((((newD Z).laid rs1).sy0.laid rs2).crashed fs).img = crashTo (((newD Z).laid rs1).sy0.laid rs2).img (((newD Z).laid rs1).sy0.laid rs2).ops fs rs2.length := by show crashTo (((newD Z).laid rs1).sy0.laid rs2).img (((newD Z).laid rs1).sy0.laid rs2).ops fs (((newD Z).laid rs1).sy0.laid rs2).ops.length = _; rw [hyl]
      have npE : ((((newD Z).laid rs1).sy0.laid rs2).crashed fs).np = k := by rw [crashed_np OKY.out, NPY.out]
      have HEI := hid hei
      have NPE := hid npE
      have T0 := T.hb
      rw [← hei] at hgw hzl
      have HZL := hid hzl
      clear hei npE hzl HW2
      go_wp2_with fail
      obtain ⟨F, hDA, hGF, hnx⟩ := T.at 0 (by simp)
      change DA wr B F p1 ((((newD Z).laid rs1).sy0.laid rs2).crashed fs) at hDA
      clear hnx hGF
      refine (Image_any wr B F p1 _ hDA).mono ?_
      rintro e w7 ⟨vi, rfl, hO, hBx⟩
      have hzz : 0 < (((((newD Z).laid rs1).sy0.laid rs2).crashed fs).img).length := by rw [himl _ hDA.ok]; have := hDA.ok.np.1; omega
      obtain ⟨gvi, T1, LI, hgBvi⟩ := T.listb hBx hO hzz
      have hgw := (hBx.block gvw (hlt_ hgw)).trans hgw
      have hBy : Below B wr w7 := hBx.mono T0
      have T0 : B ≤ w7.heap.size := T1.hb
      have hB0 := hB0.trans hBy
      clear T hBx hBy hO hzz
      have T := T1
      clear T1
      change TL B w7 [(p1, ((((newD Z).laid rs1).sy0.laid rs2).crashed fs))] (gvi :: [gvw]) at T
      clear hDA
      obtain ⟨s1, c1, hv1, hs1, _⟩ := LI.form
      subst hv1
      clear LI hgBvi
      go_wp2_with fail
      refine (same_to w7 ((((newD Z).laid rs1).sy0.laid rs2).crashed fs).img ((((newD Z).laid rs1).sy0.laid rs2).crashed fs).img _ _ _ _ hs1 (src_was hgw hmw HZL.out hcw) _ _ rfl HZL.out).mono ?_
      rintro e w8 ⟨rfl, hBx⟩
      have hgw := (hBx.block gvw (hlt_ hgw)).trans hgw
      have T := T.below hBx
      have hBy : Below B w7 w8 := hBx.mono T0
      have T0 : B ≤ w8.heap.size := T.hb
      have hB0 := hB0.trans hBy
      clear hBx hBy
      rw [decide_eq_true rfl]
      clear hs1
      go_wp2_with fail
      have HB0 := hid hB0
      have HT := hid T
      have HG := hid hgw
      clear hB0 T hgw T0
      go_loopw [14] (fun qv wr => ∃ q : Nat, q ≤ k ∧ qv = .int .i64 q ∧ wr.heap[gvw]? = some (.cells (ints .u8 ((((newD Z).laid rs1).sy0.laid rs2).crashed fs).img ++ rest).toArray 5 (0, 0)) ∧ TL B wr [(p1, ({ ((((newD Z).laid rs1).sy0.laid rs2).crashed fs) with reads := (q : Int) } : DS))] (gvi :: [gvw]) ∧ Below B w wr) (fun qv _ => k - (intOf qv).toNat)
      case atStart => exact ⟨0, by omega, rfl, HG.out, HT.out, HB0.out⟩
      case round =>
        clear HG HT HB0
        obtain ⟨q, hq, rfl, hgw, T, hB0⟩ := hrel
        by_cases hlt : q < k
        · have i1 : (q : Int) < (k : Int) := by omega
          have T0 := T.hb
          go_wp2_with fail
          obtain ⟨F, hDA, hGF, hnx⟩ := T.at 0 (by simp)
          change DA wr B F p1 ({ ((((newD Z).laid rs1).sy0.laid rs2).crashed fs) with reads := (q : Int) } : DS) at hDA
          change ∀ (w' : World) (D' : DS), Nx B F p1 wr D' w' → TL B w' [(p1, D')] (gvi :: [gvw]) ∧ Below B wr w' ∧ ∀ g ∈ (gvi :: [gvw]), w'.heap[g]? = wr.heap[g]? at hnx
          refine (Read_any wr B F p1 _ hDA rfl q (by show q < ((((newD Z).laid rs1).sy0.laid rs2).crashed fs).np; rw [NPE.out]; exact hlt) (by show (q : Int) < _; omega)).mono ?_
          rintro e w10 ⟨vr, rfl, hO, hN⟩
          obtain ⟨T1, hBy, hKx⟩ := hnx _ _ hN
          clear hnx hDA hGF hN
          have hgw := (hKx gvw (by simp)).trans hgw
          have hB0 := hB0.trans hBy
          have T0 : B ≤ w10.heap.size := T1.hb
          clear T hBy hKx
          have T := T1
          clear T1
          change TL B w10 [(p1, ({ ((((newD Z).laid rs1).sy0.laid rs2).crashed fs) with reads := (q : Int) + 1 } : DS))] (gvi :: [gvw]) at T
          have hrd : ({ ((((newD Z).laid rs1).sy0.laid rs2).crashed fs) with reads := (q : Int) } : DS).readOf q = (((((newD Z).laid rs1).sy0.laid rs2).crashed fs).img.drop (q * 256)).take 256 := rfl
          rw [hrd] at hO
          have hrl : ((((((newD Z).laid rs1).sy0.laid rs2).crashed fs).img.drop (q * 256)).take 256).length = 256 := by rw [List.length_take, List.length_drop, HZL.out, HYL.out]; omega
          obtain ⟨s3, c3, hv3, hs3, _⟩ := hO.form
          rw [hrl] at hv3
          subst hv3
          have HS3 := hid hs3
          have HRL := hid hrl
          clear hO hs3 hrd hrl
          have iq : 256 * (q : Int) + 256 ≤ (capw : Int) := by have := hcw; have := HYL.out; omega
          have q10 : (q : Int) < 10 := by omega
          go_wp2_with fail
          have hcq := HYL.out
          have hzq := HZL.out
          refine (same_to w10 ((((((newD Z).laid rs1).sy0.laid rs2).crashed fs).img.drop (q * 256)).take 256) ((((((newD Z).laid rs1).sy0.laid rs2).crashed fs).img.drop (256 * q)).take 256) _ _ _ _ HS3.out (src_part hgw (256 * q) 256 (capw - 256 * q) (by omega) (by omega) (by omega)) 256 256 HRL.out (by rw [Nat.mul_comm]; exact HRL.out)).mono ?_
          rintro e w11 ⟨rfl, hBx⟩
          have hgw := (hBx.block gvw (hlt_ hgw)).trans hgw
          have T := T.below hBx
          have hBy : Below B w10 w11 := hBx.mono T0
          have T0 : B ≤ w11.heap.size := T.hb
          have hB0 := hB0.trans hBy
          clear hBx hBy
          rw [decide_eq_true (by rw [Nat.mul_comm])]
          clear HS3 hcq hzq
          go_wp2
          go_roundw
          case rel => exact ⟨q + 1, by omega, by go_num, hgw, by rw [show ((q + 1 : Nat) : Int) = (q : Int) + 1 from rfl]; exact T, hB0⟩
          case measure => simp [intOf]; omega
        · obtain rfl : q = k := by omega
          clear hlt
          go_wp2
          go_ret
          exact ⟨rfl, hB0⟩
end Go.Proofs.Ytcibcakgheegbaa
