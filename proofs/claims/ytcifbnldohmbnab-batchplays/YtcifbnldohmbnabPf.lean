import Derived.Test.YtcifbnldohmbnabPd
import Derived.Test.YtcifbnldohmbnabPe
import Derived.Test.YtcifbnldohmbnabCx
import Derived.Test.YtcifbnldohmbnabOc
namespace Go.Proofs.Ytcifbnldohmbnab
set_option linter.unusedVariables false
set_option linter.unusedSimpArgs false
open Go.RowKit
attribute [local go_sem ↓] Go.wp_at_zero Go.wp_at_succ

theorem O_r {w W0 : World} {g t : Nat} {fr : Nat × Nat} {m : MO} {p : BOp} (h : w.heap[g]? = some (.cells (encO m).toArray t fr)) (hm : SaysO W0 m p) : w.cell? ⟨g, 66, none⟩ = some m.rv := by
  have hl : (ints .u8 m.a).length = 32 := by rw [ints_len, hm.a, hm.la]
  have hl2 : (ints .u8 m.b).length = 32 := by rw [ints_len, hm.b, hm.lb]
  rw [cell_of_row _ _ _ _ _ _ h, List.getElem?_toArray]
  simp only [encO, List.singleton_append, List.getElem?_cons_succ]
  rw [List.getElem?_append_right (by omega), hl, List.getElem?_append_right (by omega), hl2]; rfl
theorem rm_set (zs : List Int) (j : Nat) (x : Int) (hj : j < zs.length) : (rm zs).set j x = rm (zs.set j x) := by
  unfold rm; rw [List.set_append_left _ _ hj]
theorem Byts.set {zs : List Int} (h : Byts zs) (j : Nat) (x : Int) (hx : 0 ≤ x ∧ x < 256) : Byts (zs.set j x) := fun y hy => by
  rcases List.mem_or_eq_of_mem_set hy with h1 | rfl
  · exact h y h1
  · exact hx
theorem wpList_rem {P : Program} {w : World} {ops : Array Oper} {rest : List Oper} {o : Oper} {a : Act} {Q : Exit → Act → World → Prop} (hg : o.guard = none) (x y : Operand) (ho : o.op = .binOp .rem 3 x y 3) (p : Int) (n : Nat) (hn : 0 < n)
    (hx : a.eval x = .int .i64 p) (hy : a.eval y = .int .i64 n) (h : ∀ r : Int, r = p.tmod n → wpList P ops Q rest (a.put o.dst (.int .i64 r)) w) : wpList P ops Q (o :: rest) a w := by
  refine wpList_plain hg fun K hK => ?_
  have hh := h _ rfl
  unfold Oper.wp execOp
  rw [ho]
  simp only [hx, hy]
  go_simp
  rw [if_neg (by omega)]
  exact hK _ _ hh
theorem tmod_bd (p : Int) (n : Nat) (hn : 0 < n) : -(n : Int) < p.tmod n ∧ p.tmod n < n := by
  have := Int.tmod_lt_of_pos p (show (0 : Int) < n by omega)
  refine ⟨?_, this⟩
  have h2 := Int.tmod_lt_of_pos (-p) (show (0 : Int) < n by omega)
  rw [Int.neg_tmod] at h2
  omega
theorem xor1_bd (x : Int) (h0 : 0 ≤ x) (h1 : x < 256) : 0 ≤ bits .xor .u8 x 1 ∧ bits .xor .u8 x 1 < 256 := by
  obtain ⟨a, rfl⟩ := Int.eq_ofNat_of_zero_le h0
  have := xor_u8 a 1 (by omega) (by omega)
  rw [show ((1 : Nat) : Int) = 1 from rfl] at this
  rw [this]
  have h2 : a ^^^ 1 < 2 ^ 8 := Nat.xor_lt_two_pow (by omega) (by omega)
  omega
set_option maxRecDepth 100000 in
set_option maxHeartbeats 4000000 in
theorem parsePlay_nil (w W0 : World) (m : MO) (p : BOp) (hm : SaysO W0 m p) (hW0 : Below W0.heap.size W0 w) (hpos : p.raw.length = 0) :
    Calls Try.prog 13 #[.agg (encO m).toArray] w fun e w' => e = .returned (.bool true) ∧ Below w.heap.size w w' := by
  have g1 := hnew w (.cells (encO m).toArray 30)
  have g2 : Below w.heap.size w (w.alloc (.cells (encO m).toArray 30)) := (Below.refl _ _).alloc (Nat.le_refl _) _
  have hO := hm.one
  have hs1 : (w.alloc (.cells (encO m).toArray 30)).heap.size = w.heap.size + 1 := by simp
  have CN : ∀ (wr : World) (g : Nat), wr.heap[g]? = some (.cells (encO m).toArray 30) → wr.cell? ⟨g, 1, none⟩ = some (.int .i64 p.n) := fun wr g h => O_n h hm
  have c66 := O_r g1 hm
  obtain ⟨sp, cap, hrv, hy, hS, hnil, hlen⟩ := hm.rv
  rw [hrv] at c66
  have CR : ∀ (wr : World) (g : Nat), wr.heap[g]? = some (.cells (encO m).toArray 30) → wr.cell? ⟨g, 66, none⟩ = some (.slice sp p.raw.length cap) := fun wr g h => by rw [O_r h hm, hrv]
  have KR := roomy_any (w.alloc (.cells (encO m).toArray 30)) p.raw sp cap ((hS.below hW0 (Nat.le_refl _)).below g2 (Nat.le_refl _)) (by omega)
  rw [hs1] at KR
  have KR := hid KR
  clear hrv hS hnil hm
  generalize encO m = E at *
  have HY0 := hid hy
  generalize hz0 : p.raw = z0 at *
  have HL0 := hid hpos
  rw [hpos] at KR CR c66
  simp only [Nat.zero_add] at KR
  clear hz0 hy hpos
  generalize p.n = pn at *
  go_enter Try.func13, Try.ntmps13
  go_wp2_with fail
  refine KR.out.mono ?_
  rintro e w1 ⟨rfl, hr1, hB1⟩
  have g3 := hbel hB1 g1 (by omega)
  have hB3 : Below w.heap.size w w1 := g2.trans (hB1.mono (by omega))
  have c66b := CR _ _ g3
  clear KR c66 g1 g2 hs1 hB1
  go_wp2
  generalize hM : w.heap.size = M at *
  have HM := hid hM
  clear hM
  go_loopw [5, 6] (fun iv av wr => ∃ (i : Nat) (z : List Int), i ≤ 3 ∧ iv = .int .i64 i ∧ z.length = 0 ∧ Byts z ∧ wr.heap[M]? = some (.cells E.toArray 30) ∧ wr.heap[M + 1]? = some (.cells (ints .u8 (rm z)).toArray 5 (0, 0)) ∧ Below M w wr) (fun iv _ _ => 3 - (intOf iv).toNat)
  case atStart => exact ⟨0, z0, by omega, rfl, HL0.out, HY0.out, g3, hr1, hB3⟩
  case round =>
    clear HL0 HY0 g3 hr1 hB3 c66b
    obtain ⟨i, z, hi, rfl, hL, hy, g1, hr, hB⟩ := hrel
    have HL := hid hL
    clear hL
    by_cases hlt : i < 3
    · have i1 : (i : Int) < 3 := by omega
      have c66 := CR _ _ g1
      have c1 := CN _ _ g1
      by_cases h0 : i = 0
      · subst h0
        have S1 : Src wr (some ⟨M + 1, 0, none⟩) 100 z := src_row hr 100 (by rw [HL.out]; omega) (by unfold maxLen; omega)
        have KC := copyBytes_any wr z _ 100 S1 (by rw [HL.out]; omega)
        rw [HL.out] at KC
        have KC := hid KC
        go_wp2_with fail
        refine KC.out.mono ?_
        rintro e wa ⟨va, rfl, hOa, hBa⟩
        clear KC
        obtain ⟨spa, capa, rfl, hSa, _⟩ := hOa.form
        have hma : M + 1 < wr.heap.size := hlt_ hr
        have g1a := hbel hBa g1 (by omega)
        have hra := hbel hBa hr hma
        have hBa' : Below M w wa := hB.trans (hBa.mono (by omega))
        have S1a := S1.below hBa (Nat.le_refl _)
        have KP := Parse_any wa z _ 100 S1a hy
        rw [HL.out] at KP
        have KP := hid KP
        clear S1 hBa hOa
        rw [HL.out]
        go_wp2_with fail
        refine KP.out.mono ?_
        rintro e wb ⟨vb, rfl, hMb, hBb⟩
        clear KP
        have hmb : M + 1 < wa.heap.size := hlt_ hra
        have g1b := hbel hBb g1a (by omega)
        have hrb := hbel hBb hra hmb
        have hBb' : Below M w wb := hBa'.trans (hBb.mono (by omega))
        have hSb := hSa.below hBb (Nat.le_refl _)
        have KR := rParse_any wb z _ capa hSb hy (by rw [HL.out]; omega)
        rw [HL.out] at KR
        have KR := hid KR
        obtain ⟨spb, capb, bb, msb, hvb, hCb, _⟩ := hMb.chs
        subst hvb
        clear hBb hMb S1a
        go_wp2_with fail
        refine KR.out.mono ?_
        rintro e wc ⟨vc, rfl, hMc, hBc⟩
        clear KR
        have hmc : M + 1 < wb.heap.size := hlt_ hrb
        have g1c := hbel hBc g1b (by omega)
        have hrc := hbel hBc hrb hmc
        have hBc' : Below M w wc := hBb'.trans (hBc.mono (by omega))
        have hSc := hSb.below hBc (Nat.le_refl _)
        obtain ⟨spc, capc, bc, msc, hvc, hCc, _⟩ := hMc.chs
        subst hvc
        have KS := sameChanges_any wc _ _ spb spc capb capc bb 0 bc 0 msb msc (hCb.below hBc) hCc
        rw [eqL_self] at KS
        have KS := hid KS
        clear hMc hCb hSb hSa hBc hCc
        generalize (parseC z).cs.length = lc at *
        generalize (parseC z).at' = pa at *
        generalize (parseC z).e = pe at *
        go_wp2_with fail
        refine KS.out.mono ?_
        rintro e wd ⟨rfl, hBd⟩
        clear KS
        have hmd : M + 1 < wc.heap.size := hlt_ hrc
        have g1d := hbel hBd g1c (by omega)
        have hrd := hbel hBd hrc hmd
        have hBd' : Below M w wd := hBc'.trans (hBd.mono (by omega))
        have hSd := hSc.below hBd (Nat.le_refl _)
        have S2 : Src wd (some ⟨M + 1, 0, none⟩) 100 (rm z) := src_row (tl := []) (by rw [List.append_nil]; exact hrd) 100 (by rw [rm_len, HL.out]; decide) (by unfold maxLen; omega)
        have KI := roomyIs_any wd (rm z) z _ spa 100 capa S2 hSd (by rw [HL.out]; omega)
        rw [rm_len, HL.out, decide_eq_true rfl] at KI
        have KI := hid KI
        clear S2 hSd hSc hBd
        go_wp2_with fail
        refine KI.out.mono ?_
        rintro e we ⟨rfl, hBe⟩
        have hme : M + 1 < wd.heap.size := hlt_ hrd
        have g1e := hbel hBe g1d (by omega)
        have hre := hbel hBe hrd hme
        have hBe' : Below M w we := hBd'.trans (hBe.mono (by omega))
        clear KI hBe g1a g1b g1c g1d hra hrb hrc hrd hBa' hBb' hBc' hBd'
        go_wp2
        go_roundw
        case rel => exact ⟨0 + 1, z, by omega, by go_num, HL.out, hy, g1e, hre, hBe'⟩
        case measure => first | (simp [intOf]; omega) | simp [intOf]
      · have i2 : (0 : Int) < (i : Int) := by omega
        have S1 : Src wr (some ⟨M + 1, 0, none⟩) 100 z := src_row hr 100 (by rw [HL.out]; omega) (by unfold maxLen; omega)
        have KC := copyBytes_any wr z _ 100 S1 (by rw [HL.out]; omega)
        rw [HL.out] at KC
        have KC := hid KC
        go_wp2_with fail
        refine KC.out.mono ?_
        rintro e wa ⟨va, rfl, hOa, hBa⟩
        clear KC
        obtain ⟨spa, capa, rfl, hSa, _⟩ := hOa.form
        have hma : M + 1 < wr.heap.size := hlt_ hr
        have g1a := hbel hBa g1 (by omega)
        have hra := hbel hBa hr hma
        have hBa' : Below M w wa := hB.trans (hBa.mono (by omega))
        have S1a := S1.below hBa (Nat.le_refl _)
        have KP := Parse_any wa z _ 100 S1a hy
        rw [HL.out] at KP
        have KP := hid KP
        clear S1 hBa hOa
        rw [HL.out]
        go_wp2_with fail
        refine KP.out.mono ?_
        rintro e wb ⟨vb, rfl, hMb, hBb⟩
        clear KP
        have hmb : M + 1 < wa.heap.size := hlt_ hra
        have g1b := hbel hBb g1a (by omega)
        have hrb := hbel hBb hra hmb
        have hBb' : Below M w wb := hBa'.trans (hBb.mono (by omega))
        have hSb := hSa.below hBb (Nat.le_refl _)
        have KR := rParse_any wb z _ capa hSb hy (by rw [HL.out]; omega)
        rw [HL.out] at KR
        have KR := hid KR
        obtain ⟨spb, capb, bb, msb, hvb, hCb, _⟩ := hMb.chs
        subst hvb
        clear hBb hMb S1a
        go_wp2_with fail
        refine KR.out.mono ?_
        rintro e wc ⟨vc, rfl, hMc, hBc⟩
        clear KR
        have hmc : M + 1 < wb.heap.size := hlt_ hrb
        have g1c := hbel hBc g1b (by omega)
        have hrc := hbel hBc hrb hmc
        have hBc' : Below M w wc := hBb'.trans (hBc.mono (by omega))
        have hSc := hSb.below hBc (Nat.le_refl _)
        obtain ⟨spc, capc, bc, msc, hvc, hCc, _⟩ := hMc.chs
        subst hvc
        have KS := sameChanges_any wc _ _ spb spc capb capc bb 0 bc 0 msb msc (hCb.below hBc) hCc
        rw [eqL_self] at KS
        have KS := hid KS
        clear hMc hCb hSb hSa hBc hCc
        generalize (parseC z).cs.length = lc at *
        generalize (parseC z).at' = pa at *
        generalize (parseC z).e = pe at *
        go_wp2_with fail
        refine KS.out.mono ?_
        rintro e wd ⟨rfl, hBd⟩
        clear KS
        have hmd : M + 1 < wc.heap.size := hlt_ hrc
        have g1d := hbel hBd g1c (by omega)
        have hrd := hbel hBd hrc hmd
        have hBd' : Below M w wd := hBc'.trans (hBd.mono (by omega))
        have hSd := hSc.below hBd (Nat.le_refl _)
        have S2 : Src wd (some ⟨M + 1, 0, none⟩) 100 (rm z) := src_row (tl := []) (by rw [List.append_nil]; exact hrd) 100 (by rw [rm_len, HL.out]; decide) (by unfold maxLen; omega)
        have KI := roomyIs_any wd (rm z) z _ spa 100 capa S2 hSd (by rw [HL.out]; omega)
        rw [rm_len, HL.out, decide_eq_true rfl] at KI
        have KI := hid KI
        clear S2 hSd hSc hBd
        go_wp2_with fail
        refine KI.out.mono ?_
        rintro e we ⟨rfl, hBe⟩
        have hme : M + 1 < wd.heap.size := hlt_ hrd
        have g1e := hbel hBe g1d (by omega)
        have hre := hbel hBe hrd hme
        have hBe' : Below M w we := hBd'.trans (hBe.mono (by omega))
        clear KI hBe g1a g1b g1c g1d hra hrb hrc hrd hBa' hBb' hBc' hBd'
        go_wp2
        go_roundw
        case rel => exact ⟨i + 1, z, by omega, by go_num, HL.out, hy, g1e, hre, hBe'⟩
        case measure => first | (simp [intOf]; omega) | simp [intOf]
    · obtain rfl : i = 3 := by omega
      clear hlt
      go_wp2
      go_ret
      exact ⟨rfl, by rw [HM.out]; exact hB⟩
set_option maxRecDepth 100000 in
set_option maxHeartbeats 4000000 in
theorem parsePlay_pos (w W0 : World) (m : MO) (p : BOp) (hm : SaysO W0 m p) (hW0 : Below W0.heap.size W0 w) (hpos : 0 < p.raw.length) :
    Calls Try.prog 13 #[.agg (encO m).toArray] w fun e w' => e = .returned (.bool true) ∧ Below w.heap.size w w' := by
  have g1 := hnew w (.cells (encO m).toArray 30)
  have g2 : Below w.heap.size w (w.alloc (.cells (encO m).toArray 30)) := (Below.refl _ _).alloc (Nat.le_refl _) _
  have hO := hm.one
  have hs1 : (w.alloc (.cells (encO m).toArray 30)).heap.size = w.heap.size + 1 := by simp
  have CN : ∀ (wr : World) (g : Nat), wr.heap[g]? = some (.cells (encO m).toArray 30) → wr.cell? ⟨g, 1, none⟩ = some (.int .i64 p.n) := fun wr g h => O_n h hm
  have c66 := O_r g1 hm
  obtain ⟨sp, cap, hrv, hy, hS, hnil, hlen⟩ := hm.rv
  rw [hrv] at c66
  have CR : ∀ (wr : World) (g : Nat), wr.heap[g]? = some (.cells (encO m).toArray 30) → wr.cell? ⟨g, 66, none⟩ = some (.slice sp p.raw.length cap) := fun wr g h => by rw [O_r h hm, hrv]
  have KR := roomy_any (w.alloc (.cells (encO m).toArray 30)) p.raw sp cap ((hS.below hW0 (Nat.le_refl _)).below g2 (Nat.le_refl _)) (by omega)
  rw [hs1] at KR
  have KR := hid KR
  clear hrv hS hnil hm
  generalize encO m = E at *
  have HY0 := hid hy
  generalize hz0 : p.raw = z0 at *
  generalize hn0 : z0.length = n at *
  have HL0 := hid hn0
  clear hn0 hz0 hy
  generalize p.n = pn at *
  have i0 : (n : Int) ≤ 140737488351232 := by omega
  go_enter Try.func13, Try.ntmps13
  go_wp2_with fail
  refine KR.out.mono ?_
  rintro e w1 ⟨rfl, hr1, hB1⟩
  have g3 := hbel hB1 g1 (by omega)
  have hB3 : Below w.heap.size w w1 := g2.trans (hB1.mono (by omega))
  have c66b := CR _ _ g3
  clear KR c66 g1 g2 hs1 hB1
  go_wp2
  generalize hM : w.heap.size = M at *
  have HM := hid hM
  clear hM
  go_loopw [5, 6] (fun iv av wr => ∃ (i : Nat) (z : List Int), i ≤ 3 ∧ iv = .int .i64 i ∧ z.length = n ∧ Byts z ∧ wr.heap[M]? = some (.cells E.toArray 30) ∧ wr.heap[M + 1]? = some (.cells (ints .u8 (rm z)).toArray 5 (0, 0)) ∧ Below M w wr) (fun iv _ _ => 3 - (intOf iv).toNat)
  case atStart => exact ⟨0, z0, by omega, rfl, HL0.out, HY0.out, g3, hr1, hB3⟩
  case round =>
    clear HL0 HY0 g3 hr1 hB3 c66b
    obtain ⟨i, z, hi, rfl, hL, hy, g1, hr, hB⟩ := hrel
    have HL := hid hL
    clear hL
    by_cases hlt : i < 3
    · have i1 : (i : Int) < 3 := by omega
      have c66 := CR _ _ g1
      have c1 := CN _ _ g1
      by_cases h0 : i = 0
      · subst h0
        have S1 : Src wr (some ⟨M + 1, 0, none⟩) (n + 100) z := src_row hr (n + 100) (by rw [HL.out]; omega) (by unfold maxLen; omega)
        have KC := copyBytes_any wr z _ (n + 100) S1 (by rw [HL.out]; omega)
        rw [HL.out] at KC
        have KC := hid KC
        go_wp2_with fail
        refine KC.out.mono ?_
        rintro e wa ⟨va, rfl, hOa, hBa⟩
        clear KC
        obtain ⟨spa, capa, rfl, hSa, _⟩ := hOa.form
        have hma : M + 1 < wr.heap.size := hlt_ hr
        have g1a := hbel hBa g1 (by omega)
        have hra := hbel hBa hr hma
        have hBa' : Below M w wa := hB.trans (hBa.mono (by omega))
        have S1a := S1.below hBa (Nat.le_refl _)
        have KP := Parse_any wa z _ (n + 100) S1a hy
        rw [HL.out] at KP
        have KP := hid KP
        clear S1 hBa hOa
        rw [HL.out]
        go_wp2_with fail
        refine KP.out.mono ?_
        rintro e wb ⟨vb, rfl, hMb, hBb⟩
        clear KP
        have hmb : M + 1 < wa.heap.size := hlt_ hra
        have g1b := hbel hBb g1a (by omega)
        have hrb := hbel hBb hra hmb
        have hBb' : Below M w wb := hBa'.trans (hBb.mono (by omega))
        have hSb := hSa.below hBb (Nat.le_refl _)
        have KR := rParse_any wb z _ capa hSb hy (by rw [HL.out]; omega)
        rw [HL.out] at KR
        have KR := hid KR
        obtain ⟨spb, capb, bb, msb, hvb, hCb, _⟩ := hMb.chs
        subst hvb
        clear hBb hMb S1a
        go_wp2_with fail
        refine KR.out.mono ?_
        rintro e wc ⟨vc, rfl, hMc, hBc⟩
        clear KR
        have hmc : M + 1 < wb.heap.size := hlt_ hrb
        have g1c := hbel hBc g1b (by omega)
        have hrc := hbel hBc hrb hmc
        have hBc' : Below M w wc := hBb'.trans (hBc.mono (by omega))
        have hSc := hSb.below hBc (Nat.le_refl _)
        obtain ⟨spc, capc, bc, msc, hvc, hCc, _⟩ := hMc.chs
        subst hvc
        have KS := sameChanges_any wc _ _ spb spc capb capc bb 0 bc 0 msb msc (hCb.below hBc) hCc
        rw [eqL_self] at KS
        have KS := hid KS
        clear hMc hCb hSb hSa hBc hCc
        generalize (parseC z).cs.length = lc at *
        generalize (parseC z).at' = pa at *
        generalize (parseC z).e = pe at *
        go_wp2_with fail
        refine KS.out.mono ?_
        rintro e wd ⟨rfl, hBd⟩
        clear KS
        have hmd : M + 1 < wc.heap.size := hlt_ hrc
        have g1d := hbel hBd g1c (by omega)
        have hrd := hbel hBd hrc hmd
        have hBd' : Below M w wd := hBc'.trans (hBd.mono (by omega))
        have hSd := hSc.below hBd (Nat.le_refl _)
        have S2 : Src wd (some ⟨M + 1, 0, none⟩) (n + 100) (rm z) := src_row (tl := []) (by rw [List.append_nil]; exact hrd) (n + 100) (by rw [rm_len, HL.out]; exact Nat.le_refl _) (by unfold maxLen; omega)
        have KI := roomyIs_any wd (rm z) z _ spa (n + 100) capa S2 hSd (by rw [HL.out]; omega)
        rw [rm_len, HL.out, decide_eq_true rfl] at KI
        have KI := hid KI
        clear S2 hSd hSc hBd
        go_wp2_with fail
        refine KI.out.mono ?_
        rintro e we ⟨rfl, hBe⟩
        have hme : M + 1 < wd.heap.size := hlt_ hrd
        have g1e := hbel hBe g1d (by omega)
        have hre := hbel hBe hrd hme
        have hBe' : Below M w we := hBd'.trans (hBe.mono (by omega))
        clear KI hBe g1a g1b g1c g1d hra hrb hrc hrd hBa' hBb' hBc' hBd'
        go_wp2
        go_roundw
        case rel => exact ⟨0 + 1, z, by omega, by go_num, HL.out, hy, g1e, hre, hBe'⟩
        case measure => first | (simp [intOf]; omega) | simp [intOf]
      · have i2 : (0 : Int) < (i : Int) := by omega
        have i3 : (0 : Int) < (n : Int) := by omega
        obtain ⟨b1, b2⟩ := tmod_bd pn n (by omega)
        by_cases hneg : pn.tmod (n : Int) < 0
        · obtain ⟨q, hq⟩ := Int.eq_ofNat_of_zero_le (show 0 ≤ pn.tmod (n : Int) + (n : Int) by omega)
          have hqn : q < n := by omega
          obtain ⟨j, hjd⟩ : ∃ j : Nat, j = (q + i) % n := ⟨_, rfl⟩
          have hjn0 : j < n := by rw [hjd]; exact Nat.mod_lt _ (by omega)
          have hj9 : ((q : Int) + (i : Int)).tmod (n : Int) = (j : Int) := by
            rw [Int.tmod_eq_emod_of_nonneg (by omega), hjd]; push_cast; rfl
          clear hjd
          have hjn := hid (show j < z.length by rw [HL.out]; omega)
          have hyj := hy.get j
          have cj := cell_ints hr j (by rw [rm_len, HL.out]; omega)
          rw [rm_lo hjn.out] at cj
          have fz := frozen_of_row _ _ j _ _ hr
          have x0 : 0 ≤ z.getD j 0 := hyj.1
          have x1 : z.getD j 0 < 256 := hyj.2
          have hxb := xor1_bd _ hyj.1 hyj.2
          have HS := hid (heap_set_ints hr j (bits .xor .u8 (z.getD j 0) 1))
          rw [rm_set z j _ hjn.out] at HS
          have HY := hid (hy.set j _ hxb)
          have HL2 := hid (show (z.set j (bits .xor .u8 (z.getD j 0) 1)).length = n by rw [List.length_set]; exact HL.out)
          have HG := hid (heap_set_far g1 ⟨M + 1, j, none⟩ (.int .u8 (bits .xor .u8 (z.getD j 0) 1)) (by simp))
          have HB := hid (show Below M w (wr.setCell ⟨M + 1, j, none⟩ (.int .u8 (bits .xor .u8 (z.getD j 0) 1))) from hB.setCell (by simp) _)
          generalize z.set j (bits .xor .u8 (z.getD j 0) 1) = z2 at *
          generalize z.getD j 0 = xj at *
          have jn9 : (j : Int) < (n : Int) + 100 := (by omega)
          have jq : (q : Int) < (n : Int) := by omega
          clear hjn hr hB HL hy hyj hjn0 b1 b2
          go_wp2_with fail
          generalize wr.setCell ⟨M + 1, j, none⟩ (.int .u8 (bits .xor .u8 xj 1)) = w2 at *
          have hr2 := HS.out
          have g12 := HG.out
          have hB2 := HB.out
          have hy2 := HY.out
          clear HS HG HB HY hj9 hq cj fz g1 hxb x0 x1
          have S1 : Src w2 (some ⟨M + 1, 0, none⟩) (n + 100) z2 := src_row hr2 (n + 100) (by rw [HL2.out]; omega) (by unfold maxLen; omega)
          have KC := copyBytes_any w2 z2 _ (n + 100) S1 (by rw [HL2.out]; omega)
          rw [HL2.out] at KC
          have KC := hid KC
          skip
          refine KC.out.mono ?_
          rintro e wa ⟨va, rfl, hOa, hBa⟩
          clear KC
          obtain ⟨spa, capa, rfl, hSa, _⟩ := hOa.form
          have hma : M + 1 < w2.heap.size := hlt_ hr2
          have g1a := hbel hBa g12 (by omega)
          have hra := hbel hBa hr2 hma
          have hBa' : Below M w wa := hB2.trans (hBa.mono (by omega))
          have S1a := S1.below hBa (Nat.le_refl _)
          have KP := Parse_any wa z2 _ (n + 100) S1a hy2
          rw [HL2.out] at KP
          have KP := hid KP
          clear S1 hBa hOa
          rw [HL2.out]
          go_wp2_with fail
          refine KP.out.mono ?_
          rintro e wb ⟨vb, rfl, hMb, hBb⟩
          clear KP
          have hmb : M + 1 < wa.heap.size := hlt_ hra
          have g1b := hbel hBb g1a (by omega)
          have hrb := hbel hBb hra hmb
          have hBb' : Below M w wb := hBa'.trans (hBb.mono (by omega))
          have hSb := hSa.below hBb (Nat.le_refl _)
          have KR := rParse_any wb z2 _ capa hSb hy2 (by rw [HL2.out]; omega)
          rw [HL2.out] at KR
          have KR := hid KR
          obtain ⟨spb, capb, bb, msb, hvb, hCb, _⟩ := hMb.chs
          subst hvb
          clear hBb hMb S1a
          go_wp2_with fail
          refine KR.out.mono ?_
          rintro e wc ⟨vc, rfl, hMc, hBc⟩
          clear KR
          have hmc : M + 1 < wb.heap.size := hlt_ hrb
          have g1c := hbel hBc g1b (by omega)
          have hrc := hbel hBc hrb hmc
          have hBc' : Below M w wc := hBb'.trans (hBc.mono (by omega))
          have hSc := hSb.below hBc (Nat.le_refl _)
          obtain ⟨spc, capc, bc, msc, hvc, hCc, _⟩ := hMc.chs
          subst hvc
          have KS := sameChanges_any wc _ _ spb spc capb capc bb 0 bc 0 msb msc (hCb.below hBc) hCc
          rw [eqL_self] at KS
          have KS := hid KS
          clear hMc hCb hSb hSa hBc hCc
          generalize (parseC z2).cs.length = lc at *
          generalize (parseC z2).at' = pa at *
          generalize (parseC z2).e = pe at *
          go_wp2_with fail
          refine KS.out.mono ?_
          rintro e wd ⟨rfl, hBd⟩
          clear KS
          have hmd : M + 1 < wc.heap.size := hlt_ hrc
          have g1d := hbel hBd g1c (by omega)
          have hrd := hbel hBd hrc hmd
          have hBd' : Below M w wd := hBc'.trans (hBd.mono (by omega))
          have hSd := hSc.below hBd (Nat.le_refl _)
          have S2 : Src wd (some ⟨M + 1, 0, none⟩) (n + 100) (rm z2) := src_row (tl := []) (by rw [List.append_nil]; exact hrd) (n + 100) (by rw [rm_len, HL2.out]; exact Nat.le_refl _) (by unfold maxLen; omega)
          have KI := roomyIs_any wd (rm z2) z2 _ spa (n + 100) capa S2 hSd (by rw [HL2.out]; omega)
          rw [rm_len, HL2.out, decide_eq_true rfl] at KI
          have KI := hid KI
          clear S2 hSd hSc hBd
          go_wp2_with fail
          refine KI.out.mono ?_
          rintro e we ⟨rfl, hBe⟩
          have hme : M + 1 < wd.heap.size := hlt_ hrd
          have g1e := hbel hBe g1d (by omega)
          have hre := hbel hBe hrd hme
          have hBe' : Below M w we := hBd'.trans (hBe.mono (by omega))
          clear KI hBe g1a g1b g1c g1d hra hrb hrc hrd hBa' hBb' hBc' hBd'
          go_wp2
          go_roundw
          case rel => exact ⟨i + 1, z2, by omega, by go_num, HL2.out, hy2, g1e, hre, hBe'⟩
          case measure => first | (simp [intOf]; omega) | simp [intOf]
        · have hneg' : 0 ≤ pn.tmod (n : Int) := by omega
          obtain ⟨q, hq⟩ := Int.eq_ofNat_of_zero_le hneg'
          have hqn : q < n := by omega
          clear hneg hneg'
          obtain ⟨j, hjd⟩ : ∃ j : Nat, j = (q + i) % n := ⟨_, rfl⟩
          have hjn0 : j < n := by rw [hjd]; exact Nat.mod_lt _ (by omega)
          have hj9 : ((q : Int) + (i : Int)).tmod (n : Int) = (j : Int) := by
            rw [Int.tmod_eq_emod_of_nonneg (by omega), hjd]; push_cast; rfl
          clear hjd
          have hjn := hid (show j < z.length by rw [HL.out]; omega)
          have hyj := hy.get j
          have cj := cell_ints hr j (by rw [rm_len, HL.out]; omega)
          rw [rm_lo hjn.out] at cj
          have fz := frozen_of_row _ _ j _ _ hr
          have x0 : 0 ≤ z.getD j 0 := hyj.1
          have x1 : z.getD j 0 < 256 := hyj.2
          have hxb := xor1_bd _ hyj.1 hyj.2
          have HS := hid (heap_set_ints hr j (bits .xor .u8 (z.getD j 0) 1))
          rw [rm_set z j _ hjn.out] at HS
          have HY := hid (hy.set j _ hxb)
          have HL2 := hid (show (z.set j (bits .xor .u8 (z.getD j 0) 1)).length = n by rw [List.length_set]; exact HL.out)
          have HG := hid (heap_set_far g1 ⟨M + 1, j, none⟩ (.int .u8 (bits .xor .u8 (z.getD j 0) 1)) (by simp))
          have HB := hid (show Below M w (wr.setCell ⟨M + 1, j, none⟩ (.int .u8 (bits .xor .u8 (z.getD j 0) 1))) from hB.setCell (by simp) _)
          generalize z.set j (bits .xor .u8 (z.getD j 0) 1) = z2 at *
          generalize z.getD j 0 = xj at *
          have jn9 : (j : Int) < (n : Int) + 100 := (by omega)
          have jq : (q : Int) < (n : Int) := by omega
          clear hjn hr hB HL hy hyj hjn0 b1 b2
          go_wp2_with fail
          generalize wr.setCell ⟨M + 1, j, none⟩ (.int .u8 (bits .xor .u8 xj 1)) = w2 at *
          have hr2 := HS.out
          have g12 := HG.out
          have hB2 := HB.out
          have hy2 := HY.out
          clear HS HG HB HY hj9 hq cj fz g1 hxb x0 x1
          have S1 : Src w2 (some ⟨M + 1, 0, none⟩) (n + 100) z2 := src_row hr2 (n + 100) (by rw [HL2.out]; omega) (by unfold maxLen; omega)
          have KC := copyBytes_any w2 z2 _ (n + 100) S1 (by rw [HL2.out]; omega)
          rw [HL2.out] at KC
          have KC := hid KC
          skip
          refine KC.out.mono ?_
          rintro e wa ⟨va, rfl, hOa, hBa⟩
          clear KC
          obtain ⟨spa, capa, rfl, hSa, _⟩ := hOa.form
          have hma : M + 1 < w2.heap.size := hlt_ hr2
          have g1a := hbel hBa g12 (by omega)
          have hra := hbel hBa hr2 hma
          have hBa' : Below M w wa := hB2.trans (hBa.mono (by omega))
          have S1a := S1.below hBa (Nat.le_refl _)
          have KP := Parse_any wa z2 _ (n + 100) S1a hy2
          rw [HL2.out] at KP
          have KP := hid KP
          clear S1 hBa hOa
          rw [HL2.out]
          go_wp2_with fail
          refine KP.out.mono ?_
          rintro e wb ⟨vb, rfl, hMb, hBb⟩
          clear KP
          have hmb : M + 1 < wa.heap.size := hlt_ hra
          have g1b := hbel hBb g1a (by omega)
          have hrb := hbel hBb hra hmb
          have hBb' : Below M w wb := hBa'.trans (hBb.mono (by omega))
          have hSb := hSa.below hBb (Nat.le_refl _)
          have KR := rParse_any wb z2 _ capa hSb hy2 (by rw [HL2.out]; omega)
          rw [HL2.out] at KR
          have KR := hid KR
          obtain ⟨spb, capb, bb, msb, hvb, hCb, _⟩ := hMb.chs
          subst hvb
          clear hBb hMb S1a
          go_wp2_with fail
          refine KR.out.mono ?_
          rintro e wc ⟨vc, rfl, hMc, hBc⟩
          clear KR
          have hmc : M + 1 < wb.heap.size := hlt_ hrb
          have g1c := hbel hBc g1b (by omega)
          have hrc := hbel hBc hrb hmc
          have hBc' : Below M w wc := hBb'.trans (hBc.mono (by omega))
          have hSc := hSb.below hBc (Nat.le_refl _)
          obtain ⟨spc, capc, bc, msc, hvc, hCc, _⟩ := hMc.chs
          subst hvc
          have KS := sameChanges_any wc _ _ spb spc capb capc bb 0 bc 0 msb msc (hCb.below hBc) hCc
          rw [eqL_self] at KS
          have KS := hid KS
          clear hMc hCb hSb hSa hBc hCc
          generalize (parseC z2).cs.length = lc at *
          generalize (parseC z2).at' = pa at *
          generalize (parseC z2).e = pe at *
          go_wp2_with fail
          refine KS.out.mono ?_
          rintro e wd ⟨rfl, hBd⟩
          clear KS
          have hmd : M + 1 < wc.heap.size := hlt_ hrc
          have g1d := hbel hBd g1c (by omega)
          have hrd := hbel hBd hrc hmd
          have hBd' : Below M w wd := hBc'.trans (hBd.mono (by omega))
          have hSd := hSc.below hBd (Nat.le_refl _)
          have S2 : Src wd (some ⟨M + 1, 0, none⟩) (n + 100) (rm z2) := src_row (tl := []) (by rw [List.append_nil]; exact hrd) (n + 100) (by rw [rm_len, HL2.out]; exact Nat.le_refl _) (by unfold maxLen; omega)
          have KI := roomyIs_any wd (rm z2) z2 _ spa (n + 100) capa S2 hSd (by rw [HL2.out]; omega)
          rw [rm_len, HL2.out, decide_eq_true rfl] at KI
          have KI := hid KI
          clear S2 hSd hSc hBd
          go_wp2_with fail
          refine KI.out.mono ?_
          rintro e we ⟨rfl, hBe⟩
          have hme : M + 1 < wd.heap.size := hlt_ hrd
          have g1e := hbel hBe g1d (by omega)
          have hre := hbel hBe hrd hme
          have hBe' : Below M w we := hBd'.trans (hBe.mono (by omega))
          clear KI hBe g1a g1b g1c g1d hra hrb hrc hrd hBa' hBb' hBc' hBd'
          go_wp2
          go_roundw
          case rel => exact ⟨i + 1, z2, by omega, by go_num, HL2.out, hy2, g1e, hre, hBe'⟩
          case measure => first | (simp [intOf]; omega) | simp [intOf]
    · obtain rfl : i = 3 := by omega
      clear hlt
      go_wp2
      go_ret
      exact ⟨rfl, by rw [HM.out]; exact hB⟩
end Go.Proofs.Ytcifbnldohmbnab
