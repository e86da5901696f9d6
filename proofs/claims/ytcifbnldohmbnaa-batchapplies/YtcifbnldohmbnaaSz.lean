import Derived.Test.YtcifbnldohmbnaaSy
import Derived.Test.YtcifbnldohmbnaaCx
namespace Go.Proofs.Ytcifbnldohmbnaa
set_option linter.unusedVariables false
set_option linter.unusedSimpArgs false
open Go.RowKit
attribute [local go_sem ↓] Go.wp_at_zero Go.wp_at_succ

theorem merge_mem : ∀ (es ls : List Chg) (c : Chg), c ∈ mergeL es ls → c ∈ es ∨ c ∈ ls
  | [], ls, c => by rw [merge_nil_l]; exact Or.inr
  | e :: es, [], c => by rw [merge_nil_r]; exact Or.inl
  | e :: es, l :: ls, c => by
    obtain ⟨s1, s2, s3⟩ := merge_step e es l ls
    intro hc
    rcases cmpK_cases e.key l.key with h | h | h
    · rw [s1 h] at hc
      rcases List.mem_cons.1 hc with rfl | hc
      · exact Or.inl (by simp)
      · exact (merge_mem es (l :: ls) c hc).imp (List.mem_cons_of_mem _) id
    · rw [s2 h] at hc
      rcases List.mem_cons.1 hc with rfl | hc
      · exact Or.inr (by simp)
      · exact (merge_mem es ls c hc).imp (List.mem_cons_of_mem _) (List.mem_cons_of_mem _)
    · rw [s3 h] at hc
      rcases List.mem_cons.1 hc with rfl | hc
      · exact Or.inr (by simp)
      · exact (merge_mem (e :: es) ls c hc).imp id (List.mem_cons_of_mem _)
termination_by es ls => es.length + ls.length
theorem fol_ok {a b : List Chg} (ha : ∀ c ∈ a, OkC c) (hb : ∀ c ∈ b, OkC c) : ∀ c ∈ FolL a b, OkC c := fun c hc => by
  unfold FolL at hc
  split at hc
  · exact (merge_mem _ _ c hc).elim (normC_ok ha c) (normC_ok hb c)
  · simp at hc
theorem nor_ok {a : List Chg} (ha : ∀ c ∈ a, OkC c) : ∀ c ∈ NorL a, OkC c := fun c hc => by
  unfold NorL at hc
  split at hc
  · exact normC_ok ha c hc
  · simp at hc
theorem chs_nil (w : World) : Chs w none 0 [] 0 0 [] := ⟨Nat.le_refl _, by unfold maxLen; omega, fun _ => rfl, fun h => by simp at h, fun i hi => by simp at hi, rfl, fun i hi => by simp at hi⟩
theorem fold_to {w : World} {xs ys R : List Chg} {sp1 sp2 : Option Addr} {cap1 cap2 b1 o1 b2 o2 : Nat} {ms1 ms2 : List MC} (hA : Chs w sp1 cap1 xs b1 o1 ms1) (hD : Chs w sp2 cap2 ys b2 o2 ms2) (oka : ∀ c ∈ xs, OkC c) (okb : ∀ c ∈ ys, OkC c) (he : FolE xs ys = 0) (hR : FolL xs ys = R) :
    Calls Try.prog 23 #[.slice sp1 xs.length cap1, .slice sp2 ys.length cap2] w fun e w' => ∃ v, e = .returned (.tuple #[v, .int .i64 0]) ∧ Mine w' w.heap.size v R ∧ Below w.heap.size w w' := by
  have := Fold_any w xs ys sp1 sp2 cap1 cap2 b1 o1 b2 o2 ms1 ms2 hA hD oka okb
  rwa [he, hR] at this
theorem normal_to {w : World} {xs R : List Chg} {sp1 : Option Addr} {cap1 b1 o1 : Nat} {ms1 : List MC} (hA : Chs w sp1 cap1 xs b1 o1 ms1) (oka : ∀ c ∈ xs, OkC c) (he : NorE xs = 0) (hR : NorL xs = R) :
    Calls Try.prog 24 #[.slice sp1 xs.length cap1] w fun e w' => ∃ v, e = .returned (.tuple #[v, .int .i64 0]) ∧ Mine w' w.heap.size v R ∧ Below w.heap.size w w' := by
  refine (Normal_any w xs sp1 cap1 b1 o1 ms1 hA oka).mono ?_
  rintro e w' ⟨v, h1, h2, _, h3⟩
  rw [he] at h1
  rw [hR] at h2
  exact ⟨v, h1, h2, h3⟩
theorem same_to {w : World} {cs : List Chg} {sp tp : Option Addr} {cap dap b o b2 o2 : Nat} {ms ns : List MC} (hC : Chs w sp cap cs b o ms) (hD : Chs w tp dap cs b2 o2 ns) :
    Calls Try.prog 19 #[.slice sp cs.length cap, .slice tp cs.length dap] w fun e w' => e = .returned (.bool true) ∧ Below w.heap.size w w' := by
  have := sameChanges_any w cs cs sp tp cap dap b o b2 o2 ms ns hC hD
  rwa [eqL_self] at this
theorem right_to {w : World} {cs : List Chg} {sp : Option Addr} {cap b o : Nat} {ms : List MC} (hC : Chs w sp cap cs b o ms) {n : Nat} {t : Bool} (h : decide (wrongC cs n = 0) = t) :
    Calls Try.prog 13 #[.slice sp cs.length cap, .int .i64 n] w fun e w' => e = .returned (.bool t) ∧ Below w.heap.size w w' := by
  have := right_any w cs sp cap b o ms hC n
  rwa [h] at this
theorem keys_to {w : World} {cs ds : List Chg} {sp1 sp2 : Option Addr} {cap1 cap2 b1 o1 b2 o2 : Nat} {ms1 ms2 : List MC} (hC : Chs w sp1 cap1 cs b1 o1 ms1) (hD : Chs w sp2 cap2 ds b2 o2 ms2) (hl1 : cs.length ≤ 1000000000) (hl2 : ds.length ≤ 1000000000) {n : Nat} (hn : keysN cs ds = n) :
    Calls Try.prog 22 #[.slice sp1 cs.length cap1, .slice sp2 ds.length cap2] w fun e w' => e = .returned (.int .i64 n) ∧ Below w.heap.size w w' := by
  have := keysOf_any w cs ds sp1 sp2 cap1 cap2 b1 o1 b2 o2 ms1 ms2 hC hD hl1 hl2
  rwa [hn] at this
/-- All that the five hundred steps want to know of the lists. -/
structure Chn (a b c ab bc L n : List Chg) : Prop where
  oka : ∀ c ∈ a, OkC c
  okb : ∀ c ∈ b, OkC c
  okc : ∀ d ∈ c, OkC d
  okab : ∀ c ∈ ab, OkC c
  okbc : ∀ c ∈ bc, OkC c
  okn : ∀ c ∈ n, OkC c
  e1 : FolE a b = 0
  f1 : FolL a b = ab
  e2 : FolE b c = 0
  f2 : FolL b c = bc
  e3 : FolE ab c = 0
  f3 : FolL ab c = L
  e4 : FolE a bc = 0
  f4 : FolL a bc = L
  kn : keysN ab c = L.length
  e5 : NorE a = 0
  f5 : NorL a = n
  e6 : FolE [] a = 0
  f6 : FolL [] a = n
  e7 : FolE a [] = 0
  f7 : FolL a [] = n
  e8 : FolE a a = 0
  f8 : FolL a a = n
  e9 : NorE n = 0
  f9 : NorL n = n
  ln : n.length = a.length
  la : a.length ≤ 64
  lc : c.length ≤ 64
  lab : ab.length ≤ 64
theorem chn {a b c : List Chg} (oka : ∀ c ∈ a, OkC c) (okb : ∀ c ∈ b, OkC c) (okc : ∀ d ∈ c, OkC d) (ha : wrongC a 64 = 0) (hb : wrongC b 64 = 0) (hc : wrongC c 64 = 0) (hn : keysN a b + c.length ≤ 64) : ∃ ab bc L n, Chn a b c ab bc L n := by
  have h := chains ha hb hc hn
  exact ⟨_, _, _, _, oka, okb, okc, fol_ok oka okb, fol_ok okb okc, nor_ok oka, h.e1, rfl, h.e2, rfl, h.e3, rfl, h.e4, h.same.symm, h.len.symm, h.e5, rfl, h.e6, h.s6.symm, h.e7, h.s7.symm, h.e8, h.s8.symm, h.e9, h.s9.symm, h.len5, (wrong_zero.1 ha).1, (wrong_zero.1 hc).1, h.l1⟩
set_option maxRecDepth 100000 in
set_option maxHeartbeats 4000000 in
theorem chains_walk (w : World) (a : List Chg) (sa : Option Addr) (ca ba oa : Nat) (ma : List MC) (Ca : Chs w sa ca a ba oa ma) (oka : ∀ c ∈ a, OkC c)
    (b : List Chg) (sb : Option Addr) (cb bb ob : Nat) (mb : List MC) (Cb : Chs w sb cb b bb ob mb) (okb : ∀ c ∈ b, OkC c)
    (c : List Chg) (sc : Option Addr) (cc gc oc : Nat) (mc : List MC) (Cc : Chs w sc cc c gc oc mc) (okc : ∀ d ∈ c, OkC d) :
    Calls Try.prog 6 #[.slice sa a.length ca, .slice sb b.length cb, .slice sc c.length cc] w fun e w' => e = .returned (.bool true) ∧ Below w.heap.size w w' := by
  have hB : Below w.heap.size w w := Below.refl _ _
  go_enter Try.func6, Try.ntmps6
  by_cases ha : wrongC a 64 = 0
  · have Ha := hid (show decide (wrongC a 64 = 0) = true from decide_eq_true ha)
    have Wa := hid ha
    clear ha
    have K1 := hid (right_to (n := 64) Ca Ha.out)
    go_wp2_with fail
    refine K1.out.mono ?_
    rintro e w1 ⟨rfl, hb⟩
    clear K1
    have hBn : Below w.heap.size w w1 := hB.trans (hb.mono hB.size)
    replace Ca := Ca.below hb
    replace Cb := Cb.below hb
    replace Cc := Cc.below hb
    clear hB hb
    have hB := hBn
    clear hBn
    by_cases hb : wrongC b 64 = 0
    · have Hb := hid (show decide (wrongC b 64 = 0) = true from decide_eq_true hb)
      have Wb := hid hb
      clear hb
      have K2 := hid (right_to (n := 64) Cb Hb.out)
      go_wp2_with fail
      refine K2.out.mono ?_
      rintro e w2 ⟨rfl, hb⟩
      clear K2
      have hBn : Below w.heap.size w w2 := hB.trans (hb.mono hB.size)
      replace Ca := Ca.below hb
      replace Cb := Cb.below hb
      replace Cc := Cc.below hb
      clear hB hb
      have hB := hBn
      clear hBn
      by_cases hc : wrongC c 64 = 0
      · have Hc := hid (show decide (wrongC c 64 = 0) = true from decide_eq_true hc)
        have Wc := hid hc
        clear hc
        have K3 := hid (right_to (n := 64) Cc Hc.out)
        go_wp2_with fail
        refine K3.out.mono ?_
        rintro e w3 ⟨rfl, hb⟩
        clear K3
        have hBn : Below w.heap.size w w3 := hB.trans (hb.mono hB.size)
        replace Ca := Ca.below hb
        replace Cb := Cb.below hb
        replace Cc := Cc.below hb
        clear hB hb
        have hB := hBn
        clear hBn
        obtain ⟨k, hk⟩ : ∃ k, keysN a b = k := ⟨_, rfl⟩
        have HK := hid hk
        clear hk
        have la := (wrong_zero.1 Wa.out).1
        have lb := (wrong_zero.1 Wb.out).1
        have lc := (wrong_zero.1 Wc.out).1
        have LK := hid (show k ≤ 128 by have := keysN_le a b; rw [HK.out] at this; omega)
        have ik : (k : Int) ≤ 128 := by have := LK.out; omega
        have ic : (c.length : Int) ≤ 64 := by omega
        have K4 := hid (keys_to Ca Cb (by omega) (by omega) HK.out)
        go_wp2_with fail
        refine K4.out.mono ?_
        rintro e w4 ⟨rfl, hb⟩
        clear K4
        have hBn : Below w.heap.size w w4 := hB.trans (hb.mono hB.size)
        replace Ca := Ca.below hb
        replace Cb := Cb.below hb
        replace Cc := Cc.below hb
        clear hB hb
        have hB := hBn
        clear hBn
        clear la lb lc LK
        by_cases hkc : k + c.length ≤ 64
        · have ikc : ¬ (64 : Int) < (k : Int) + (c.length : Int) := by omega
          obtain ⟨ab, bc, LL, n, H⟩ := chn oka okb okc Wa.out Wb.out Wc.out (by rw [HK.out]; exact hkc)
          have H := hid H
          clear oka okb okc Wa Wb Wc HK Ha Hb Hc hkc
          have K5 := hid (fold_to Ca Cb H.out.oka H.out.okb H.out.e1 H.out.f1)
          go_wp2_with fail
          refine K5.out.mono ?_
          rintro e w5 ⟨v, rfl, hM, hb⟩
          clear K5
          have hBn : Below w.heap.size w w5 := hB.trans (hb.mono hB.size)
          replace Ca := Ca.below hb
          replace Cb := Cb.below hb
          replace Cc := Cc.below hb
          clear hB hb
          have hB := hBn
          clear hBn
          obtain ⟨sab, cab, bab, mab, rfl, Cab, _⟩ := hM.chs
          clear hM
          have K6 := hid (fold_to Cb Cc H.out.okb H.out.okc H.out.e2 H.out.f2)
          go_wp2_with fail
          refine K6.out.mono ?_
          rintro e w6 ⟨v, rfl, hM, hb⟩
          clear K6
          have hBn : Below w.heap.size w w6 := hB.trans (hb.mono hB.size)
          replace Ca := Ca.below hb
          replace Cb := Cb.below hb
          replace Cc := Cc.below hb
          replace Cab := Cab.below hb
          clear hB hb
          have hB := hBn
          clear hBn
          obtain ⟨sbc, cbc, bbc, mbc, rfl, Cbc, _⟩ := hM.chs
          clear hM
          have K7 := hid (fold_to Cab Cc H.out.okab H.out.okc H.out.e3 H.out.f3)
          go_wp2_with fail
          refine K7.out.mono ?_
          rintro e w7 ⟨v, rfl, hM, hb⟩
          clear K7
          have hBn : Below w.heap.size w w7 := hB.trans (hb.mono hB.size)
          replace Ca := Ca.below hb
          replace Cb := Cb.below hb
          replace Cc := Cc.below hb
          replace Cab := Cab.below hb
          replace Cbc := Cbc.below hb
          clear hB hb
          have hB := hBn
          clear hBn
          obtain ⟨sL, cL, bL, mL, rfl, CL, _⟩ := hM.chs
          clear hM
          have K8 := hid (fold_to Ca Cbc H.out.oka H.out.okbc H.out.e4 H.out.f4)
          go_wp2_with fail
          refine K8.out.mono ?_
          rintro e w8 ⟨v, rfl, hM, hb⟩
          clear K8
          have hBn : Below w.heap.size w w8 := hB.trans (hb.mono hB.size)
          replace Ca := Ca.below hb
          replace Cb := Cb.below hb
          replace Cc := Cc.below hb
          replace Cab := Cab.below hb
          replace Cbc := Cbc.below hb
          replace CL := CL.below hb
          clear hB hb
          have hB := hBn
          clear hBn
          obtain ⟨sR, cR, bR, mR, rfl, CR, _⟩ := hM.chs
          clear hM
          have K9 := hid (same_to CL CR)
          go_wp2_with fail
          refine K9.out.mono ?_
          rintro e w9 ⟨rfl, hb⟩
          clear K9
          have hBn : Below w.heap.size w w9 := hB.trans (hb.mono hB.size)
          replace Ca := Ca.below hb
          replace Cb := Cb.below hb
          replace Cc := Cc.below hb
          replace Cab := Cab.below hb
          replace Cbc := Cbc.below hb
          replace CL := CL.below hb
          replace CR := CR.below hb
          clear hB hb
          have hB := hBn
          clear hBn
          have K10 := hid (keys_to Cab Cc (by have := H.out.lab; omega) (by have := H.out.lc; omega) H.out.kn)
          go_wp2_with fail
          refine K10.out.mono ?_
          rintro e w10 ⟨rfl, hb⟩
          clear K10
          have hBn : Below w.heap.size w w10 := hB.trans (hb.mono hB.size)
          replace Ca := Ca.below hb
          replace Cb := Cb.below hb
          replace Cc := Cc.below hb
          replace Cab := Cab.below hb
          replace Cbc := Cbc.below hb
          replace CL := CL.below hb
          replace CR := CR.below hb
          clear hB hb
          have hB := hBn
          clear hBn
          clear Cb Cc Cab Cbc CL CR
          have K11 := hid (normal_to Ca H.out.oka H.out.e5 H.out.f5)
          go_wp2_with fail
          refine K11.out.mono ?_
          rintro e w11 ⟨v, rfl, hM, hb⟩
          clear K11
          have hBn : Below w.heap.size w w11 := hB.trans (hb.mono hB.size)
          replace Ca := Ca.below hb
          clear hB hb
          have hB := hBn
          clear hBn
          obtain ⟨sn, cn, bn, mn, rfl, Cn, _⟩ := hM.chs
          clear hM
          have K12 := hid (fold_to (chs_nil _) Ca (fun c hc => by simp at hc) H.out.oka H.out.e6 H.out.f6)
          go_wp2_with fail
          refine K12.out.mono ?_
          rintro e w12 ⟨v, rfl, hM, hb⟩
          clear K12
          have hBn : Below w.heap.size w w12 := hB.trans (hb.mono hB.size)
          replace Ca := Ca.below hb
          replace Cn := Cn.below hb
          clear hB hb
          have hB := hBn
          clear hBn
          obtain ⟨sxa, cxa, bxa, mxa, rfl, Cxa, _⟩ := hM.chs
          clear hM
          have K13 := hid (fold_to Ca (chs_nil _) H.out.oka (fun c hc => by simp at hc) H.out.e7 H.out.f7)
          go_wp2_with fail
          refine K13.out.mono ?_
          rintro e w13 ⟨v, rfl, hM, hb⟩
          clear K13
          have hBn : Below w.heap.size w w13 := hB.trans (hb.mono hB.size)
          replace Ca := Ca.below hb
          replace Cn := Cn.below hb
          replace Cxa := Cxa.below hb
          clear hB hb
          have hB := hBn
          clear hBn
          obtain ⟨sxb, cxb, bxb, mxb, rfl, Cxb, _⟩ := hM.chs
          clear hM
          have K14 := hid (fold_to Ca Ca H.out.oka H.out.oka H.out.e8 H.out.f8)
          go_wp2_with fail
          refine K14.out.mono ?_
          rintro e w14 ⟨v, rfl, hM, hb⟩
          clear K14
          have hBn : Below w.heap.size w w14 := hB.trans (hb.mono hB.size)
          replace Ca := Ca.below hb
          replace Cn := Cn.below hb
          replace Cxa := Cxa.below hb
          replace Cxb := Cxb.below hb
          clear hB hb
          have hB := hBn
          clear hBn
          obtain ⟨sxc, cxc, bxc, mxc, rfl, Cxc, _⟩ := hM.chs
          clear hM
          have hln := H.out.ln
          have K15 := normal_to Cn H.out.okn H.out.e9 H.out.f9
          rw [H.out.ln] at K15
          replace K15 := hid K15
          go_wp2_with fail
          refine K15.out.mono ?_
          rintro e w15 ⟨v, rfl, hM, hb⟩
          clear K15
          have hBn : Below w.heap.size w w15 := hB.trans (hb.mono hB.size)
          replace Ca := Ca.below hb
          replace Cn := Cn.below hb
          replace Cxa := Cxa.below hb
          replace Cxb := Cxb.below hb
          replace Cxc := Cxc.below hb
          clear hB hb
          have hB := hBn
          clear hBn
          obtain ⟨sxd, cxd, bxd, mxd, rfl, Cxd, _⟩ := hM.chs
          clear hM
          have K16 := same_to Cn Cxa
          rw [H.out.ln] at K16
          replace K16 := hid K16
          go_wp2_with fail
          refine K16.out.mono ?_
          rintro e w16 ⟨rfl, hb⟩
          clear K16
          have hBn : Below w.heap.size w w16 := hB.trans (hb.mono hB.size)
          replace Ca := Ca.below hb
          replace Cn := Cn.below hb
          replace Cxa := Cxa.below hb
          replace Cxb := Cxb.below hb
          replace Cxc := Cxc.below hb
          replace Cxd := Cxd.below hb
          clear hB hb
          have hB := hBn
          clear hBn
          have K17 := same_to Cn Cxb
          rw [H.out.ln] at K17
          replace K17 := hid K17
          go_wp2_with fail
          refine K17.out.mono ?_
          rintro e w17 ⟨rfl, hb⟩
          clear K17
          have hBn : Below w.heap.size w w17 := hB.trans (hb.mono hB.size)
          replace Ca := Ca.below hb
          replace Cn := Cn.below hb
          replace Cxa := Cxa.below hb
          replace Cxb := Cxb.below hb
          replace Cxc := Cxc.below hb
          replace Cxd := Cxd.below hb
          clear hB hb
          have hB := hBn
          clear hBn
          have K18 := same_to Cn Cxc
          rw [H.out.ln] at K18
          replace K18 := hid K18
          go_wp2_with fail
          refine K18.out.mono ?_
          rintro e w18 ⟨rfl, hb⟩
          clear K18
          have hBn : Below w.heap.size w w18 := hB.trans (hb.mono hB.size)
          replace Ca := Ca.below hb
          replace Cn := Cn.below hb
          replace Cxa := Cxa.below hb
          replace Cxb := Cxb.below hb
          replace Cxc := Cxc.below hb
          replace Cxd := Cxd.below hb
          clear hB hb
          have hB := hBn
          clear hBn
          have K19 := same_to Cn Cxd
          rw [H.out.ln] at K19
          replace K19 := hid K19
          go_wp2_with fail
          refine K19.out.mono ?_
          rintro e w19 ⟨rfl, hb⟩
          clear K19
          have hBn : Below w.heap.size w w19 := hB.trans (hb.mono hB.size)
          replace Ca := Ca.below hb
          replace Cn := Cn.below hb
          replace Cxa := Cxa.below hb
          replace Cxb := Cxb.below hb
          replace Cxc := Cxc.below hb
          replace Cxd := Cxd.below hb
          clear hB hb
          have hB := hBn
          clear hBn
          go_wp2
          go_ret
          exact ⟨rfl, hB⟩
        · have ikc : (64 : Int) < (k : Int) + (c.length : Int) := by omega
          clear hkc
          go_wp2
          go_ret
          exact ⟨rfl, hB⟩
      · have Hc := hid (show decide (wrongC c 64 = 0) = false from decide_eq_false hc)
        clear hc
        have K3 := hid (right_to (n := 64) Cc Hc.out)
        go_wp2_with fail
        refine K3.out.mono ?_
        rintro e w3 ⟨rfl, hb⟩
        clear K3
        have hBn : Below w.heap.size w w3 := hB.trans (hb.mono hB.size)
        replace Ca := Ca.below hb
        replace Cb := Cb.below hb
        replace Cc := Cc.below hb
        clear hB hb
        have hB := hBn
        clear hBn
        go_wp2
        go_ret
        exact ⟨rfl, hB⟩
    · have Hb := hid (show decide (wrongC b 64 = 0) = false from decide_eq_false hb)
      clear hb
      have K2 := hid (right_to (n := 64) Cb Hb.out)
      go_wp2_with fail
      refine K2.out.mono ?_
      rintro e w2 ⟨rfl, hb⟩
      clear K2
      have hBn : Below w.heap.size w w2 := hB.trans (hb.mono hB.size)
      replace Ca := Ca.below hb
      replace Cb := Cb.below hb
      replace Cc := Cc.below hb
      clear hB hb
      have hB := hBn
      clear hBn
      go_wp2
      go_ret
      exact ⟨rfl, hB⟩
  · have Ha := hid (show decide (wrongC a 64 = 0) = false from decide_eq_false ha)
    clear ha
    have K1 := hid (right_to (n := 64) Ca Ha.out)
    go_wp2_with fail
    refine K1.out.mono ?_
    rintro e w1 ⟨rfl, hb⟩
    clear K1
    have hBn : Below w.heap.size w w1 := hB.trans (hb.mono hB.size)
    replace Ca := Ca.below hb
    replace Cb := Cb.below hb
    replace Cc := Cc.below hb
    clear hB hb
    have hB := hBn
    clear hBn
    go_wp2
    go_ret
    exact ⟨rfl, hB⟩
end Go.Proofs.Ytcifbnldohmbnaa
