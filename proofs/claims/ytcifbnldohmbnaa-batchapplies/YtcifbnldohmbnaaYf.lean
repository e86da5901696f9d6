import Derived.Test.YtcifbnldohmbnaaYe
import Derived.Test.YtcifbnldohmbnaaSz
namespace Go.Proofs.Ytcifbnldohmbnaa
set_option linter.unusedVariables false
set_option linter.unusedSimpArgs false
open Go.RowKit
attribute [local go_sem ↓] Go.wp_at_zero Go.wp_at_succ

structure EnsS (w : World) (s : Option Addr) (c : Nat) (L : List Ent) (b : Nat) (ms : List MG) : Prop where
  e : Ens w s c L b ms
  y : SaysGL w ms L
theorem EnsS.below {w w1 : World} {s : Option Addr} {c : Nat} {L : List Ent} {b : Nat} {ms : List MG} (h : EnsS w s c L b ms) (hb : Below w.heap.size w w1) : EnsS w1 s c L b ms := ⟨h.e.below hb, h.y.below hb⟩
theorem ens_nil (w : World) : EnsS w none 0 [] 0 [] := ⟨⟨Nat.le_refl _, by unfold maxLen; omega, fun h => by simp at h, fun i hi => by simp at hi⟩, SaysGL.nil w⟩
theorem after_to {w : World} {L R : List Ent} {s : Option Addr} {c b0 : Nat} {ms0 : List MG} (hE : EnsS w s c L b0 ms0) (hn : (keysE L).Nodup) {cs : List Chg} {sp : Option Addr} {cap b o : Nat} {ms : List MC} (hC : Chs w sp cap cs b o ms) (hlen : L.length + cs.length ≤ 1000000) (hR : aft L cs = R) :
    Calls Try.prog 25 #[.slice s L.length c, .slice sp cs.length cap] w fun e w' => ∃ s' c' b' m', e = .returned (.slice s' R.length c') ∧ EnsS w' s' c' R b' m' ∧ Below w.heap.size w w' := by
  subst hR
  refine (after_any w L s c b0 ms0 hE.e hE.y hn cs sp cap b o ms hC hlen).mono ?_
  rintro e w' ⟨v, m', rfl, hO, hs, hb⟩
  obtain ⟨s', c', b', rfl, he, _⟩ := hO.ens hs.mem hs.1
  exact ⟨s', c', b', m', rfl, ⟨he, hs.below hb⟩, hb⟩
theorem map_to {w : World} {A B : List Ent} {s1 s2 : Option Addr} {c1 c2 b1 b2 : Nat} {m1 m2 : List MG} (h1 : EnsS w s1 c1 A b1 m1) (h2 : EnsS w s2 c2 B b2 m2) (hsm : SameM A B) (hlen : A.length ≤ 1000000) :
    Calls Try.prog 26 #[.slice s1 A.length c1, .slice s2 B.length c2] w fun e w' => e = .returned (.bool true) ∧ Below w.heap.size w w' :=
  sameMap_any w A B s1 s2 c1 c2 b1 b2 m1 m2 h1.e h2.e h1.y h2.y hsm hlen
theorem rise_to {w : World} {cs : List Chg} {sp : Option Addr} {cap b o : Nat} {ms : List MC} (hC : Chs w sp cap cs b o ms) (h : cs.Pairwise LtC) (hok : ∀ c ∈ cs, OkC c) (hlen : cs.length ≤ 1000000) :
    Calls Try.prog 27 #[.slice sp cs.length cap] w fun e w' => e = .returned (.bool true) ∧ Below w.heap.size w w' := rising_any w cs sp cap b o ms hC h hok hlen
theorem copy_to {w : World} {cs : List Chg} {sp : Option Addr} {cap b o : Nat} {ms : List MC} (hC : Chs w sp cap cs b o ms) (ok : ∀ c ∈ cs, OkC c) (hn : cs.length ≤ 1000000) :
    Calls Try.prog 15 #[.slice sp cs.length cap] w fun e w' => ∃ v, e = .returned v ∧ Mine w' w.heap.size v cs ∧ Below w.heap.size w w' :=
  copyChanges_any w cs sp cap b o ms hC (fun c hc => (ok c hc).2.2.2) (by omega)
theorem fold_is {w : World} {xs ys R : List Chg} {E : Int} {sp1 sp2 : Option Addr} {cap1 cap2 b1 o1 b2 o2 : Nat} {ms1 ms2 : List MC} (hA : Chs w sp1 cap1 xs b1 o1 ms1) (hD : Chs w sp2 cap2 ys b2 o2 ms2) (oka : ∀ c ∈ xs, OkC c) (okb : ∀ c ∈ ys, OkC c) (he : FolE xs ys = E) (hR : FolL xs ys = R) :
    Calls Try.prog 23 #[.slice sp1 xs.length cap1, .slice sp2 ys.length cap2] w fun e w' => ∃ v, e = .returned (.tuple #[v, .int .i64 E]) ∧ Mine w' w.heap.size v R ∧ Below w.heap.size w w' := by
  have := Fold_any w xs ys sp1 sp2 cap1 cap2 b1 o1 b2 o2 ms1 ms2 hA hD oka okb
  rwa [he, hR] at this
/-- What is known of the lists. -/
structure App (P Q n : List Chg) (M A1 A2 : List Ent) : Prop where
  okp : ∀ c ∈ P, OkC c
  okq : ∀ c ∈ Q, OkC c
  okn : ∀ c ∈ n, OkC c
  lp : P.length ≤ 200
  lq : Q.length ≤ 200
  lM : M.length ≤ 200
  nM : (keysE M).Nodup
  e1 : NorE P = 0
  f1 : NorL P = n
  ltn : n.Pairwise LtC
  ln : n.length = P.length
  a1 : aft M n = A1
  a2 : aft M P = A2
  n2 : (keysE A2).Nodup
  sm : SameM A1 A2
  l1 : A1.length ≤ 400
  l2 : A2.length ≤ 400
theorem app {P Q : List Chg} {M : List Ent} (okp : ∀ c ∈ P, OkC c) (okq : ∀ c ∈ Q, OkC c) (lp : P.length ≤ 200) (lq : Q.length ≤ 200) (lM : M.length ≤ 200) (nM : (keysE M).Nodup) (hp : wrongC P 4096 = 0) : ∃ n A1 A2, App P Q n M A1 A2 := by
  have hnd := (wrong_zero.1 hp).2.2
  refine ⟨normC P, aft M (normC P), aft M P, okp, okq, normC_ok okp, lp, lq, lM, nM, hp, by unfold NorL; rw [if_pos hp], normC_lt hnd, normC_len P, rfl, rfl, aft_keys _ _ nM, same_normal nM hnd, ?_, ?_⟩
  · have := aft_len (normC P) M; rw [normC_len] at this; omega
  · have := aft_len P M; omega
structure App2 (P Q F : List Chg) (M A2 A3 A4 : List Ent) : Prop where
  e : FolE P Q = 0
  f : FolL P Q = F
  lt : F.Pairwise LtC
  ok : ∀ c ∈ F, OkC c
  len : keysN P Q = F.length
  lf : F.length ≤ 64
  a3 : aft M F = A3
  a4 : aft A2 Q = A4
  sm : SameM A3 A4
  l3 : A3.length ≤ 1000
theorem app2 {P Q n : List Chg} {M A1 A2 : List Ent} (h : App P Q n M A1 A2) (hp : wrongC P 4096 = 0) (hq : wrongC Q 4096 = 0) (hk : keysN P Q ≤ 64) : ∃ f A3 A4, App2 P Q f M A2 A3 A4 := by
  have ndp := (wrong_zero.1 hp).2.2
  have ndq := (wrong_zero.1 hq).2.2
  have hml := merge_norm_len hp hq
  obtain ⟨e, f⟩ := fol_of hp hq (by rw [hml]; exact hk)
  refine ⟨mergeL (normC P) (normC Q), _, _, e, f, merge_lt _ _ (normC_lt ndp) (normC_lt ndq), fun c hc => (merge_mem _ _ c hc).elim (normC_ok h.okp c) (normC_ok h.okq c), hml.symm, by rw [hml]; exact hk, rfl, rfl, ?_, ?_⟩
  · rw [← h.a2]; exact same_fold h.nM ndp ndq
  · have := aft_len (mergeL (normC P) (normC Q)) M
    have := h.lM
    omega
theorem app3 {P Q : List Chg} (hp : wrongC P 4096 = 0) (hq : wrongC Q 4096 = 0) (hk : 64 < keysN P Q) : FolE P Q = 31 ∧ FolL P Q = [] := by
  have hml := merge_norm_len hp hq
  have e : FolE P Q = 31 := by
    unfold FolE NorE
    rw [hp, hq, if_neg (by simp), if_neg (by simp), if_pos (by omega)]
  exact ⟨e, by unfold FolL; rw [if_neg (by rw [e]; decide)]⟩
set_option maxRecDepth 100000 in
set_option maxHeartbeats 4000000 in
theorem applies_walk (w : World) (U : List Chg) (su : Option Addr) (cu bu ou : Nat) (mu : List MC) (Cu : Chs w su cu U bu ou mu) (oku : ∀ c ∈ U, OkC c) (lU0 : U.length ≤ 2199023255488)
    (P : List Chg) (sp : Option Addr) (cp bp op : Nat) (mp : List MC) (Cp : Chs w sp cp P bp op mp) (okp : ∀ c ∈ P, OkC c) (lP0 : P.length ≤ 2199023255488)
    (Q : List Chg) (sq : Option Addr) (cq bq oq : Nat) (mq : List MC) (Cq : Chs w sq cq Q bq oq mq) (okq : ∀ c ∈ Q, OkC c) (lQ0 : Q.length ≤ 2199023255488) :
    Calls Try.prog 7 #[.slice su U.length cu, .slice sp P.length cp, .slice sq Q.length cq] w fun e w' => e = .returned (.bool true) ∧ Below w.heap.size w w' := by
  have hB : Below w.heap.size w w := Below.refl _ _
  have iU : (U.length : Int) ≤ 2199023255488 := by omega
  have iP : (P.length : Int) ≤ 2199023255488 := by omega
  have iQ : (Q.length : Int) ≤ 2199023255488 := by omega
  clear lU0 lP0 lQ0
  go_enter Try.func7, Try.ntmps7
  by_cases lP : (200 : Int) < (P.length : Int)
  · clear Cu Cp Cq
    go_wp2
    go_ret
    exact ⟨rfl, hB⟩
  · by_cases lQ : (200 : Int) < (Q.length : Int)
    · clear Cu Cp Cq
      go_wp2
      go_ret
      exact ⟨rfl, hB⟩
    · by_cases lU : (200 : Int) < (U.length : Int)
      · clear Cu Cp Cq
        go_wp2
        go_ret
        exact ⟨rfl, hB⟩
      · have LP := hid (show P.length ≤ 200 by omega)
        have LQ := hid (show Q.length ≤ 200 by omega)
        have LU := hid (show U.length ≤ 200 by omega)
        by_cases hp : wrongC P 4096 = 0
        · have Hp := hid (show decide (wrongC P 4096 = 0) = true from decide_eq_true hp)
          have Wp := hid hp
          clear hp
          have K1 := hid (right_to (n := 4096) Cp Hp.out)
          go_wp2_with fail
          refine K1.out.mono ?_
          rintro e w1 ⟨rfl, hb⟩
          clear K1
          have hBn : Below w.heap.size w w1 := hB.trans (hb.mono hB.size)
          replace Cu := Cu.below hb
          replace Cp := Cp.below hb
          replace Cq := Cq.below hb
          clear hB hb
          have hB := hBn
          clear hBn
          by_cases hq : wrongC Q 4096 = 0
          · have Hq := hid (show decide (wrongC Q 4096 = 0) = true from decide_eq_true hq)
            have Wq := hid hq
            clear hq
            have K2 := hid (right_to (n := 4096) Cq Hq.out)
            go_wp2_with fail
            refine K2.out.mono ?_
            rintro e w2 ⟨rfl, hb⟩
            clear K2
            have hBn : Below w.heap.size w w2 := hB.trans (hb.mono hB.size)
            replace Cu := Cu.below hb
            replace Cp := Cp.below hb
            replace Cq := Cq.below hb
            clear hB hb
            have hB := hBn
            clear hBn
            clear lP lQ lU
            obtain ⟨M, hM⟩ : ∃ M, aft [] U = M := ⟨_, rfl⟩
            have lM : M.length ≤ 200 := by have a1 := aft_len U []; rw [hM] at a1; have := LU.out; simp at a1; omega
            have nM : (keysE M).Nodup := by rw [← hM]; exact aft_keys _ _ List.nodup_nil
            obtain ⟨n, A1, A2, H⟩ := app (Q := Q) okp okq LP.out LQ.out lM nM Wp.out
            have HMU := hid hM
            have H := hid H
            clear hM lM nM
            have K3 := hid (after_to (ens_nil _) List.nodup_nil Cu (by have := LU.out; simp; omega) HMU.out)
            go_wp2_with fail
            refine K3.out.mono ?_
            rintro e w3 ⟨sm0, cm0, bm0, mm0, rfl, Em0, hb⟩
            clear K3
            have hBn : Below w.heap.size w w3 := hB.trans (hb.mono hB.size)
            replace Cu := Cu.below hb
            replace Cp := Cp.below hb
            replace Cq := Cq.below hb
            clear hB hb
            have hB := hBn
            clear hBn
            have K4 := hid (copy_to Cp H.out.okp (by have := H.out.lp; omega))
            go_wp2_with fail
            refine K4.out.mono ?_
            rintro e w4 ⟨v, rfl, hM, hb⟩
            clear K4
            have hBn : Below w.heap.size w w4 := hB.trans (hb.mono hB.size)
            replace Cu := Cu.below hb
            replace Cp := Cp.below hb
            replace Cq := Cq.below hb
            replace Em0 := Em0.below hb
            clear hB hb
            have hB := hBn
            clear hBn
            obtain ⟨spc, cpc, bpc, mpc, rfl, Cpc, _⟩ := hM.chs
            clear hM
            have K5 := hid (normal_to Cpc H.out.okp H.out.e1 H.out.f1)
            go_wp2_with fail
            refine K5.out.mono ?_
            rintro e w5 ⟨v, rfl, hM, hb⟩
            clear K5
            have hBn : Below w.heap.size w w5 := hB.trans (hb.mono hB.size)
            replace Cu := Cu.below hb
            replace Cp := Cp.below hb
            replace Cq := Cq.below hb
            replace Em0 := Em0.below hb
            replace Cpc := Cpc.below hb
            clear hB hb
            have hB := hBn
            clear hBn
            obtain ⟨sn, cn, bn, mn, rfl, Cn, _⟩ := hM.chs
            clear hM
            have K6 := hid (after_to Em0 H.out.nM Cn (by have a1 := H.out.lM; have a2 := H.out.lp; have a3 := H.out.ln; omega) H.out.a1)
            go_wp2_with fail
            refine K6.out.mono ?_
            rintro e w6 ⟨sa1, ca1, ba1, ma1, rfl, Ea1, hb⟩
            clear K6
            have hBn : Below w.heap.size w w6 := hB.trans (hb.mono hB.size)
            replace Cu := Cu.below hb
            replace Cp := Cp.below hb
            replace Cq := Cq.below hb
            replace Em0 := Em0.below hb
            replace Cpc := Cpc.below hb
            replace Cn := Cn.below hb
            clear hB hb
            have hB := hBn
            clear hBn
            have K7 := hid (after_to Em0 H.out.nM Cp (by have a1 := H.out.lM; have a2 := H.out.lp; omega) H.out.a2)
            go_wp2_with fail
            refine K7.out.mono ?_
            rintro e w7 ⟨sa2, ca2, ba2, ma2, rfl, Ea2, hb⟩
            clear K7
            have hBn : Below w.heap.size w w7 := hB.trans (hb.mono hB.size)
            replace Cu := Cu.below hb
            replace Cp := Cp.below hb
            replace Cq := Cq.below hb
            replace Em0 := Em0.below hb
            replace Cpc := Cpc.below hb
            replace Cn := Cn.below hb
            replace Ea1 := Ea1.below hb
            clear hB hb
            have hB := hBn
            clear hBn
            have K8 := hid (map_to Ea1 Ea2 H.out.sm (by have := H.out.l1; omega))
            go_wp2_with fail
            refine K8.out.mono ?_
            rintro e w8 ⟨rfl, hb⟩
            clear K8
            have hBn : Below w.heap.size w w8 := hB.trans (hb.mono hB.size)
            replace Cu := Cu.below hb
            replace Cp := Cp.below hb
            replace Cq := Cq.below hb
            replace Em0 := Em0.below hb
            replace Cpc := Cpc.below hb
            replace Cn := Cn.below hb
            replace Ea1 := Ea1.below hb
            replace Ea2 := Ea2.below hb
            clear hB hb
            have hB := hBn
            clear hBn
            clear Ea1 Ea2 Cpc
            have K9 := hid (rise_to Cn H.out.ltn H.out.okn (by have a2 := H.out.lp; have a3 := H.out.ln; omega))
            go_wp2_with fail
            refine K9.out.mono ?_
            rintro e w9 ⟨rfl, hb⟩
            clear K9
            have hBn : Below w.heap.size w w9 := hB.trans (hb.mono hB.size)
            replace Cu := Cu.below hb
            replace Cp := Cp.below hb
            replace Cq := Cq.below hb
            replace Em0 := Em0.below hb
            replace Cn := Cn.below hb
            clear hB hb
            have hB := hBn
            clear hBn
            clear Cn
            have hln := H.out.ln
            have K10 := hid (copy_to Cp H.out.okp (by have := H.out.lp; omega))
            go_wp2_with fail
            refine K10.out.mono ?_
            rintro e w10 ⟨v, rfl, hM, hb⟩
            clear K10
            have hBn : Below w.heap.size w w10 := hB.trans (hb.mono hB.size)
            replace Cu := Cu.below hb
            replace Cp := Cp.below hb
            replace Cq := Cq.below hb
            replace Em0 := Em0.below hb
            clear hB hb
            have hB := hBn
            clear hBn
            obtain ⟨spd, cpd, bpd, mpd, rfl, Cpd, _⟩ := hM.chs
            clear hM
            have K11 := hid (copy_to Cq H.out.okq (by have := H.out.lq; omega))
            go_wp2_with fail
            refine K11.out.mono ?_
            rintro e w11 ⟨v, rfl, hM, hb⟩
            clear K11
            have hBn : Below w.heap.size w w11 := hB.trans (hb.mono hB.size)
            replace Cu := Cu.below hb
            replace Cp := Cp.below hb
            replace Cq := Cq.below hb
            replace Em0 := Em0.below hb
            replace Cpd := Cpd.below hb
            clear hB hb
            have hB := hBn
            clear hBn
            obtain ⟨sqd, cqd, bqd, mqd, rfl, Cqd, _⟩ := hM.chs
            clear hM
            clear hln
            obtain ⟨k, hk⟩ : ∃ k, keysN P Q = k := ⟨_, rfl⟩
            have HK := hid hk
            clear hk
            have ik : (k : Int) ≤ 400 := by have := keysN_le P Q; rw [HK.out] at this; have := LP.out; have := LQ.out; omega
            by_cases h64 : (64 : Int) < (k : Int)
            · obtain ⟨z1, z2⟩ := app3 Wp.out Wq.out (by rw [HK.out]; omega)
              have Z1 := hid z1
              have Z2 := hid z2
              clear z1 z2
              have K12 := hid (fold_is Cpd Cqd H.out.okp H.out.okq Z1.out Z2.out)
              go_wp2_with fail
              refine K12.out.mono ?_
              rintro e w12 ⟨v, rfl, hM, hb⟩
              clear K12
              have hBn : Below w.heap.size w w12 := hB.trans (hb.mono hB.size)
              replace Cu := Cu.below hb
              replace Cp := Cp.below hb
              replace Cq := Cq.below hb
              replace Em0 := Em0.below hb
              replace Cpd := Cpd.below hb
              replace Cqd := Cqd.below hb
              clear hB hb
              have hB := hBn
              clear hBn
              obtain ⟨sf, cf, bf, mf, rfl, Cf, _⟩ := hM.chs
              clear hM
              have K13 := hid (keys_to Cp Cq (by have := LP.out; omega) (by have := LQ.out; omega) HK.out)
              go_wp2_with fail
              refine K13.out.mono ?_
              rintro e w13 ⟨rfl, hb⟩
              clear K13
              have hBn : Below w.heap.size w w13 := hB.trans (hb.mono hB.size)
              replace Cu := Cu.below hb
              replace Cp := Cp.below hb
              replace Cq := Cq.below hb
              replace Em0 := Em0.below hb
              replace Cpd := Cpd.below hb
              replace Cqd := Cqd.below hb
              replace Cf := Cf.below hb
              clear hB hb
              have hB := hBn
              clear hBn
              go_wp2
              go_ret
              exact ⟨rfl, hB⟩
            · obtain ⟨f, A3, A4, G⟩ := app2 H.out Wp.out Wq.out (by rw [HK.out]; omega)
              have G := hid G
              have K12 := hid (fold_is Cpd Cqd H.out.okp H.out.okq G.out.e G.out.f)
              go_wp2_with fail
              refine K12.out.mono ?_
              rintro e w12 ⟨v, rfl, hM, hb⟩
              clear K12
              have hBn : Below w.heap.size w w12 := hB.trans (hb.mono hB.size)
              replace Cu := Cu.below hb
              replace Cp := Cp.below hb
              replace Cq := Cq.below hb
              replace Em0 := Em0.below hb
              replace Cpd := Cpd.below hb
              replace Cqd := Cqd.below hb
              clear hB hb
              have hB := hBn
              clear hBn
              obtain ⟨sf, cf, bf, mf, rfl, Cf, _⟩ := hM.chs
              clear hM
              have K13 := hid (keys_to Cp Cq (by have := LP.out; omega) (by have := LQ.out; omega) HK.out)
              go_wp2_with fail
              refine K13.out.mono ?_
              rintro e w13 ⟨rfl, hb⟩
              clear K13
              have hBn : Below w.heap.size w w13 := hB.trans (hb.mono hB.size)
              replace Cu := Cu.below hb
              replace Cp := Cp.below hb
              replace Cq := Cq.below hb
              replace Em0 := Em0.below hb
              replace Cpd := Cpd.below hb
              replace Cqd := Cqd.below hb
              replace Cf := Cf.below hb
              clear hB hb
              have hB := hBn
              clear hBn
              have K14 := hid (rise_to Cf G.out.lt G.out.ok (by have := G.out.lf; omega))
              go_wp2_with fail
              refine K14.out.mono ?_
              rintro e w14 ⟨rfl, hb⟩
              clear K14
              have hBn : Below w.heap.size w w14 := hB.trans (hb.mono hB.size)
              replace Cu := Cu.below hb
              replace Cp := Cp.below hb
              replace Cq := Cq.below hb
              replace Em0 := Em0.below hb
              replace Cpd := Cpd.below hb
              replace Cqd := Cqd.below hb
              replace Cf := Cf.below hb
              clear hB hb
              have hB := hBn
              clear hBn
              have hfl : f.length = k := by rw [← G.out.len]; exact HK.out
              have K15 := hid (keys_to Cp Cq (by have := LP.out; omega) (by have := LQ.out; omega) HK.out)
              go_wp2_with fail
              refine K15.out.mono ?_
              rintro e w15 ⟨rfl, hb⟩
              clear K15
              have hBn : Below w.heap.size w w15 := hB.trans (hb.mono hB.size)
              replace Cu := Cu.below hb
              replace Cp := Cp.below hb
              replace Cq := Cq.below hb
              replace Em0 := Em0.below hb
              replace Cpd := Cpd.below hb
              replace Cqd := Cqd.below hb
              replace Cf := Cf.below hb
              clear hB hb
              have hB := hBn
              clear hBn
              clear Cpd Cqd
              have K16 := after_to Em0 H.out.nM Cf (by have a1 := H.out.lM; have a2 := G.out.lf; omega) G.out.a3
              rw [hfl] at K16
              replace K16 := hid K16
              go_wp2_with fail
              refine K16.out.mono ?_
              rintro e w16 ⟨sa3, ca3, ba3, ma3, rfl, Ea3, hb⟩
              clear K16
              have hBn : Below w.heap.size w w16 := hB.trans (hb.mono hB.size)
              replace Cu := Cu.below hb
              replace Cp := Cp.below hb
              replace Cq := Cq.below hb
              replace Em0 := Em0.below hb
              replace Cf := Cf.below hb
              clear hB hb
              have hB := hBn
              clear hBn
              have K17 := after_to Em0 H.out.nM Cp (by have a1 := H.out.lM; have a2 := H.out.lp; omega) H.out.a2
              replace K17 := hid K17
              go_wp2_with fail
              refine K17.out.mono ?_
              rintro e w17 ⟨sa5, ca5, ba5, ma5, rfl, Ea5, hb⟩
              clear K17
              have hBn : Below w.heap.size w w17 := hB.trans (hb.mono hB.size)
              replace Cu := Cu.below hb
              replace Cp := Cp.below hb
              replace Cq := Cq.below hb
              replace Em0 := Em0.below hb
              replace Cf := Cf.below hb
              replace Ea3 := Ea3.below hb
              clear hB hb
              have hB := hBn
              clear hBn
              have K18 := after_to Ea5 H.out.n2 Cq (by have a1 := H.out.l2; have a2 := H.out.lq; omega) G.out.a4
              replace K18 := hid K18
              go_wp2_with fail
              refine K18.out.mono ?_
              rintro e w18 ⟨sa4, ca4, ba4, ma4, rfl, Ea4, hb⟩
              clear K18
              have hBn : Below w.heap.size w w18 := hB.trans (hb.mono hB.size)
              replace Cu := Cu.below hb
              replace Cp := Cp.below hb
              replace Cq := Cq.below hb
              replace Em0 := Em0.below hb
              replace Cf := Cf.below hb
              replace Ea3 := Ea3.below hb
              replace Ea5 := Ea5.below hb
              clear hB hb
              have hB := hBn
              clear hBn
              have K19 := map_to Ea3 Ea4 G.out.sm (by have := G.out.l3; omega)
              replace K19 := hid K19
              go_wp2_with fail
              refine K19.out.mono ?_
              rintro e w19 ⟨rfl, hb⟩
              clear K19
              have hBn : Below w.heap.size w w19 := hB.trans (hb.mono hB.size)
              replace Cu := Cu.below hb
              replace Cp := Cp.below hb
              replace Cq := Cq.below hb
              replace Em0 := Em0.below hb
              replace Cf := Cf.below hb
              replace Ea3 := Ea3.below hb
              replace Ea5 := Ea5.below hb
              replace Ea4 := Ea4.below hb
              clear hB hb
              have hB := hBn
              clear hBn
              go_wp2
              go_ret
              exact ⟨rfl, hB⟩
          · have Hq := hid (show decide (wrongC Q 4096 = 0) = false from decide_eq_false hq)
            clear hq
            have K2 := hid (right_to (n := 4096) Cq Hq.out)
            go_wp2_with fail
            refine K2.out.mono ?_
            rintro e w2 ⟨rfl, hb⟩
            clear K2
            have hBn : Below w.heap.size w w2 := hB.trans (hb.mono hB.size)
            replace Cu := Cu.below hb
            replace Cp := Cp.below hb
            replace Cq := Cq.below hb
            clear hB hb
            have hB := hBn
            clear hBn
            go_wp2
            go_ret
            exact ⟨rfl, hB⟩
        · have Hp := hid (show decide (wrongC P 4096 = 0) = false from decide_eq_false hp)
          clear hp
          have K1 := hid (right_to (n := 4096) Cp Hp.out)
          go_wp2_with fail
          refine K1.out.mono ?_
          rintro e w1 ⟨rfl, hb⟩
          clear K1
          have hBn : Below w.heap.size w w1 := hB.trans (hb.mono hB.size)
          replace Cu := Cu.below hb
          replace Cp := Cp.below hb
          replace Cq := Cq.below hb
          clear hB hb
          have hB := hBn
          clear hBn
          go_wp2
          go_ret
          exact ⟨rfl, hB⟩
end Go.Proofs.Ytcifbnldohmbnaa
