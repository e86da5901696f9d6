import Derived.Test.YtpemmlfooknlnaaSd
import Derived.Test.YtpemmlfooknlnaaMf6
import Derived.WalkKit
import Derived.ProofKit
import Derived.OpenShut
import Derived.SizedLaws
import Derived.Deep.DeepHandedRow
import Derived.Lib.LaidTab
import Derived.Deep.Slices
namespace Go.Proofs.Ytpemmlfooknlnaa
set_option linter.unusedVariables false
set_option linter.unusedSimpArgs false
open Go.RowKit
open Go.Proofs.Ytpemmlfooknlnaa.Ca (Ct ct0 ctC argV AS)
attribute [local go_sem ↓] Go.wp_at_zero Go.wp_at_succ

/-- What the law asks behind a Flush. -/
def FlA (base : Nat) (S : Sto) (w : World) (e : Ending) (w' : World) : Prop :=
  ∃ (s' : Sup) (sp : Option Addr) (n cap : Nat), e = .returned (.int .i64 (if S.D.armed ≤ S.vs.length + 3 then 2 else 0)) ∧ FK w' S.g S.p s' s'.ma S.ep ∧ w'.cell? ⟨S.st, 0, none⟩ = some (.pointer (some ⟨S.g, 0, none⟩)) ∧ w'.cell? ⟨S.st, 3, none⟩ = some (.slice sp n cap) ∧ (S.D.armed ≤ S.vs.length + 3 → s'.ma = 2 ∧ n = S.vs.length) ∧ (S.vs.length + 3 < S.D.armed → s'.ma = 2 + S.vs.length ∧ n = 0) ∧ Below base w w'
set_option maxRecDepth 100000 in
set_option maxHeartbeats 2000000 in
theorem flush_arm (w : World) (base : Nat) (S : Sto) (h : SK w base S) (hlv : liveF S.D S.ep = 0) (hcl : S.cts.length ≤ 1000) (hma : S.s.ma = 2) (hnx : S.nx = 2) (hnp : 2 + S.vs.length ≤ S.D.np) (hge : S.s.ge = 1) (hwd : 1 ≤ S.s.wd ∧ S.s.wd ≤ 32) (hpg : 3 ≤ S.s.pg ∧ S.s.pg ≤ 4096 ∧ 2 + S.vs.length ≤ S.s.pg) (ha : 1 ≤ S.D.armed) (hops : S.D.ops = []) (hwr : S.D.writes ≤ 1000) (hsy : S.D.syncs ≤ 1000) (hN : S.N < 1000000) :
    Calls Try.prog 14 #[.pointer (some ⟨S.st, 0, none⟩), .int .i64 0] w (FlA base S w) := by
  have hvl := h.cl
  have hbw := h.base
  have PUB := fun (w1 : World) (hb : Below w.heap.size w w1) => opublish_any w1 base S (h.below hb) hlv (by omega) 2 hma (by omega) (by omega) hnp 0 (Or.inl rfl) (by rw [hge]; omega) (by
    rw [validS_iff]; dsimp only
    exact ⟨hwd.1, hwd.2, by omega, by omega, hpg.1, hpg.2.1, by omega, by push_cast; omega, Or.inl rfl⟩) (fun hl => by
      have hp := live_pw hl
      have hk : (S.vs.length : Int) < S.D.armed := by
        rcases Int.lt_or_le (S.vs.length : Int) S.D.armed with q | q
        · exact q
        · have := appD_dead S.vs S.D 2 ha q
          rw [this] at hp; cases hp
      obtain ⟨_, _, _, q4, q5, q6⟩ := appD_arm S.vs S.D 2 hk
      exact ⟨hp, by rw [q4, hops]; simp; omega, by rw [q5]; omega, by rw [q6]; omega⟩) (by rw [hops]; simp; omega) (by omega)
  have hgF : ∀ k ∈ S.g :: S.F, base ≤ k := fun k hk => (h.in_lt (by rcases List.mem_cons.1 hk with z | z <;> simp [z])).1
  obtain ⟨svp, svc, esv⟩ := h.svf
  by_cases hc : S.D.armed ≤ S.vs.length + 3
  · refine oFlush_bad w base S h hlv (by rw [hge]; decide) (FlA base S w) (fun w1 hb => ?_)
    refine (PUB w1 hb).mono fun e w' ⟨c, D', s', F', he, hP, hD, hf, hF, hG⟩ => ?_
    obtain ⟨rfl, rfl⟩ := (pubEnd_arm hP ha).1 hc
    have h1 := h.below hb
    have o1 := (h1.off hF).1.trans h1.sk
    refine ⟨2, by decide, he, S.s, svp, S.cts.length, svc, by rw [if_pos hc], hf, ?_, ?_, fun _ => ⟨hma, hvl⟩, fun q => by omega, (hb.mono hbw).trans (hF.below hgF (Nat.le_trans hbw hb.size))⟩
    · rw [cell_of_row _ _ _ _ _ _ o1]; rfl
    · rw [cell_of_row _ _ _ _ _ _ o1, ← esv]; rfl
  · obtain ⟨s2, hs2⟩ : ∃ s2 : Sup, s2 = ⟨S.s.wd, S.s.ge + 1, (2 + S.vs.length : Nat), 0, S.s.pg⟩ := ⟨_, rfl⟩
    refine (oFlush_ok w base S h hlv (by rw [hge]; decide) (by omega) (fun w3 => w3.heap[S.st]? = some (.cells (stC S.g S.pc S.sv).toArray 63 (0, 0)) ∧ FK w3 S.g S.p s2 s2.ma S.ep ∧ Below base w w3) (fun w1 hb => ?_)).mono ?_
    · refine (PUB w1 hb).mono fun e w' ⟨c, D', s', F', he, hP, hD, hf, hF, hG⟩ => ?_
      obtain ⟨rfl, rfl⟩ := (pubEnd_arm hP ha).2 (by omega)
      have h1 := h.below hb
      obtain ⟨o1, o2, o3, o4⟩ := h1.off hF
      refine ⟨he, o1.trans h1.sk, ?_, o1.trans h1.sk, by rw [hs2]; exact hf, (hb.mono hbw).trans (hF.below hgF (Nat.le_trans hbw hb.size))⟩
      obtain ⟨mm, n, s, L, e, c, r⟩ := h1.ca
      exact ⟨mm, n, s, L, e, c.of_heap fun k hk => o4 k (by rw [e]; exact hk), r⟩
    · rintro e w' ⟨w3, rfl, ⟨r3, hf3, hb3⟩, F2, hC, hFr, hGr⟩
      have r4 : (w3.setCell ⟨S.st, 3, none⟩ (.slice none 0 0)).heap[S.st]? = some (.cells (stC S.g S.pc (.slice none 0 0)).toArray 63 (0, 0)) := by rw [heap_setCell_same _ _ _ _ _ _ r3]; rfl
      have hs3 : (w3.setCell ⟨S.st, 3, none⟩ (.slice none 0 0)).heap.size = w3.heap.size := by simp [World.setCell]
      have r5 : w'.heap[S.st]? = some (.cells (stC S.g S.pc (.slice none 0 0)).toArray 63 (0, 0)) := (hFr.block S.st (hlt_ r4) h.st_apart.2.2.1).trans r4
      have hg4 : (w3.setCell ⟨S.st, 3, none⟩ (.slice none 0 0)).heap[S.g]? = w3.heap[S.g]? := heap_setCell_other _ ⟨S.st, 3, none⟩ S.g _ (fun q => h.st_apart.1 (by have q2 : S.g = S.st := q; exact q2.symm))
      have hf5 : FK w' S.g S.p s2 s2.ma S.ep := by
        have z := (hFr.block S.g (by rw [hs3]; exact hlt_ hf3) h.g_apart.2.1).trans hg4
        exact z.trans hf3
      refine ⟨s2, none, 0, 0, by rw [if_neg hc], hf5, by rw [cell_of_row _ _ _ _ _ _ r5]; rfl, by rw [cell_of_row _ _ _ _ _ _ r5]; rfl, fun q => absurd q hc, fun _ => ⟨by rw [hs2]; simp, rfl⟩, ?_⟩
      exact hb3.trans (((Below.refl base w3).setCell (p := ⟨S.st, 3, none⟩) h.bs _).trans (hFr.below (fun k hk => (h.in_lt (by simp [hk])).1) (by rw [hs3]; exact Nat.le_trans hbw hb3.size)))
end Go.Proofs.Ytpemmlfooknlnaa
namespace Go.Proofs.Ytpemmlfooknlnaa
set_option linter.unusedVariables false
set_option linter.unusedSimpArgs false
open Go.RowKit
open Go.Proofs.Ytpemmlfooknlnaa.Ca (Ct ct0 ctC argV AS)
attribute [local go_sem ↓] Go.wp_at_zero Go.wp_at_succ

theorem wpList_fieldW2 {ops : Array Oper} {rest : List Oper} {o : Oper} {a : Act} {w : World} {Q : Exit → Act → World → Prop} (hw : Region.wanted o (yielded ops a.tmps) = true) (x : Operand) (ho : o.op = .field 40 x 2) (s2 : Sup) (y : Int) (hy : s2.ma = y) (hx : a.eval x = .agg (supC s2))
    (h : wpList Try.prog ops Q rest (a.put o.dst (.int .i64 y)) w) : wpList Try.prog ops Q (o :: rest) a w := by
  refine BigFrame.wpList_want hw fun K hK => ?_
  unfold Oper.wp
  have e : (execOp a.eval o).run Try.prog w = .ok (.value (.int .i64 y)) w := by
    subst hy
    unfold execOp
    simp only [ho, hx]
    kernel_rfl
  rw [e]
  exact hK _ _ h
theorem Mds.later {w w1 : World} {B : Nat} {sp : Option Addr} {ms : List MD} (h : Mds w B sp ms) (hb : Below B w w1) : Mds w1 B sp ms := by
  obtain ⟨b, o, h1, h2⟩ := h
  refine ⟨b, o, h1, fun i hi => ?_⟩
  obtain ⟨tp, tc, q3, q4, q5⟩ := h2 i hi
  have q1 := (h1 (by omega)).1
  exact ⟨tp, tc, fun j v hv => (hb.cell (p := ⟨b, o + i * 2 + j, none⟩) q1).trans (q3 j v hv), SrcB q4 hb q5, q5⟩
set_option maxRecDepth 100000 in
set_option maxHeartbeats 4000000 in
theorem storeForgets_any (w : World) (pages width room : Int) (sp : Option Addr) (cap : Nat) (ms : List MD) (hM : Mds w w.heap.size sp ms) (hok : ∀ i, i < ms.length → MdOk (ms.getD i dM)) (hc : ms.length ≤ cap) (hcl : cap ≤ 9223372036854775807) (n : Int) :
    Calls Try.prog 3 #[.int .i64 pages, .int .i64 width, .int .i64 room, .slice sp ms.length cap, .int .i64 n] w fun e w' => e = .returned (.bool true) ∧ Below w.heap.size w w' := by
  have hkl : (ms.take 12).length ≤ 12 := by rw [List.length_take]; omega
  have HM := hid (hM.take 12)
  have HOK := hid (show ∀ i, i < (ms.take 12).length → MdOk ((ms.take 12).getD i dM) from fun i hi => by
    have e : (ms.take 12).getD i dM = ms.getD i dM := by
      rw [List.length_take] at hi
      rw [List.getD_eq_getElem?_getD, List.getD_eq_getElem?_getD, List.getElem?_take, if_pos (by omega)]
    rw [e]; exact hok i (by rw [List.length_take] at hi; omega))
  have CUT := hid (cut_any w sp cap ms hM hc hcl)
  clear hM hok hc
  obtain ⟨base, hbase⟩ : ∃ base, base = w.heap.size := ⟨_, rfl⟩
  rw [← hbase] at HM
  have HBA := hid hbase
  go_enter Try.func3, Try.ntmps3
  go_wp2_with fail
  refine CUT.out.mono ?_
  rintro _ wx ⟨rfl, hw⟩
  obtain rfl := hw.symm
  clear CUT hbase
  generalize ms.take 12 = mt at *
  have HM4 := hid (fun (w4 : World) (hb : Below base w w4) => HM.out.later hb)
  generalize hk : mt.length = k at *
  have HK := hid hk
  have HOK2 := hid (fun i (hi : i < mt.length) => HOK.out i (by rw [← HK.out]; exact hi))
  clear hk
  have ki : (k : Int) ≤ 12 := by omega
  by_cases hk1 : k = 0
  · have mx : (2 + (k : Int)) < 3 := by omega
    clear hk1
    have KP := hid (hwhole_any w pages (3) 60 (by omega) (by omega) (by omega))
    have hpb := wholeF_bd pages (3) 60 (by omega)
    obtain ⟨N, hN⟩ : ∃ N : Nat, (N : Int) = wholeF pages (3) 60 := ⟨(wholeF pages (3) 60).toNat, by omega⟩
    rw [← hN] at KP hpb
    clear hN
    go_wp2_with fail
    refine KP.out.mono ?_
    rintro _ wx ⟨rfl, hw⟩
    obtain rfl := hw.symm
    have hwb := wholeF_bd width 1 32 (by omega)
    have KWd := hid (hwhole_any w width 1 32 (by omega) (by omega) (by omega))
    generalize wholeF width 1 32 = wd at *
    go_wp2_with fail
    refine KWd.out.mono ?_
    rintro _ wx ⟨rfl, hw⟩
    obtain rfl := hw.symm
    clear KP KWd
    go_wp2_with fail
    refine (begun_any w N wd (by omega) (by omega)).mono ?_
    rintro _ w1 ⟨p, F, D, rfl, hD, hB, hb1⟩
    rw [← HBA.out] at hD hb1
    have HB := hid hB
    have HD := hid hD
    have HB1 := hid hb1
    clear hB hD hb1
    go_wp2_with fail
    refine (known_any w1).mono ?_
    rintro _ w2 ⟨rfl, hb2⟩
    have HD2 := hid (HD.out.below hb2)
    have HB2 := hid (HB1.out.trans (hb2.mono (by have := HB1.out.size; have := HBA.out; omega)))
    have HZ2 := hid (show base ≤ w2.heap.size by have := HB2.out.size; have := HBA.out; omega)
    clear hb2 HD
    go_wp2_with fail
    refine (open_born w2 base F p D HD2.out N wd HB.out).mono ?_
    rintro _ w3 ⟨g, rfl, hg, hf, hD3, hF3⟩
    have HBg := hid (show base ≤ g by have := HZ2.out; omega)
    have HF := hid hf
    have HD3 := hid hD3
    have HB3 := hid (HB2.out.trans (hF3.below (fun k hk => (HD2.out.lt k hk).1) HZ2.out))
    clear hg hf hD3 hF3
    have hrb := wholeF_bd room 0 4096 (by omega)
    have KR := hid (hwhole_any w3 room 0 4096 (by omega) (by omega) (by omega))
    generalize wholeF room 0 4096 = rm at *
    go_wp2_with fail
    refine KR.out.mono ?_
    rintro _ wx ⟨rfl, hw⟩
    obtain rfl := hw.symm
    go_wp2_with fail
    refine (new_born w3 base F p D HD3.out N wd HB.out g HF.out HBg.out rm (by omega)).mono ?_
    rintro _ w4 ⟨st, pc, FC, rfl, hK4, hb4⟩
    have HK4 := hid hK4
    have HB4 := hid (HB3.out.trans hb4)
    have HNP := hid (show (opD D).np = N from HB.out.np)
    clear hK4 hb4 KR
    have STG := (stages_any w4 base _ HK4.out HB.out.live sp cap mt (HM4.out w4 HB4.out) HOK2.out 2 rfl (by rw [HK.out]; omega) (by show (2 : Int) ≤ 2; omega) (by omega) (by show (0 : Nat) < _; omega) (by rw [HK.out]; show 2 + k ≤ (opD D).np; rw [HNP.out]; omega))
    rw [HK.out, show ((2 : Nat) : Int) = 2 from rfl, show (bornS p g st pc F FC D N wd rm).st = st from rfl] at STG
    replace STG := hid STG
    generalize hS4 : bornS p g st pc F FC D N wd rm = S4 at *
    have HS4 := hid hS4
    clear hS4
    go_wp2_with fail
    refine STG.out.mono ?_
    rintro _ w5 ⟨rfl, S5, hs5, hn5, hv5, hK5, hb5⟩
    have HB5 := hid (HB4.out.trans hb5)
    rw [← HS4.out] at hs5 hn5 hv5
    have hst5 : S5.st = st := hs5.st
    have hcl5 : S5.cts.length = k := by rw [hK5.cl, hv5]; show ([] ++ mt.map mdV).length = k; rw [List.nil_append, List.length_map, HK.out]
    have LDS := (loads_any w5 base S5 hK5 (by rw [hs5.D, hs5.ep]; exact HB.out.live) sp cap mt (HM4.out w5 HB5.out) HOK2.out 2 0 (by rw [hs5.s]; rfl) (by rw [HK.out]; omega) (by rw [hs5.s]; show (2 : Int) ≤ 2; omega) (by omega) (by omega) (by rw [hn5]; show 0 + k < 1000000; omega) (by rw [HK.out]; omega) (fun i hi => by
      rw [hv5]; show ([] ++ mt.map mdV).getD (0 + i) (0, []) = _
      rw [List.nil_append, Nat.zero_add, List.getD_eq_getElem?_getD, List.getElem?_map, List.getElem?_eq_getElem hi, List.getD_eq_getElem?_getD, List.getElem?_eq_getElem hi]; rfl))
    rw [HK.out, hst5, show ((2 : Nat) : Int) = 2 from rfl] at LDS
    replace LDS := hid LDS
    have HV5 := hid hv5
    have HS5 := hid hs5
    have HN5 := hid hn5
    clear STG hn5 hv5 hK5 hb5 hs5
    go_wp2_with fail
    refine LDS.out.mono ?_
    rintro _ w6 ⟨rfl, S6, hs6, hn6, hv6, hc6, _, _, hK6, hb6⟩
    have HB6 := hid (HB5.out.trans hb6)
    have HS6 := hid (HS5.out.trans hs6)
    have hg6 : S6.g = g := HS6.out.g
    have HFN := hid (FNext_any w6 S6.g S6.p S6.s S6.nx S6.ep hK6.fk)
    rw [hg6, show S6.nx = 2 from HS6.out.nx] at HFN
    have HK6 := hid hK6
    have HV6 := hid (show S6.vs = mt.map mdV by rw [hv6, HV5.out]; rfl)
    have HN6 := hid (show S6.N < 1000000 by rw [hn6, HN5.out]; show 0 + k + k < _; omega)
    have HC6 := hid (show S6.cts.length = k by rw [hc6]; exact hcl5)
    clear LDS hs6 hn6 hv6 hc6 hb6 hK6 hcl5 hst5
    go_wp2_with fail
    refine HFN.out.mono ?_
    rintro _ wx ⟨rfl, hw⟩
    obtain rfl := hw
    have hab := wholeF_bd n 1 ((k : Int) + 3 + 1) (by omega)
    have KA := hid (hwhole_any w6 n 1 ((k : Int) + 3 + 1) (by omega) (by omega) (by omega))
    generalize wholeF n 1 ((k : Int) + 3 + 1) = at_ at *
    go_wp2_with fail
    refine KA.out.mono ?_
    rintro _ wx ⟨rfl, hw⟩
    obtain rfl := hw.symm
    have ARM := hid (Arm_any w6 base S6.F S6.p S6.D HK6.out.da at_ (by omega))
    rw [show S6.p = p from HS6.out.p] at ARM
    clear HFN KA
    go_wp2_with fail
    refine ARM.out.mono ?_
    rintro _ w7 ⟨rfl, hX7⟩
    obtain ⟨F7, hD7, hF7, hG7⟩ := hX7
    have hop : S6.D = opD D := HS6.out.D
    have hpw : S6.D.power = true := by rw [hop]; exact HB.out.pw
    have harm : S6.D.arm at_ = { S6.D with armed := max at_ 0 } := by unfold DS.arm; rw [if_pos hpw]
    have hs6 : S6.s = fS N wd 1 := HS6.out.s
    have hK7 := HK6.out.disked (F' := F7) (D' := S6.D.arm at_) (by rw [show S6.p = p from HS6.out.p]; exact hD7) 2 (by rw [hs6]; rfl) (by
      have := HK6.out.fk.other HK6.out.da hF7
      rw [show S6.nx = 2 from HS6.out.nx] at this
      rw [show S6.s.ma = ((2 : Nat) : Int) by rw [hs6]; rfl]; exact this) ⟨hF7.os, hF7.tape, hF7.output, hF7.size, fun k hk hn => hF7.block k hk (fun q => hn (List.mem_cons_of_mem _ q))⟩ hG7 (fun x _ => by rw [harm]; rfl)
    have hvl : S6.vs.length = k := by rw [HV6.out, List.length_map, HK.out]
    have FLS := flush_arm w7 base _ hK7 (by
        show liveF (S6.D.arm at_) S6.ep = 0
        rw [harm, hop, show S6.ep = 1 from HS6.out.ep]; exact HB.out.live) (by show S6.cts.length ≤ 1000; rw [HC6.out]; omega) (by show S6.s.ma = 2; rw [hs6]; rfl) rfl (by
        show 2 + S6.vs.length ≤ (S6.D.arm at_).np
        rw [hvl, harm, hop]; show 2 + k ≤ (opD D).np; rw [HNP.out]; omega) (by show S6.s.ge = 1; rw [hs6]; rfl) (by show 1 ≤ S6.s.wd ∧ S6.s.wd ≤ 32; rw [hs6]; exact ⟨hwb.1, hwb.2⟩) (by
        show 3 ≤ S6.s.pg ∧ S6.s.pg ≤ 4096 ∧ 2 + (S6.vs.length : Int) ≤ S6.s.pg
        rw [hs6, hvl]; show (3 : Int) ≤ (N : Int) ∧ (N : Int) ≤ 4096 ∧ 2 + (k : Int) ≤ (N : Int); omega) (by show 1 ≤ (S6.D.arm at_).armed; rw [harm]; show (1 : Int) ≤ max at_ 0; omega) (by show (S6.D.arm at_).ops = []; rw [harm, hop]; exact HB.out.ops) (by show (S6.D.arm at_).writes ≤ 1000; rw [harm, hop]; show D.writes ≤ 1000; rw [HB.out.writes]; decide) (by show (S6.D.arm at_).syncs ≤ 1000; rw [harm, hop]; show D.syncs ≤ 1000; rw [HB.out.syncs]; decide) HN6.out
    have FL2 := hid (show Calls Try.prog 14 #[.pointer (some ⟨st, 0, none⟩), .int .i64 0] w7 fun e w' => ∃ (s' : Sup) (sp : Option Addr) (n8 cap : Nat), e = .returned (.int .i64 (if at_ ≤ (k : Int) + 3 then 2 else 0)) ∧ FK w' g p s' s'.ma 1 ∧ w'.cell? ⟨st, 0, none⟩ = some (.pointer (some ⟨g, 0, none⟩)) ∧ w'.cell? ⟨st, 3, none⟩ = some (.slice sp n8 cap) ∧ (at_ ≤ (k : Int) + 3 → s'.ma = 2 ∧ n8 = k) ∧ ((k : Int) + 3 < at_ → s'.ma = 2 + (k : Int) ∧ n8 = 0) ∧ Below base w7 w' from by
      have e1 : (S6.D.arm at_).armed = at_ := by rw [harm]; show max at_ 0 = at_; omega
      have e2 : S6.st = st := HS6.out.st
      rw [show ({ S6 with F := F7, D := S6.D.arm at_, nx := 2 } : Sto).st = st from e2] at FLS
      refine FLS.mono fun e w' hq => ?_
      obtain ⟨s', sp8, n8, cap8, q1, q2, q3, q4, q5, q6, q7⟩ := hq
      dsimp only at q1 q2 q3 q4 q5 q6
      rw [e1, hvl] at q1 q5 q6
      rw [hg6, show S6.p = p from HS6.out.p, show S6.ep = 1 from HS6.out.ep] at q2
      rw [hg6] at q3
      exact ⟨s', sp8, n8, cap8, q1, q2, q3, q4, q5, q6, q7⟩)
    have HB7 := hid (HB6.out.trans (hF7.below (fun k hk => (HK6.out.da.lt k hk).1) (by have := HB6.out.size; have := HBA.out; omega)))
    clear FLS hK7 hvl hs6 harm hpw hop hD7 hF7 hG7 ARM HK6 hg6
    go_wp2_with fail
    refine FL2.out.mono ?_
    rintro _ w8 ⟨s8, sp8, n8, cap8, rfl, hf8, c0, c3, hA, hBB, hb8⟩
    have HB8 := hid (HB7.out.trans hb8)
    have NX := hid (FNext_any w8 g p s8 s8.ma 1 hf8)
    have SU := hid (FSuper_any w8 g p s8 s8.ma 1 hf8)
    have C0 := hid c0
    have C3 := hid c3
    have HF8 := hid hf8
    have HBA8 := hid (show base ≤ w8.heap.size by have := HB8.out.size; have := HBA.out; omega)
    clear c0 c3 hf8 hb8 FL2
    by_cases hq : at_ ≤ (k : Int) + 3
    · obtain ⟨m8, hn8⟩ := hA hq
      obtain rfl := hn8.symm
      have hd8 : decide ((k : Int) + 3 < at_) = false := by simp; omega
      rw [if_pos hq]
      have OX := hid (oNext_min w8 st g p s8 s8.ma 1 C0.out HF8.out sp8 k cap8 C3.out (by omega) (by omega))
      rw [m8] at NX OX
      clear hA hBB hq
      go_wp2_with fail
      refine NX.out.mono ?_
      rintro _ wx ⟨rfl, hw⟩
      obtain rfl := hw
      go_wp2_with fail
      refine SU.out.mono ?_
      rintro _ w9 ⟨rfl, hb9⟩
      have OX9 := hid (oNext_min w9 st g p s8 s8.ma 1 ((hb9.cell (p := ⟨st, 0, none⟩) (block_lt_of_cell C0.out)).trans C0.out) (HF8.out.below hb9) sp8 k cap8 ((hb9.cell (p := ⟨st, 3, none⟩) (block_lt_of_cell C3.out)).trans C3.out) (by omega) (by omega))
      rw [m8] at OX9
      have C39 := hid ((hb9.cell (p := ⟨st, 3, none⟩) (block_lt_of_cell C3.out)).trans C3.out)
      have HB9 := hid (HB8.out.trans (hb9.mono HBA8.out))
      have HBA9 := hid (Nat.le_trans HBA8.out hb9.size)
      clear hb9 OX
      go_wp2_with (first | refine wpList_fieldW2 (by rfl) _ (by rfl) s8 2 m8 (by rfl) ?_)
      refine OX9.out.mono ?_
      rintro _ w10 ⟨rfl, hb10⟩
      have ST := hid (oStaged_min w10 st sp8 k cap8 ((hb10.cell (p := ⟨st, 3, none⟩) (block_lt_of_cell C39.out)).trans C39.out) (by omega))
      have HB10 := hid (HB9.out.trans (hb10.mono HBA9.out))
      clear hb10
      go_wp2_with fail
      refine ST.out.mono ?_
      rintro _ wx ⟨rfl, hw⟩
      obtain rfl := hw
      go_wp2
      go_ret
      exact ⟨rfl, HBA.out ▸ HB10.out⟩
    · obtain ⟨m8, rfl⟩ := hBB (by omega)
      have hd8 : decide ((k : Int) + 3 < at_) = true := by simp; omega
      rw [if_neg hq]
      have OX := hid (oNext_min w8 st g p s8 s8.ma 1 C0.out HF8.out sp8 0 cap8 C3.out (by omega) (by omega))
      rw [m8] at NX OX
      clear hA hBB hq
      go_wp2_with fail
      refine NX.out.mono ?_
      rintro _ wx ⟨rfl, hw⟩
      obtain rfl := hw
      go_wp2_with fail
      refine OX.out.mono ?_
      rintro _ w9 ⟨rfl, hb9⟩
      have NX9 := hid (FNext_any w9 g p s8 s8.ma 1 (HF8.out.below hb9))
      rw [m8] at NX9
      have ST := hid (oStaged_min w9 st sp8 0 cap8 ((hb9.cell (p := ⟨st, 3, none⟩) (block_lt_of_cell C3.out)).trans C3.out) (by omega))
      have HB9 := hid (HB8.out.trans (hb9.mono HBA8.out))
      clear hb9
      go_wp2_with fail
      refine NX9.out.mono ?_
      rintro _ wx ⟨rfl, hw⟩
      obtain rfl := hw
      go_wp2_with fail
      refine ST.out.mono ?_
      rintro _ wx ⟨rfl, hw⟩
      obtain rfl := hw
      go_wp2
      go_ret
      exact ⟨rfl, HBA.out ▸ HB9.out⟩
  · have mx : (3 : Int) ≤ 2 + (k : Int) := by omega
    clear hk1
    have KP := hid (hwhole_any w pages (2 + (k : Int)) 60 (by omega) (by omega) (by omega))
    have hpb := wholeF_bd pages (2 + (k : Int)) 60 (by omega)
    obtain ⟨N, hN⟩ : ∃ N : Nat, (N : Int) = wholeF pages (2 + (k : Int)) 60 := ⟨(wholeF pages (2 + (k : Int)) 60).toNat, by omega⟩
    rw [← hN] at KP hpb
    clear hN
    go_wp2_with fail
    refine KP.out.mono ?_
    rintro _ wx ⟨rfl, hw⟩
    obtain rfl := hw.symm
    have hwb := wholeF_bd width 1 32 (by omega)
    have KWd := hid (hwhole_any w width 1 32 (by omega) (by omega) (by omega))
    generalize wholeF width 1 32 = wd at *
    go_wp2_with fail
    refine KWd.out.mono ?_
    rintro _ wx ⟨rfl, hw⟩
    obtain rfl := hw.symm
    clear KP KWd
    go_wp2_with fail
    refine (begun_any w N wd (by omega) (by omega)).mono ?_
    rintro _ w1 ⟨p, F, D, rfl, hD, hB, hb1⟩
    rw [← HBA.out] at hD hb1
    have HB := hid hB
    have HD := hid hD
    have HB1 := hid hb1
    clear hB hD hb1
    go_wp2_with fail
    refine (known_any w1).mono ?_
    rintro _ w2 ⟨rfl, hb2⟩
    have HD2 := hid (HD.out.below hb2)
    have HB2 := hid (HB1.out.trans (hb2.mono (by have := HB1.out.size; have := HBA.out; omega)))
    have HZ2 := hid (show base ≤ w2.heap.size by have := HB2.out.size; have := HBA.out; omega)
    clear hb2 HD
    go_wp2_with fail
    refine (open_born w2 base F p D HD2.out N wd HB.out).mono ?_
    rintro _ w3 ⟨g, rfl, hg, hf, hD3, hF3⟩
    have HBg := hid (show base ≤ g by have := HZ2.out; omega)
    have HF := hid hf
    have HD3 := hid hD3
    have HB3 := hid (HB2.out.trans (hF3.below (fun k hk => (HD2.out.lt k hk).1) HZ2.out))
    clear hg hf hD3 hF3
    have hrb := wholeF_bd room 0 4096 (by omega)
    have KR := hid (hwhole_any w3 room 0 4096 (by omega) (by omega) (by omega))
    generalize wholeF room 0 4096 = rm at *
    go_wp2_with fail
    refine KR.out.mono ?_
    rintro _ wx ⟨rfl, hw⟩
    obtain rfl := hw.symm
    go_wp2_with fail
    refine (new_born w3 base F p D HD3.out N wd HB.out g HF.out HBg.out rm (by omega)).mono ?_
    rintro _ w4 ⟨st, pc, FC, rfl, hK4, hb4⟩
    have HK4 := hid hK4
    have HB4 := hid (HB3.out.trans hb4)
    have HNP := hid (show (opD D).np = N from HB.out.np)
    clear hK4 hb4 KR
    have STG := (stages_any w4 base _ HK4.out HB.out.live sp cap mt (HM4.out w4 HB4.out) HOK2.out 2 rfl (by rw [HK.out]; omega) (by show (2 : Int) ≤ 2; omega) (by omega) (by show (0 : Nat) < _; omega) (by rw [HK.out]; show 2 + k ≤ (opD D).np; rw [HNP.out]; omega))
    rw [HK.out, show ((2 : Nat) : Int) = 2 from rfl, show (bornS p g st pc F FC D N wd rm).st = st from rfl] at STG
    replace STG := hid STG
    generalize hS4 : bornS p g st pc F FC D N wd rm = S4 at *
    have HS4 := hid hS4
    clear hS4
    go_wp2_with fail
    refine STG.out.mono ?_
    rintro _ w5 ⟨rfl, S5, hs5, hn5, hv5, hK5, hb5⟩
    have HB5 := hid (HB4.out.trans hb5)
    rw [← HS4.out] at hs5 hn5 hv5
    have hst5 : S5.st = st := hs5.st
    have hcl5 : S5.cts.length = k := by rw [hK5.cl, hv5]; show ([] ++ mt.map mdV).length = k; rw [List.nil_append, List.length_map, HK.out]
    have LDS := (loads_any w5 base S5 hK5 (by rw [hs5.D, hs5.ep]; exact HB.out.live) sp cap mt (HM4.out w5 HB5.out) HOK2.out 2 0 (by rw [hs5.s]; rfl) (by rw [HK.out]; omega) (by rw [hs5.s]; show (2 : Int) ≤ 2; omega) (by omega) (by omega) (by rw [hn5]; show 0 + k < 1000000; omega) (by rw [HK.out]; omega) (fun i hi => by
      rw [hv5]; show ([] ++ mt.map mdV).getD (0 + i) (0, []) = _
      rw [List.nil_append, Nat.zero_add, List.getD_eq_getElem?_getD, List.getElem?_map, List.getElem?_eq_getElem hi, List.getD_eq_getElem?_getD, List.getElem?_eq_getElem hi]; rfl))
    rw [HK.out, hst5, show ((2 : Nat) : Int) = 2 from rfl] at LDS
    replace LDS := hid LDS
    have HV5 := hid hv5
    have HS5 := hid hs5
    have HN5 := hid hn5
    clear STG hn5 hv5 hK5 hb5 hs5
    go_wp2_with fail
    refine LDS.out.mono ?_
    rintro _ w6 ⟨rfl, S6, hs6, hn6, hv6, hc6, _, _, hK6, hb6⟩
    have HB6 := hid (HB5.out.trans hb6)
    have HS6 := hid (HS5.out.trans hs6)
    have hg6 : S6.g = g := HS6.out.g
    have HFN := hid (FNext_any w6 S6.g S6.p S6.s S6.nx S6.ep hK6.fk)
    rw [hg6, show S6.nx = 2 from HS6.out.nx] at HFN
    have HK6 := hid hK6
    have HV6 := hid (show S6.vs = mt.map mdV by rw [hv6, HV5.out]; rfl)
    have HN6 := hid (show S6.N < 1000000 by rw [hn6, HN5.out]; show 0 + k + k < _; omega)
    have HC6 := hid (show S6.cts.length = k by rw [hc6]; exact hcl5)
    clear LDS hs6 hn6 hv6 hc6 hb6 hK6 hcl5 hst5
    go_wp2_with fail
    refine HFN.out.mono ?_
    rintro _ wx ⟨rfl, hw⟩
    obtain rfl := hw
    have hab := wholeF_bd n 1 ((k : Int) + 3 + 1) (by omega)
    have KA := hid (hwhole_any w6 n 1 ((k : Int) + 3 + 1) (by omega) (by omega) (by omega))
    generalize wholeF n 1 ((k : Int) + 3 + 1) = at_ at *
    go_wp2_with fail
    refine KA.out.mono ?_
    rintro _ wx ⟨rfl, hw⟩
    obtain rfl := hw.symm
    have ARM := hid (Arm_any w6 base S6.F S6.p S6.D HK6.out.da at_ (by omega))
    rw [show S6.p = p from HS6.out.p] at ARM
    clear HFN KA
    go_wp2_with fail
    refine ARM.out.mono ?_
    rintro _ w7 ⟨rfl, hX7⟩
    obtain ⟨F7, hD7, hF7, hG7⟩ := hX7
    have hop : S6.D = opD D := HS6.out.D
    have hpw : S6.D.power = true := by rw [hop]; exact HB.out.pw
    have harm : S6.D.arm at_ = { S6.D with armed := max at_ 0 } := by unfold DS.arm; rw [if_pos hpw]
    have hs6 : S6.s = fS N wd 1 := HS6.out.s
    have hK7 := HK6.out.disked (F' := F7) (D' := S6.D.arm at_) (by rw [show S6.p = p from HS6.out.p]; exact hD7) 2 (by rw [hs6]; rfl) (by
      have := HK6.out.fk.other HK6.out.da hF7
      rw [show S6.nx = 2 from HS6.out.nx] at this
      rw [show S6.s.ma = ((2 : Nat) : Int) by rw [hs6]; rfl]; exact this) ⟨hF7.os, hF7.tape, hF7.output, hF7.size, fun k hk hn => hF7.block k hk (fun q => hn (List.mem_cons_of_mem _ q))⟩ hG7 (fun x _ => by rw [harm]; rfl)
    have hvl : S6.vs.length = k := by rw [HV6.out, List.length_map, HK.out]
    have FLS := flush_arm w7 base _ hK7 (by
        show liveF (S6.D.arm at_) S6.ep = 0
        rw [harm, hop, show S6.ep = 1 from HS6.out.ep]; exact HB.out.live) (by show S6.cts.length ≤ 1000; rw [HC6.out]; omega) (by show S6.s.ma = 2; rw [hs6]; rfl) rfl (by
        show 2 + S6.vs.length ≤ (S6.D.arm at_).np
        rw [hvl, harm, hop]; show 2 + k ≤ (opD D).np; rw [HNP.out]; omega) (by show S6.s.ge = 1; rw [hs6]; rfl) (by show 1 ≤ S6.s.wd ∧ S6.s.wd ≤ 32; rw [hs6]; exact ⟨hwb.1, hwb.2⟩) (by
        show 3 ≤ S6.s.pg ∧ S6.s.pg ≤ 4096 ∧ 2 + (S6.vs.length : Int) ≤ S6.s.pg
        rw [hs6, hvl]; show (3 : Int) ≤ (N : Int) ∧ (N : Int) ≤ 4096 ∧ 2 + (k : Int) ≤ (N : Int); omega) (by show 1 ≤ (S6.D.arm at_).armed; rw [harm]; show (1 : Int) ≤ max at_ 0; omega) (by show (S6.D.arm at_).ops = []; rw [harm, hop]; exact HB.out.ops) (by show (S6.D.arm at_).writes ≤ 1000; rw [harm, hop]; show D.writes ≤ 1000; rw [HB.out.writes]; decide) (by show (S6.D.arm at_).syncs ≤ 1000; rw [harm, hop]; show D.syncs ≤ 1000; rw [HB.out.syncs]; decide) HN6.out
    have FL2 := hid (show Calls Try.prog 14 #[.pointer (some ⟨st, 0, none⟩), .int .i64 0] w7 fun e w' => ∃ (s' : Sup) (sp : Option Addr) (n8 cap : Nat), e = .returned (.int .i64 (if at_ ≤ (k : Int) + 3 then 2 else 0)) ∧ FK w' g p s' s'.ma 1 ∧ w'.cell? ⟨st, 0, none⟩ = some (.pointer (some ⟨g, 0, none⟩)) ∧ w'.cell? ⟨st, 3, none⟩ = some (.slice sp n8 cap) ∧ (at_ ≤ (k : Int) + 3 → s'.ma = 2 ∧ n8 = k) ∧ ((k : Int) + 3 < at_ → s'.ma = 2 + (k : Int) ∧ n8 = 0) ∧ Below base w7 w' from by
      have e1 : (S6.D.arm at_).armed = at_ := by rw [harm]; show max at_ 0 = at_; omega
      have e2 : S6.st = st := HS6.out.st
      rw [show ({ S6 with F := F7, D := S6.D.arm at_, nx := 2 } : Sto).st = st from e2] at FLS
      refine FLS.mono fun e w' hq => ?_
      obtain ⟨s', sp8, n8, cap8, q1, q2, q3, q4, q5, q6, q7⟩ := hq
      dsimp only at q1 q2 q3 q4 q5 q6
      rw [e1, hvl] at q1 q5 q6
      rw [hg6, show S6.p = p from HS6.out.p, show S6.ep = 1 from HS6.out.ep] at q2
      rw [hg6] at q3
      exact ⟨s', sp8, n8, cap8, q1, q2, q3, q4, q5, q6, q7⟩)
    have HB7 := hid (HB6.out.trans (hF7.below (fun k hk => (HK6.out.da.lt k hk).1) (by have := HB6.out.size; have := HBA.out; omega)))
    clear FLS hK7 hvl hs6 harm hpw hop hD7 hF7 hG7 ARM HK6 hg6
    go_wp2_with fail
    refine FL2.out.mono ?_
    rintro _ w8 ⟨s8, sp8, n8, cap8, rfl, hf8, c0, c3, hA, hBB, hb8⟩
    have HB8 := hid (HB7.out.trans hb8)
    have NX := hid (FNext_any w8 g p s8 s8.ma 1 hf8)
    have SU := hid (FSuper_any w8 g p s8 s8.ma 1 hf8)
    have C0 := hid c0
    have C3 := hid c3
    have HF8 := hid hf8
    have HBA8 := hid (show base ≤ w8.heap.size by have := HB8.out.size; have := HBA.out; omega)
    clear c0 c3 hf8 hb8 FL2
    by_cases hq : at_ ≤ (k : Int) + 3
    · obtain ⟨m8, hn8⟩ := hA hq
      obtain rfl := hn8.symm
      have hd8 : decide ((k : Int) + 3 < at_) = false := by simp; omega
      rw [if_pos hq]
      have OX := hid (oNext_min w8 st g p s8 s8.ma 1 C0.out HF8.out sp8 k cap8 C3.out (by omega) (by omega))
      rw [m8] at NX OX
      clear hA hBB hq
      go_wp2_with fail
      refine NX.out.mono ?_
      rintro _ wx ⟨rfl, hw⟩
      obtain rfl := hw
      go_wp2_with fail
      refine SU.out.mono ?_
      rintro _ w9 ⟨rfl, hb9⟩
      have OX9 := hid (oNext_min w9 st g p s8 s8.ma 1 ((hb9.cell (p := ⟨st, 0, none⟩) (block_lt_of_cell C0.out)).trans C0.out) (HF8.out.below hb9) sp8 k cap8 ((hb9.cell (p := ⟨st, 3, none⟩) (block_lt_of_cell C3.out)).trans C3.out) (by omega) (by omega))
      rw [m8] at OX9
      have C39 := hid ((hb9.cell (p := ⟨st, 3, none⟩) (block_lt_of_cell C3.out)).trans C3.out)
      have HB9 := hid (HB8.out.trans (hb9.mono HBA8.out))
      have HBA9 := hid (Nat.le_trans HBA8.out hb9.size)
      clear hb9 OX
      go_wp2_with (first | refine wpList_fieldW2 (by rfl) _ (by rfl) s8 2 m8 (by rfl) ?_)
      refine OX9.out.mono ?_
      rintro _ w10 ⟨rfl, hb10⟩
      have ST := hid (oStaged_min w10 st sp8 k cap8 ((hb10.cell (p := ⟨st, 3, none⟩) (block_lt_of_cell C39.out)).trans C39.out) (by omega))
      have HB10 := hid (HB9.out.trans (hb10.mono HBA9.out))
      clear hb10
      go_wp2_with fail
      refine ST.out.mono ?_
      rintro _ wx ⟨rfl, hw⟩
      obtain rfl := hw
      go_wp2
      go_ret
      exact ⟨rfl, HBA.out ▸ HB10.out⟩
    · obtain ⟨m8, rfl⟩ := hBB (by omega)
      have hd8 : decide ((k : Int) + 3 < at_) = true := by simp; omega
      rw [if_neg hq]
      have OX := hid (oNext_min w8 st g p s8 s8.ma 1 C0.out HF8.out sp8 0 cap8 C3.out (by omega) (by omega))
      rw [m8] at NX OX
      clear hA hBB hq
      go_wp2_with fail
      refine NX.out.mono ?_
      rintro _ wx ⟨rfl, hw⟩
      obtain rfl := hw
      go_wp2_with fail
      refine OX.out.mono ?_
      rintro _ w9 ⟨rfl, hb9⟩
      have NX9 := hid (FNext_any w9 g p s8 s8.ma 1 (HF8.out.below hb9))
      rw [m8] at NX9
      have ST := hid (oStaged_min w9 st sp8 0 cap8 ((hb9.cell (p := ⟨st, 3, none⟩) (block_lt_of_cell C3.out)).trans C3.out) (by omega))
      have HB9 := hid (HB8.out.trans (hb9.mono HBA8.out))
      clear hb9
      go_wp2_with fail
      refine NX9.out.mono ?_
      rintro _ wx ⟨rfl, hw⟩
      obtain rfl := hw
      go_wp2_with fail
      refine ST.out.mono ?_
      rintro _ wx ⟨rfl, hw⟩
      obtain rfl := hw
      go_wp2
      go_ret
      exact ⟨rfl, HBA.out ▸ HB9.out⟩
end Go.Proofs.Ytpemmlfooknlnaa
namespace Go.Proofs.Ytpemmlfooknlnaa
set_option linter.unusedVariables false
set_option linter.unusedSimpArgs false
open Go.ChangeShapes Go.WideShapes Go.ChangeAt Go.RowKit

theorem own_knob : ownKnob Try.prog.godebug = none := by kernel_rfl
theorem Try.laidOut : laidOutB Try.prog = true := by kernel_rfl
theorem cells5 : Try.prog.cellsOf 5 = 1 := by kernel_rfl
theorem Try.bytes5 : Try.prog.bytesOf 5 = 1 := by kernel_rfl
theorem nat_u32' {a : Int} (h : (Lit.int .u32 a).wf = true) : ∃ n : Nat, a = (n : Int) ∧ n < 4294967296 := by
  have := bounds_u32 h
  obtain ⟨n, hn⟩ := Int.eq_ofNat_of_zero_le this.1
  exact ⟨n, hn, by omega⟩
set_option maxRecDepth 100000 in
/-- A slice of bytes that came in. -/
theorem open_bytesD {H : Type} {enc : TypeId × Value → H} {W : World} {v : Value} {d : DataW H} {p : List MemPlace} {b0 : Nat}
    (hv : Value.okWide Try.prog W .any b0 48 v) (h : DataW.Trod enc Try.prog W 0 (fun _ => true) true 48 v d p) :
    ∃ (zs : List Int) (sp : Option Addr) (cap : Nat), v = .slice sp zs.length cap ∧ Byts zs ∧ Src W sp cap zs ∧ (sp = none → cap = 0) ∧ (zs.length = 0 ∨ ∃ el spare, d = .slice el spare ∧ el.length = zs.length) := by
  obtain ⟨a0, len0, cap0, rfl⟩ := okWide_slice Try.underlying48 hv
  obtain ⟨fuel, hf⟩ := h
  rcases open_ints Try.underlying48 Try.underlying5 cells5 hf with ⟨hcs, hx⟩ | ⟨a, len, cap, zs, hcs, _, hl, hm, hz, hx, hcell, hwz⟩
  · simp [Value.cells] at hcs
    obtain ⟨rfl, rfl, rfl⟩ := hcs
    refine ⟨[], none, 0, rfl, fun x hx => by simp at hx, Src.nil W, fun _ => rfl, ?_⟩
    exact Or.inl rfl
  · simp [Value.cells] at hcs
    obtain ⟨rfl, rfl, rfl⟩ := hcs
    have hzl : zs.length = cap0 := by simpa using hz
    have hll : (zs.take len0).length = len0 := by rw [List.length_take]; omega
    refine ⟨zs.take len0, some a, cap0, by rw [hll], fun x hx => ?_, ⟨by rw [hll]; exact hl, hm, ?_⟩, (fun h => by cases h), ?_⟩
    · have := bounds_u8 (hwz x (List.mem_of_mem_take hx))
      omega
    · rw [hll]
      by_cases hL : 0 < len0
      · have hc0 := hcell 0 (by omega)
        have hsp : a.spot = none := by have := World.cell?_spot hc0; unfold Addr.add at this; split at this <;> simp_all
        obtain ⟨b, o, spot⟩ := a
        obtain rfl : spot = none := hsp
        refine ⟨b, o, fun _ => by have := block_lt_of_cell hc0; rwa [Addr.add_mid] at this, fun _ => rfl, fun j hj => ?_⟩
        have := hcell j (by omega)
        rw [Addr.add_mid] at this
        rw [this]
        congr 2
        simp [List.getElem?_take, hj]
      · exact ⟨0, 0, fun h => by omega, fun h => by omega, fun j hj => by omega⟩
    · simp only [Prod.mk.injEq] at hx
      exact Or.inr ⟨_, _, hx.1, by simp [lits]⟩
theorem reach_len {zs : List Int} {n : Nat} (h : zs.length = 0 ∨ zs.length = n) (hn : n ≤ 140737488351232) : zs.length ≤ 140737488355000 := by omega
end Go.Proofs.Ytpemmlfooknlnaa
namespace Go.Proofs.Ytpemmlfooknlnaa
set_option linter.unusedVariables false
set_option linter.unusedSimpArgs false
open Go.ChangeShapes Go.WideShapes Go.ChangeAt Go.RowKit

/-- No slice in it is beyond the reach. -/
def WS {H : Type} (t : TypeId) (d : DataW H) : Prop := ∀ n ∈ d.weights Try.prog t, n ≤ reachBytes
theorem weightsAll_mem {H : Type} {P : Program} {e : TypeId} : ∀ {l : List (DataW H)} {d : DataW H}, d ∈ l → ∀ n ∈ d.weights P e, n ∈ DataW.weightsAll P e l
  | x :: l, d, hd, n, hn => by
    simp only [DataW.weightsAll, List.mem_append]
    rcases List.mem_cons.1 hd with rfl | h
    · exact Or.inl hn
    · exact Or.inr (weightsAll_mem h n hn)
theorem WS.slice {H : Type} {t e : TypeId} {el sp : List (DataW H)} (hu : Try.prog.underlying t = some (.slice e)) (h : WS t (.slice el sp)) : (el.length + sp.length) * Try.prog.bytesOf e ≤ reachBytes ∧ ∀ d ∈ el, WS e d :=
  ⟨h _ (by simp [DataW.weights, hu]), fun d hd n hn => h n (by
    simp only [DataW.weights, hu, List.mem_cons, List.mem_append]
    exact Or.inr (Or.inl (weightsAll_mem hd n hn)))⟩
theorem WS.field {H : Type} {t : TypeId} {fs : Array Field} {ds : List (DataW H)} (hu : Try.prog.underlying t = some (.struct fs)) (h : WS t (.agg ds)) {j : Nat} {f : Field} {d : DataW H} (hf : fs[j]? = some f) (hd : ds[j]? = some d) : WS f.type d :=
  fun n hn => h n (by
    simp only [DataW.weights, hu]
    exact DataW.weights_mem_each (by rw [List.getElem?_map]; simp [hf]) hd n hn)
section
variable {H : Type} {enc : TypeId × Value → H} {W : World}
set_option maxRecDepth 100000 in
theorem open_bytesN {fuel : Nat} {v : Value} {d : DataW H} {p : List MemPlace} (hw : WS 48 d) (hf : DataW.trod enc Try.prog W 0 (fun _ => true) true fuel 48 [v] = some (d, p)) :
    ∃ (zs : List Int) (sp : Option Addr) (cap : Nat), v = .slice sp zs.length cap ∧ Byts zs ∧ Src W sp cap zs ∧ (sp = none → cap = 0) ∧ zs.length ≤ 140737488351232 := by
  rcases open_ints Try.underlying48 Try.underlying5 cells5 hf with ⟨hcs, hx⟩ | ⟨a, len, cap, zs, hcs, _, hl, hm, hz, hx, hcell, hwz⟩
  · simp at hcs
    subst hcs
    exact ⟨[], none, 0, rfl, fun x hx => by simp at hx, Src.nil W, fun _ => rfl, by simp⟩
  · simp at hcs
    subst hcs
    have hzl : zs.length = cap := by simpa using hz
    have hll : (zs.take len).length = len := by rw [List.length_take]; omega
    refine ⟨zs.take len, some a, cap, by rw [hll], fun x hx => ?_, ⟨by rw [hll]; exact hl, hm, ?_⟩, (fun h => by cases h), ?_⟩
    · have := bounds_u8 (hwz x (List.mem_of_mem_take hx))
      omega
    · rw [hll]
      by_cases hL : 0 < len
      · have hc0 := hcell 0 (by omega)
        have hsp : a.spot = none := by have := World.cell?_spot hc0; unfold Addr.add at this; split at this <;> simp_all
        obtain ⟨b, o, spot⟩ := a
        obtain rfl : spot = none := hsp
        refine ⟨b, o, fun _ => by have := block_lt_of_cell hc0; rwa [Addr.add_mid] at this, fun _ => rfl, fun j hj => ?_⟩
        have := hcell j (by omega)
        rw [Addr.add_mid] at this
        rw [this]
        congr 2
        simp [List.getElem?_take, hj]
      · exact ⟨0, 0, fun h => by omega, fun h => by omega, fun j hj => by omega⟩
    · rw [hll]
      simp only [Prod.mk.injEq] at hx
      rw [hx.1] at hw
      have := (hw.slice Try.underlying48).1
      rw [Try.bytes5] at this
      simp [lits, reachBytes] at this
      omega
theorem cellsF : Try.prog.cellsOf 65 = 2 := by kernel_rfl
theorem cellsBy : Try.prog.cellsOf 48 = 1 := by kernel_rfl
theorem cells3 : Try.prog.cellsOf 3 = 1 := by kernel_rfl
set_option maxRecDepth 100000 in
theorem open_mades {fuel : Nat} {v : Value} {d : DataW H} {p : List MemPlace} (hw : WS 22 d) (hf : DataW.trod enc Try.prog W 0 (fun _ => true) true fuel 22 [v] = some (d, p)) :
    ∃ (ac : List MD) (sp : Option Addr) (cap : Nat), v = .slice sp ac.length cap ∧ Mds W W.heap.size sp ac ∧ (∀ c ∈ ac, MdOk c) ∧ ac.length ≤ cap ∧ cap ≤ 9223372036854775807 := by
  rcases Deep.open_slice Try.underlying22 hf with ⟨hcs, hx⟩ | ⟨a, len, cap, m, n, D, Pl, hcs, _, hl, hm, hmm, hx, hrow⟩
  · simp at hcs
    subst hcs
    exact ⟨[], none, 0, rfl, ⟨0, 0, fun h => by simp at h, fun i hi => by simp at hi⟩, fun c hc => by simp at hc, by decide, by decide⟩
  · simp at hcs
    subst hcs
    simp only [Prod.mk.injEq] at hx
    obtain ⟨rfl, _⟩ := hx
    simp only [if_true] at hmm
    subst hmm
    obtain ⟨w1, w2⟩ := hw.slice Try.underlying22
    have each : ∀ i, i < len → ∃ q : MD, (∃ tp tc, (∀ j u, (mdL q tp tc)[j]? = some u → W.cell? (a.add (i * 2 + j)) = some u) ∧ Src W tp tc q.load ∧ (0 < q.load.length → ∀ x, tp = some x → x.block < W.heap.size)) ∧ MdOk q := by
      intro i hi
      obtain ⟨cs', h1, h2⟩ := hrow i (by omega)
      rw [cellsF] at h1
      obtain ⟨_, hlen, hcell⟩ := World.cells?_some h1
      obtain ⟨xs, k, hk, hxy, _, hxl, hfd⟩ := DataW.trod_struct Try.underlying65 h2
      have hd := w2 (D i) (List.mem_map.2 ⟨i, List.mem_range.2 hi, rfl⟩)
      have hxl' : xs.length = 2 := hxl
      simp only [Prod.mk.injEq] at hxy
      rw [hxy.1] at hd
      have g0 : DataW.trod enc Try.prog W 0 (fun _ => true) true k 3 ((cs'.drop 0).take 1) = some xs[0] := by
        have := hfd 0 _ rfl
        rw [List.getElem?_eq_getElem (by omega)] at this
        change DataW.trod enc Try.prog W 0 (fun _ => true) true k 3 ((cs'.drop 0).take (Try.prog.cellsOf 3)) = _ at this
        rw [cells3] at this; exact this
      have g2 : DataW.trod enc Try.prog W 0 (fun _ => true) true k 48 ((cs'.drop 1).take 1) = some xs[1] := by
        have := hfd 1 _ rfl
        rw [List.getElem?_eq_getElem (by omega)] at this
        change DataW.trod enc Try.prog W 0 (fun _ => true) true k 48 ((cs'.drop 1).take (Try.prog.cellsOf 48)) = _ at this
        rw [cellsBy] at this; exact this
      obtain ⟨z0, e0, _, b0⟩ := DataW.trod_int Try.underlying3 g0
      have e2 : ∃ sv, (cs'.drop 1).take 1 = [sv] := by
        rw [List.take_one, List.head?_drop, List.getElem?_eq_getElem (by omega)]; exact ⟨_, rfl⟩
      obtain ⟨sv, e2⟩ := e2
      rw [e2] at g2
      have hws : WS 48 (xs[1]).1 := hd.field Try.underlying65 (j := 1) rfl (by rw [List.getElem?_map, List.getElem?_eq_getElem (by omega)]; rfl)
      obtain ⟨val, sp, cap', e3, yv, hS, hnil, hvl⟩ := open_bytesN (d := (xs[1]).1) (p := (xs[1]).2) hws g2
      subst e3
      have hcs : cs' = [.int .i64 z0, .slice sp val.length cap'] := by
        have key : ∀ c : List Value, c.length = 2 → (c.drop 0).take 1 = [.int .i64 z0] → (c.drop 1).take 1 = [.slice sp val.length cap'] → c = [.int .i64 z0, .slice sp val.length cap'] := by
          intro c hc q0 q2
          match c, hc with
          | [x0, x2], _ =>
            simp at q0 q2
            rw [q0, q2]
        exact key cs' hlen e0 e2
      refine ⟨⟨z0, val⟩, ⟨sp, cap', fun j u hu => ?_, hS, fun hp x hx => ?_⟩, yv, by show val.length ≤ _; omega⟩
      · have hu2 : cs'[j]? = some u := by rw [hcs]; exact hu
        have hj := (List.getElem?_eq_some_iff.1 hu2).1
        have := hcell j (by omega)
        rw [Deep.add_add] at this
        rw [this, hu2]
      · obtain ⟨_, _, b, o, h3, h4, _⟩ := hS
        rw [h4 hp] at hx; cases hx; exact h3 hp
    haveI : Inhabited MD := ⟨dM⟩
    obtain ⟨q, hq⟩ := Deep.choose_lt (α := MD) each
    have gm : ∀ i, i < len → ((List.range len).map q).getD i dM = q i := fun i hi => by simp [hi]
    have hlen : ((List.range len).map q).length = len := by simp
    have okc : ∀ c ∈ (List.range len).map q, MdOk c := fun c hc => by
      obtain ⟨i, hi, rfl⟩ := List.mem_map.1 hc
      exact (hq i (List.mem_range.1 hi)).2
    have hmx : (len : Int) ≤ 9223372036854775807 := by unfold maxLen at hm; omega
    by_cases hz : 0 < len
    · obtain ⟨tp, tc, c0, _⟩ := (hq 0 hz).1
      have c00 := c0 0 _ rfl
      have hsp : a.spot = none := by
        have := World.cell?_spot c00
        unfold Addr.add at this; split at this <;> simp_all
      obtain ⟨b, o, spot⟩ := a
      obtain rfl : spot = none := hsp
      have hblk : b < W.heap.size := by
        have := block_lt_of_cell c00; rwa [Addr.add_mid] at this
      refine ⟨(List.range len).map q, some ⟨b, o, none⟩, m, by rw [hlen], ⟨b, o, fun _ => ⟨hblk, rfl⟩, fun i hi => ?_⟩, okc, by rw [hlen]; exact hl, by unfold maxLen at hm; omega⟩
      rw [hlen] at hi
      rw [gm i hi]
      obtain ⟨tp, tc, e1, e2, e3⟩ := (hq i hi).1
      refine ⟨tp, tc, fun j u hu => ?_, e2, e3⟩
      have := e1 j u hu
      rw [Addr.add_mid, ← Nat.add_assoc] at this
      exact this
    · exact ⟨(List.range len).map q, some a, m, by rw [hlen], ⟨0, 0, fun h => by rw [hlen] at h; omega, fun i hi => by rw [hlen] at hi; omega⟩, okc, by rw [hlen]; exact hl, by unfold maxLen at hm; omega⟩
end
end Go.Proofs.Ytpemmlfooknlnaa
namespace Go.Proofs.Ytpemmlfooknlnaa
set_option linter.unusedVariables false
set_option linter.unusedSimpArgs false
open Go.ChangeShapes Go.WideShapes Go.ChangeAt Go.RowKit

set_option maxRecDepth 100000 in
theorem storeForgets_contract (H : Type) (enc : TypeId × Value → H) (W : World) (base : Nat) (args : Array Value) (ds gs : List (DataW H)) (before : List MemPlace)
    (hval : ∀ (j : Nat) t v, Try.f3.params[j]? = some t → args[j]? = some v → Value.okWide Try.prog W .any base t v)
    (hW : DataW.Whole enc Try.prog Try.f3.params.toList Rows.storeForgetsSpec.vars false W args.toList ds gs before)
    (hsz : (DataW.weightsEach Try.prog (Try.f3.params.toList ++ Rows.storeForgetsSpec.plain.varTypes Try.prog) (ds ++ gs)).all (· ≤ reachBytes) = true) :
    Calls Try.prog 3 args W fun e W' => ∃ v, e = .returned v ∧ Rows.storeForgetsSpec.post enc Try.prog Try.f3 false true false false W args v W' := by
  have hW' := hW
  obtain ⟨p, q, hA0, hV, rfl, hfz, hnd⟩ := hW
  have hA : DataW.TrodAll enc Try.prog W 0 (fun _ => true) true Try.f3.params.toList args.toList ds p := hA0
  rw [Try.params3] at hA hval hsz
  obtain ⟨v0, vs0, d0, ds0, p0, q0, hargs, rfl, rfl, h0, r0⟩ := trodAll_cons hA
  obtain ⟨v1, vs1, d1, ds1, p1, q1, rfl, rfl, rfl, h1, r1⟩ := trodAll_cons r0
  obtain ⟨v2, vs2, d2, ds2, p2, q2, rfl, rfl, rfl, h2, r2⟩ := trodAll_cons r1
  obtain ⟨v3, vs3, d3, ds3, p3, q3, rfl, rfl, rfl, h3, r3⟩ := trodAll_cons r2
  obtain ⟨v4, vs4, d4, ds4, p4, q4, rfl, rfl, rfl, h4, r4⟩ := trodAll_cons r3
  obtain ⟨rfl, rfl, rfl⟩ := trodAll_nil r4
  obtain rfl : args = #[v0, v1, v2, v3, v4] := by cases args; simp_all
  obtain ⟨rfl, rfl⟩ := trodVars_none hV
  have k0 := h0
  have lt0 : ∀ x ∈ p0, x.block < W.heap.size := by obtain ⟨m, hm⟩ := k0; exact DataW.trod_lt m _ _ _ hm
  have k1 := h1
  have lt1 : ∀ x ∈ p1, x.block < W.heap.size := by obtain ⟨m, hm⟩ := k1; exact DataW.trod_lt m _ _ _ hm
  have k2 := h2
  have lt2 : ∀ x ∈ p2, x.block < W.heap.size := by obtain ⟨m, hm⟩ := k2; exact DataW.trod_lt m _ _ _ hm
  have k3 := h3
  have lt3 : ∀ x ∈ p3, x.block < W.heap.size := by obtain ⟨m, hm⟩ := k3; exact DataW.trod_lt m _ _ _ hm
  have ws3 : WS 22 d3 := fun n hn => by
    have := List.all_eq_true.1 hsz n (DataW.weights_mem_each (j := 3) rfl rfl n hn)
    simpa using this
  have k4 := h4
  have lt4 : ∀ x ∈ p4, x.block < W.heap.size := by obtain ⟨m, hm⟩ := k4; exact DataW.trod_lt m _ _ _ hm
  obtain ⟨a0, rfl, rfl, rfl, wf0⟩ := open_int Try.underlying3 (hval 0 3 v0 rfl rfl) h0
  have bd0 := bounds_i64 wf0
  obtain ⟨a1, rfl, rfl, rfl, wf1⟩ := open_int Try.underlying3 (hval 1 3 v1 rfl rfl) h1
  have bd1 := bounds_i64 wf1
  obtain ⟨a2, rfl, rfl, rfl, wf2⟩ := open_int Try.underlying3 (hval 2 3 v2 rfl rfl) h2
  have bd2 := bounds_i64 wf2
  obtain ⟨a3x, len3x, cap3x, rfl⟩ := okWide_slice Try.underlying22 (hval 3 22 v3 rfl rfl)
  obtain ⟨fuel3, hf3⟩ := h3
  change DataW.trod enc Try.prog W 0 (fun _ => true) true fuel3 22 [Value.slice a3x len3x cap3x] = some (d3, p3) at hf3
  obtain ⟨vv3, hvv3⟩ : ∃ vv, vv = Value.slice a3x len3x cap3x := ⟨_, rfl⟩
  rw [← hvv3] at hf3 k3 hval hA0 hW' ⊢
  clear hvv3
  obtain ⟨ms3, sp3, cap3, rfl, hS3, ok3, hl3, hcp3⟩ := open_mades ws3 hf3
  obtain ⟨a4, rfl, rfl, rfl, wf4⟩ := open_int Try.underlying3 (hval 4 3 v4 rfl rfl) h4
  have bd4 := bounds_i64 wf4
  clear hA0
  refine (storeForgets_any W a0 a1 a2 sp3 cap3 ms3 hS3 (fun i hi => ok3 _ (by rw [List.getD_eq_getElem?_getD, List.getElem?_eq_getElem hi]; exact List.getElem_mem hi)) hl3 hcp3 a4).mono fun e W' ⟨he, bel⟩ => ?_
  subst he
  exact ⟨_, rfl, _, _, _, [], _, [], hW', trodAll_mk1 (shut_bool Try.underlying4 _), (trodAll_cons_mk (Below.trod Try.laidOut (by kernel_rfl) (of_decide_eq_true (by kernel_rfl)) k0 bel lt0) (trodAll_cons_mk (Below.trod Try.laidOut (by kernel_rfl) (of_decide_eq_true (by kernel_rfl)) k1 bel lt1) (trodAll_cons_mk (Below.trod Try.laidOut (by kernel_rfl) (of_decide_eq_true (by kernel_rfl)) k2 bel lt2) (trodAll_cons_mk (Below.trod Try.laidOut (by kernel_rfl) (of_decide_eq_true (by kernel_rfl)) k3 bel lt3) (trodAll_cons_mk (Below.trod Try.laidOut (by kernel_rfl) (of_decide_eq_true (by kernel_rfl)) k4 bel lt4) trodAll_mk0))))), rfl, bel.frame _, fun h => by cases h⟩

theorem storeForgets_reads (os : Os) {H : Type} (enc : TypeId × Value → H) : ∃ places, DataW.whole enc Try.prog ((World.holding Try.prog os ⟨#[], #[], []⟩).forCall (fun _ _ => 0) ⟨#[], #[.int .i64 0, .int .i64 0, .int .i64 0, .slice none 0 0, .int .i64 0], []⟩).memory Try.f3.params.toList Rows.storeForgetsSpec.vars false (#[.int .i64 0, .int .i64 0, .int .i64 0, .slice none 0 0, .int .i64 0] : Array Value).toList 8 = some ([.lit (.int .i64 0), .lit (.int .i64 0), .lit (.int .i64 0), .nil, .lit (.int .i64 0)], [], places) :=
  ⟨[], by kernel_rfl⟩
set_option maxRecDepth 100000 in
theorem storeForgets_lifted (os : Os) (started : os.Started) (H : Type) (enc : TypeId × Value → H) (F : Stop.Interp) :
    ReturnsInHanded {} Try.checked os 3 .any ((OpenSpec.ofChange Rows.storeForgetsSpec).preRow enc Try.prog Try.f3 Rows.storeForgetsRow.domain false Rows.storeForgetsRow.laid) (((OpenSpec.ofChange Rows.storeForgetsSpec).at F).post enc Try.prog Try.f3 false true false false) := by
  obtain ⟨places, hx⟩ := storeForgets_reads os enc
  refine returnsInHanded_of_row (C := Try.checked) (s := OpenSpec.ofChange Rows.storeForgetsSpec) own_knob started (by kernel_rfl) Try.func3
    (witness_row_at (enc := enc) (C := Try.checked) false (World.holding Try.prog os ⟨#[], #[], []⟩) #[.int .i64 0, .int .i64 0, .int .i64 0, .slice none 0 0, .int .i64 0] rfl (by kernel_rfl) (by kernel_rfl) (by kernel_rfl)
      (OpenSpec.preRow_of_cond 8 hx (by kernel_rfl) (fun k hk => by cases hk) (by kernel_rfl) (laidMet_of_run' 8 (by kernel_rfl) (by kernel_rfl)))) ?_
  intro W base args ds gs before hval hW _ _ hsz hL _ _
  exact storeForgets_contract H enc W base args ds gs before hval hW hsz

theorem storeForgets_holds : Rows.StoreForgetsSaid :=
  OpenClaim.holds_of_cond 3 Try.f3 rfl rfl rfl rfl rfl rfl rfl ⟨rfl, rfl, rfl, rfl, rfl⟩ rfl rfl rfl rfl rfl (by kernel_rfl) Try.func3 (by kernel_rfl)
    (of_decide_eq_true (by kernel_rfl)) (by unfold Func.isWrapper; first | (rw [if_pos (by decide +kernel)]; kernel_rfl) | (rw [if_neg (by decide +kernel)]; exact ⟨rfl, rfl⟩))
    (fun os started H enc _ F => by rw [OpenClaim.pre_eq_preRow]; exact storeForgets_lifted os started H enc F)
#print axioms storeForgets_holds
end Go.Proofs.Ytpemmlfooknlnaa
