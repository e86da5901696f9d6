import Derived.Test.YtbnghhgeoodphaaGreatDoorIh1
import Derived.Deep.DeepCutAuto
import Derived.Maps.RangeWalk
namespace Go.Proofs.YtbnghhgeoodphaaGreatDoor
set_option maxRecDepth 100000
set_option maxHeartbeats 40000000
set_option linter.unusedVariables false
set_option linter.unusedSimpArgs false
open Go.RowKit
open Go.Proofs.YtbnghhgeoodphaaGreatDoor.Ca (Ct ct0 ctC argV AS)
attribute [local go_sem ↓] Go.wp_at_zero Go.wp_at_succ
theorem finds_any (w : World) (base : Nat) (S : Sto) (first : Int) (T : Nat) (xs : List IR) (hok : ChOk first T xs) (hn1 : 1 <= xs.length) (b0 c : Nat) (rv pv : Value) (h : Cn w base S (chP first T xs) b0 c rv pv (recsOf first T xs) (pgsOf T xs.length)) (hG : Glob w) (hB : 2 <= base) (wd : Int) (s0 : Sd) (hs0 : NpS S s0) (hwd : s0.s.wd = wd) (sp : Option Addr) (cap : Nat) (asks : List Ak) (hS : SrcA base w sp asks) (hak : ∀ x ∈ asks, AkOk x) (hal : 16 * asks.length <= 140737488351232) (hb0 : b0 + 400 * asks.length <= 99999999999999000) :
   Calls Tryz.prog 10 #[.pointer (some ⟨c, 0, none⟩), .int .i64 first, .int .i64 wd, .slice sp asks.length cap] w fun e w' => ∃ S' b', e = .returned (.bool true) /\ Cn w' base S' (chP first T xs) b' c rv pv (recsOf first T xs) (pgsOf T xs.length) /\ S'.st = S.st /\ NpS S' s0 /\ b' <= b0 + 400 * asks.length /\ Below base w w' := by
 obtain ⟨gp, pc, hpv, _, hp1, hp2⟩ := h.page 0 (by rw [pgsOf_len]; omega)
 rw [pgsOf_len] at hpv hp1
 obtain ⟨gr, rc, hrv, _, hr1, hr2⟩ := h.rec' (recsOf_ok hok) 0 (by rw [recsOf_len]; omega)
 rw [recsOf_len] at hrv hr1
 subst hpv hrv
 obtain ⟨st, hst⟩ : ∃ st, S.st = st := ⟨_, rfl⟩
 have hn4 := hok.n4
 have hni : (xs.length : Int) <= 4000 := by omega
 have hni1 : 1 <= (xs.length : Int) := by omega
 have hali : (asks.length : Int) <= 140737488351232 := by omega
 have HOK := hid hok
 have HC0 := hid h
 have HST0 := hid hst
 have HSS0 := hid hs0
 have HWD := hid hwd
 have HGL := hid hG
 have HBB := hid hB
 have HSA := hid hS
 have HAK := hid hak
 have HB0 := hid hb0
 have HN1 := hid hn1
 have hf0 := hok.f0
 have hf1 := hok.f1
 have HSZ := hid (And.intro (And.intro hp1 hp2) (And.intro hr1 hr2))
 have hbase := hid h.ls.sk.base
 clear h hok hst hwd hs0 hG hB hS hak hb0 hn1 hal hp1 hp2 hr1 hr2
 go_enter Tryz.func10, Tryz.ntmps10
 go_wp2
 go_loopw [9] (fun i w' => ∃ (k : Nat) (S' : Sto) (b' : Nat), k <= asks.length /\ i = .int .i64 k /\ Cn w' base S' (chP first T xs) b' c (.slice (some ⟨gr, 0, none⟩) xs.length rc) (.slice (some ⟨gp, 0, none⟩) xs.length pc) (recsOf first T xs) (pgsOf T xs.length) /\ S'.st = st /\ NpS S' s0 /\ Below base w w' /\ b' <= b0 + 400 * k) (fun i _ => asks.length - (intOf i).toNat)
 case atStart => exact ⟨0, S, b0, by omega, rfl, HC0.out, HST0.out, HSS0.out, Below.refl _ _, by omega⟩
 case round =>
   obtain ⟨k, S', b', hk, rfl, hC, hs, hss, hbl, hb'⟩ := hrel
   have HC := hid hC
   have HST := hid hs
   have HSS := hid hss
   have HBL := hid hbl
   have HB' := hid hb'
   clear hC hs hss hbl hb' HC0
   by_cases hk2 : k < asks.length
   · as_aux_lemma =>
     have i1 : (k : Int) < (asks.length : Int) := by omega
     obtain ⟨ab, ao, qa, qb, qc⟩ := HSA.out.below HBL.out
     have hsp := qb (by omega)
     subst hsp
     have hkA := qc k hk2
     have hxo : AkOk (asks.getD k dAk) := HAK.out _ (by rw [List.getD_eq_getElem?_getD, List.getElem?_eq_getElem hk2]; exact List.getElem_mem _)
     have hak0 : wr.cell? ⟨ab, ao + k * 2, none⟩ = some (.int .i64 (asks.getD k dAk).h) := hkA 0 _ rfl
     have hak1 : wr.cell? ⟨ab, ao + k * 2 + 1, none⟩ = some (.int .i64 (asks.getD k dAk).v) := hkA 1 _ rfl
     obtain ⟨ah, hah⟩ : ∃ a, (asks.getD k dAk).h = a := ⟨_, rfl⟩
     obtain ⟨av, hav⟩ : ∃ a, (asks.getD k dAk).v = a := ⟨_, rfl⟩
     obtain ⟨xo1, xo2⟩ := hxo
     rw [hah] at hak0 xo1
     rw [hav] at hak1 xo2
     clear qa qb qc hkA hah hav
     have KW1 := hid (fun w1 => hwrapped_any w1 ah xo1 xs.length HN1.out (by omega))
     have XO2 := hid xo2
     clear xo1 xo2
     have HZ := hid (RZ.start HC.out)
     have AK1 := hid hak1
     have ZA : Hid (wr.drew.cell? ⟨ab, ao + k * 2, none⟩ = some (.int .i64 ah) /\ wr.drew.cell? ⟨c, 1, none⟩ = some (.slice (some ⟨gr, 0, none⟩) xs.length rc)) := hid ⟨hak0, HC.out.c1⟩
     clear hak0 hak1
     go_upto_region 4 with fail
     refine wp_region_noPanic ?_
     refine wp_region_held_drew (S := fun w' => w'.cell? ⟨ab, ao + k * 2, none⟩ = some (.int .i64 ah) /\ w'.cell? ⟨c, 1, none⟩ = some (.slice (some ⟨gr, 0, none⟩) xs.length rc)) (by kernel_rfl) ZA.out (fun hHeld => ?_)
     refine tkA 0 (.slice (some ⟨ab, ao, none⟩) asks.length cap) rfl hHeld ?_
     try go_frame
     refine tkA 1 (.int .i64 (k : Int)) rfl hHeld ?_
     try go_frame
     refine tkA 5 (.pointer (some ⟨c, 0, none⟩)) rfl hHeld ?_
     try go_frame
     refine tkA 2 (.pointer (some ⟨ab, ao + k * 2, none⟩)) rfl hHeld ?_
     try go_frame
     refine tkA 6 (.pointer (some ⟨c, 0, none⟩)) rfl hHeld ?_
     try go_frame
     refine tkA 3 (.pointer (some ⟨ab, ao + k * 2, none⟩)) rfl hHeld ?_
     try go_frame
     refine tkA 7 (.pointer (some ⟨c, 1, none⟩)) rfl hHeld ?_
     try go_frame
     refine tqA 4 (.int .i64 ah) rfl (yA (by intro w hS; have hc := hS.1; go_simp)) hHeld ?_
     try go_frame
     refine tqA 8 (.slice (some ⟨gr, 0, none⟩) xs.length rc) rfl (yA (by intro w hS; have hc := hS.2; go_simp)) hHeld ?_
     try go_frame
     refine tkA 9 (.int .i64 (xs.length : Int)) rfl hHeld ?_
     try go_frame
     refine rdA 10 rfl (fun K hK => ?_)
     go_simp
     go_at_call 12
     refine (KW1.out _).mono ?_
     rintro e W4 ⟨hh, hhl, rfl, rfl⟩
     have HHL := hid hhl
     clear hhl
     go_wp2_with fail
     refine hK.out _ _ (ZA.out) ?_
     clear hK K hHeld
     intro hHeld
     try go_frame
     refine tkA 11 (.int .i64 (hh : Int)) rfl hHeld ?_
     try go_frame
     refine wdA ?_
     clear hHeld ZA KW1
     have hh1 : (hh : Int) < (xs.length : Int) := by have := HHL.out; omega
     have AK1d : wr.drew.cell? ⟨ab, ao + k * 2 + 1, none⟩ = some (.int .i64 av) := AK1.out
     have KW2 := hid (fun w1 => hwrapped_any w1 av XO2.out (hh + 1) (by omega) (by have := HHL.out; omega))
     rw [show ((hh + 1 : Nat) : Int) = (hh : Int) + 1 by push_cast; rfl] at KW2
     go_wp2_with fail
     refine (KW2.out _).mono ?_
     rintro e w' ⟨vv, hvv, rfl, rfl⟩
     have hvh : vv <= hh := by omega
     have hv1 : (vv : Int) < (xs.length : Int) := by omega
     have HVH := hid hvh
     have HZd := hid HZ.out.drew
     clear KW2 AK1d AK1 HZ hvv
     have HZ := HZd
     clear HZd
     obtain ⟨nn, fn1, fn2, fn3, fn4, fn5⟩ := find_chain HOK.out hh vv hvh HHL.out
     have FA := find_above HOK.out hh HHL.out
     have FB := find_below HOK.out hh HHL.out
     have FZ := find_null HOK.out hh HHL.out
     have BD := fun (w1 : World) (S1 : Sto) (b1 : Nat) (hl : Ls w1 base S1 (chP first T xs) b1) (hb : b1 <= 1000000000000000000) => ibounds_any w1 base S1 (chP first T xs) b1 hl hb (pgN T (hh + 1)) _ (HOK.out.stands hh HHL.out)
     have sx := fun (S1 : Sto) (b1 : Nat) (L1 : List (Nat × List Value × Nat)) (W1 : World) (hz : RZ wr base S' S1 (chP first T xs) b1 c (.slice (some ⟨gr, 0, none⟩) xs.length rc) (.slice (some ⟨gp, 0, none⟩) xs.length pc) (recsOf first T xs) (pgsOf T xs.length) L1 W1) => RZ.sx HOK.out hz HST.out hh vv HHL.out (by have := HHL.out; omega)
     have sy := fun (S1 : Sto) (b1 : Nat) (L1 : List (Nat × List Value × Nat)) (W1 : World) (hz : RZ wr base S' S1 (chP first T xs) b1 c (.slice (some ⟨gr, 0, none⟩) xs.length rc) (.slice (some ⟨gp, 0, none⟩) xs.length pc) (recsOf first T xs) (pgsOf T xs.length) L1 W1) => RZ.sx HOK.out hz HST.out hh hh HHL.out HHL.out
     have hpb : 2 <= pgN T (hh + 1) /\ pgN T (hh + 1) <= 5000 := by have := HOK.out.T8; have := HHL.out; unfold pgN; rw [if_neg (by omega)]; omega
     have hrr : RcOk (recN first T (vv + 1) (xs.getD vv dIR)) := ⟨(HOK.out.at vv (by have := HHL.out; omega)).sm⟩
     have hvb : verN first (hh + 1) <= 1073741824 /\ 1 <= verN first (hh + 1) := ⟨by unfold verN; split <;> omega, (verN_pos hf0 _ (by omega)).1⟩
     generalize hR : recN first T (vv + 1) (xs.getD vv dIR) = R at *
     have qX := eqRc R hrr
     have gR := Tryz.guardRc
     obtain ⟨C0, hC0⟩ : ∃ C0, rcC rc0 = C0 := ⟨_, rfl⟩
     have ARc := hid allocRc
     rw [hC0] at ARc
     have LC0' := hid (show C0.length = 38 by rw [<- hC0]; exact rcC_len rc0_ok)
     have LCR' := hid (rcC_len hrr)
     have OCR := hid (rcC_one R)
     have SCR := hid (show (Tryz.prog.info? 49).map (·.size) = some (rcC R).toArray.size by rw [Tryz.sizeRc, List.size_toArray, rcC_len hrr])
     have SCRl := hid (show (Tryz.prog.info? 49).map (·.size) = some (rcC R).length by rw [Tryz.sizeRc, rcC_len hrr])
     have LCR := hid (show C0.toArray.size = (rcC R).toArray.size by rw [List.size_toArray, List.size_toArray, LC0'.out, LCR'.out])
     have SC0 := hid (show (Tryz.prog.info? 49).map (·.size) = some C0.toArray.size by rw [Tryz.sizeRc, List.size_toArray, LC0'.out])
     have OC0 := hid (show ∀ y ∈ C0, y.oneCell' = true by rw [<- hC0]; exact rcC_one rc0)
     rw [hC0] at FA FB
     generalize hCR : rcC R = CR at *
     generalize hver : verN first (vv + 1) = ver at *
     generalize hhv : verN first (hh + 1) = hv at *
     generalize hpq : pgN T (hh + 1) = pq at *
     obtain ⟨hpb1, hpb2⟩ := hpb
     obtain ⟨hvb1, hvb2⟩ := hvb
     have KSX : Hid (∀ (S1 : Sto) (b1 : Nat) (L1 : List (Nat × List Value × Nat)) (W1 : World), RZ wr base S' S1 (chP first T xs) b1 c (.slice (some ⟨gr, 0, none⟩) xs.length rc) (.slice (some ⟨gp, 0, none⟩) xs.length pc) (recsOf first T xs) (pgsOf T xs.length) L1 W1 -> Sx c st gr gp xs.length rc pc hh vv pq ver CR W1) := hid (fun S1 b1 L1 W1 hz => sx S1 b1 L1 W1 hz)
     have KHV : Hid (∀ (S1 : Sto) (b1 : Nat) (L1 : List (Nat × List Value × Nat)) (W1 : World), RZ wr base S' S1 (chP first T xs) b1 c (.slice (some ⟨gr, 0, none⟩) xs.length rc) (.slice (some ⟨gp, 0, none⟩) xs.length pc) (recsOf first T xs) (pgsOf T xs.length) L1 W1 -> W1.cell? ⟨gr, hh * 38, none⟩ = some (.int .i64 hv)) := hid (fun S1 b1 L1 W1 hz => (sy S1 b1 L1 W1 hz).2.2.2.2.1)
     have est : ∀ (S1 : Sto) (b1 : Nat) (L1 : List (Nat × List Value × Nat)) (W1 : World), RZ wr base S' S1 (chP first T xs) b1 c (.slice (some ⟨gr, 0, none⟩) xs.length rc) (.slice (some ⟨gp, 0, none⟩) xs.length pc) (recsOf first T xs) (pgsOf T xs.length) L1 W1 -> S1.st = st := fun S1 b1 L1 W1 hz => hz.lc.sp.st.trans HST.out
     have KF1 : Hid (∀ (S1 : Sto) (b1 : Nat) (L1 : List (Nat × List Value × Nat)) (W1 : World), RZ wr base S' S1 (chP first T xs) b1 c (.slice (some ⟨gr, 0, none⟩) xs.length rc) (.slice (some ⟨gp, 0, none⟩) xs.length pc) (recsOf first T xs) (pgsOf T xs.length) L1 W1 -> b1 <= 100000000000000000 -> Calls Tryz.prog 15 #[.pointer (some ⟨st, 0, none⟩), .int .i64 pq, .int .i64 ver] W1 (FindP W1 base S1 (chP first T xs) (b1 + 79) CR nn 0)) := hid (fun S1 b1 L1 W1 hz hb => by have := fn5 W1 base S1 b1 hz.lc.ls hb; rw [est _ _ _ _ hz] at this; exact this)
     have KF2 : Hid (∀ (S1 : Sto) (b1 : Nat) (L1 : List (Nat × List Value × Nat)) (W1 : World), RZ wr base S' S1 (chP first T xs) b1 c (.slice (some ⟨gr, 0, none⟩) xs.length rc) (.slice (some ⟨gp, 0, none⟩) xs.length pc) (recsOf first T xs) (pgsOf T xs.length) L1 W1 -> b1 <= 100000000000000000 -> Calls Tryz.prog 15 #[.pointer (some ⟨st, 0, none⟩), .int .i64 pq, .int .i64 (hv + 1)] W1 (FindP W1 base S1 (chP first T xs) (b1 + 79) C0 0 151)) := hid (fun S1 b1 L1 W1 hz hb => by have := FA W1 base S1 b1 hz.lc.ls hb; rw [est _ _ _ _ hz] at this; exact this)
     have KF3 : Hid (∀ (y : Int), 0 <= y -> y < first -> ∀ (S1 : Sto) (b1 : Nat) (L1 : List (Nat × List Value × Nat)) (W1 : World), RZ wr base S' S1 (chP first T xs) b1 c (.slice (some ⟨gr, 0, none⟩) xs.length rc) (.slice (some ⟨gp, 0, none⟩) xs.length pc) (recsOf first T xs) (pgsOf T xs.length) L1 W1 -> b1 <= 100000000000000000 -> Calls Tryz.prog 15 #[.pointer (some ⟨st, 0, none⟩), .int .i64 pq, .int .i64 y] W1 (FindP W1 base S1 (chP first T xs) (b1 + 79) C0 0 152)) := hid (fun y hy1 hy2 S1 b1 L1 W1 hz hb => by have := FB y hy1 hy2 W1 base S1 b1 hz.lc.ls hb; rw [est _ _ _ _ hz] at this; exact this)
     have KGL : Hid (∀ (S1 : Sto) (b1 : Nat) (L1 : List (Nat × List Value × Nat)) (W1 : World), RZ wr base S' S1 (chP first T xs) b1 c (.slice (some ⟨gr, 0, none⟩) xs.length rc) (.slice (some ⟨gp, 0, none⟩) xs.length pc) (recsOf first T xs) (pgsOf T xs.length) L1 W1 -> Glob W1) := hid (fun S1 b1 L1 W1 hz => HGL.out.below (HBL.out.trans (hz.lc.sp.below HC.out.ls.sk)) HBB.out)
     have KF4 : Hid (first = 0 -> ∀ (S1 : Sto) (b1 : Nat) (L1 : List (Nat × List Value × Nat)) (W1 : World), RZ wr base S' S1 (chP first T xs) b1 c (.slice (some ⟨gr, 0, none⟩) xs.length rc) (.slice (some ⟨gp, 0, none⟩) xs.length pc) (recsOf first T xs) (pgsOf T xs.length) L1 W1 -> b1 <= 100000000000000000 -> Calls Tryz.prog 15 #[.pointer (some ⟨st, 0, none⟩), .int .i64 pq, .int .i64 0] W1 (FindP W1 base S1 (chP first T xs) (b1 + 79) (rcC (recE wd)) 1 0)) := hid (fun hf S1 b1 L1 W1 hz hb => by have := FZ hf W1 (KGL.out _ _ _ _ hz) base HBB.out S1 b1 hz.lc.ls hb; rw [est _ _ _ _ hz, hz.lc.sp.s, HSS.out.2.1, HWD.out] at this; exact this)
     have KBD : Hid (∀ (S1 : Sto) (b1 : Nat) (L1 : List (Nat × List Value × Nat)) (W1 : World), RZ wr base S' S1 (chP first T xs) b1 c (.slice (some ⟨gr, 0, none⟩) xs.length rc) (.slice (some ⟨gp, 0, none⟩) xs.length pc) (recsOf first T xs) (pgsOf T xs.length) L1 W1 -> b1 <= 1000000000000000000 -> Calls Tryz.prog 16 #[.pointer (some ⟨st, 0, none⟩), .int .i64 pq] W1 fun e w' => ∃ S2, e = .returned (.tuple #[.int .i64 first, .int .i64 hv, .int .i64 0]) /\ Ls w' base S2 (chP first T xs) (b1 + 1) /\ Stp W1 S1 w' S2) := hid (fun S1 b1 L1 W1 hz hb => by have := BD W1 S1 b1 hz.lc.ls hb; rw [est _ _ _ _ hz] at this; rw [<- hhv]; exact this)
     have KEM : Hid (∀ (S1 : Sto) (b1 : Nat) (L1 : List (Nat × List Value × Nat)) (W1 : World), RZ wr base S' S1 (chP first T xs) b1 c (.slice (some ⟨gr, 0, none⟩) xs.length rc) (.slice (some ⟨gp, 0, none⟩) xs.length pc) (recsOf first T xs) (pgsOf T xs.length) L1 W1 -> Calls Tryz.prog 27 #[.int .i64 wd, .int .i64 256] W1 fun e w' => e = .returned (.agg (ints .u8 (emptyD wd 256)).toArray) /\ Below W1.heap.size W1 w') := hid (fun S1 b1 L1 W1 hz => empty_any W1 (KGL.out _ _ _ _ hz) wd 256)
     have FN := hid (And.intro fn1 (And.intro fn2 (And.intro fn3 fn4)))
     have hnn1 : 1 <= (nn : Int) := by omega
     have hnn2 : (nn : Int) <= 78 := by omega
     have HBK : Hid (b' <= 100000000000000000) := hid (by have := HB'.out; have := HB0.out; omega)
     clear FA FB FZ BD sx sy est fn1 fn2 fn3 fn4 fn5 hR hCR hver hhv hpq hC0 hrr
     go_upto_region 6 with fail
     go_cut [12, 13, 14] from 52 to 75 (fun s12 s13 s14 wx => ∃ G S4, s12 = .pointer (some ⟨G, 0, none⟩) /\ s13 = .int .i64 (nn : Int) /\ s14 = .int .i64 0 /\ RZ wr base S' S4 (chP first T xs) (b' + 79) c (.slice (some ⟨gr, 0, none⟩) xs.length rc) (.slice (some ⟨gp, 0, none⟩) xs.length pc) (recsOf first T xs) (pgsOf T xs.length) [(G, CR, 49)] wx)
     case first =>
       rename_i J1 K1 hJ1 hK1
       as_aux_lemma =>
         have HZd := hid HZ.out.drew
         clear HZ
         have HZ := HZd
         clear HZd
         refine wp_region_noPanic ?_
         refine wp_region_held_drew (S := Sx c st gr gp xs.length rc pc hh vv pq ver CR) (by kernel_rfl) (KSX.out _ _ _ _ HZ.out) (fun hHeld => ?_)
         refine tkA 0 (.pointer (some ⟨c, 0, none⟩)) rfl hHeld ?_
         try go_frame
         refine tkA 4 (.pointer (some ⟨c, 0, none⟩)) rfl hHeld ?_
         try go_frame
         refine tkA 8 (.int .i64 (hh : Int)) rfl hHeld ?_
         try go_frame
         refine tkA 11 (.pointer (some ⟨c, 0, none⟩)) rfl hHeld ?_
         try go_frame
         refine tkA 15 (.int .i64 (vv : Int)) rfl hHeld ?_
         try go_frame
         refine tkA 1 (.pointer (some ⟨c, 0, none⟩)) rfl hHeld ?_
         try go_frame
         refine tkA 5 (.pointer (some ⟨c, 0, none⟩)) rfl hHeld ?_
         try go_frame
         refine tkA 12 (.pointer (some ⟨c, 0, none⟩)) rfl hHeld ?_
         try go_frame
         refine tkA 2 (.pointer (some ⟨c, 0, none⟩)) rfl hHeld ?_
         try go_frame
         refine tkA 6 (.pointer (some ⟨c, 2, none⟩)) rfl hHeld ?_
         try go_frame
         refine tkA 13 (.pointer (some ⟨c, 1, none⟩)) rfl hHeld ?_
         try go_frame
         refine tqA 3 (.pointer (some ⟨st, 0, none⟩)) rfl (yA (by intro w hS; have hc := hS.1; go_simp)) hHeld ?_
         try go_frame
         refine tqA 7 (.slice (some ⟨gp, 0, none⟩) xs.length pc) rfl (yA (by intro w hS; have hc := hS.2.2.1; go_simp)) hHeld ?_
         try go_frame
         refine tqA 14 (.slice (some ⟨gr, 0, none⟩) xs.length rc) rfl (yA (by intro w hS; have hc := hS.2.1; go_simp)) hHeld ?_
         try go_frame
         refine tkA 9 (.pointer (some ⟨gp, hh, none⟩)) rfl hHeld ?_
         try go_frame
         refine tkA 16 (.pointer (some ⟨gr, vv * 38, none⟩)) rfl hHeld ?_
         try go_frame
         refine tqA 10 (.int .i64 pq) rfl (yA (by intro w hS; have hc := hS.2.2.2.1; go_simp)) hHeld ?_
         try go_frame
         refine tkA 17 (.pointer (some ⟨gr, vv * 38, none⟩)) rfl hHeld ?_
         try go_frame
         refine tqA 18 (.int .i64 ver) rfl (yA (by intro w hS; have hc := hS.2.2.2.2.1; go_simp)) hHeld ?_
         try go_frame
         refine wpAnyH_ready (rs := [19, 24]) (by kernel_rfl) (by simp) ?_
         refine (consA rfl (fun K hK => ?_) (consA rfl (fun K hK => ?_) AllReadyH.nil))
         · skip
           go_simp
           go_at_call 15
           refine (KF1.out _ _ _ _ HZ.out HBK.out).mono ?_
           rintro e W4 ⟨S4, rfl, hl4, hs4⟩
           have HZn := hid (HZ.out.store hl4 hs4)
           clear hl4 hs4 HZ
           have HZ := HZn
           clear HZn
           go_wp2_with fail
           refine hK.out _ _ (KSX.out _ _ _ _ HZ.out) ?_
           clear hK K hHeld
           intro hHeld
           try go_frame
           refine tkA 20 (.tuple #[.agg CR.toArray, .int .i64 (nn : Int), .int .i64 0]) rfl hHeld ?_
           try go_frame
           refine tkA 21 (.agg CR.toArray) rfl hHeld ?_
           try go_frame
           refine tkA 22 (.int .i64 (nn : Int)) rfl hHeld ?_
           try go_frame
           refine tkA 23 (.int .i64 0) rfl hHeld ?_
           try go_frame
           refine rdA 24 rfl (fun K hK => ?_)
           refine step_allocV ARc.out rfl rfl ?_
           have HZn := hid (HZ.out.alloc C0 49)
           obtain ⟨G, hG⟩ : ∃ G, W4.heap.size = G := ⟨_, rfl⟩
           rw [hG] at HZn ⊢
           clear hG HZ
           have HZ := HZn
           clear HZn
           generalize W4.alloc (.cells C0.toArray 49) = WA at *
           refine hK.out _ _ (KSX.out _ _ _ _ HZ.out) ?_
           clear hK K hHeld
           intro hHeld
           try go_frame
           refine rdA 25 rfl (fun K hK => ?_)
           refine step_storeRowC rfl 49 (.tmp 12) (.tmp 73) rfl G CR.toArray rfl rfl 49 C0.toArray (HZ.out.lc.row (k := G) (C := C0) (t := 49) (by simp)) SCR.out LCR.out (all_oneCell_toArray OCR.out) ?_
           have HZn := hid (HZ.out.set (k := G) (C := C0) (t := 49) (by simp) CR [] (fun x q => by cases q))
           clear HZ
           have HZ := HZn
           clear HZn
           refine hK.out _ _ (KSX.out _ _ _ _ HZ.out) ?_
           clear hK K hHeld
           intro hHeld
           try go_frame
           refine tkA 26 (.int .i64 (nn : Int)) rfl hHeld ?_
           try go_frame
           refine tkA 27 (.int .i64 0) rfl hHeld ?_
           try go_frame
           refine wdA ?_
           clear hHeld
           refine hK1 _ _ (Met.intro (hJ1 _ _ ?_))
           (repeat apply Exists.intro)
           exact ⟨⟨G, S4, rfl, rfl, rfl, HZ.out⟩, rfl⟩
         · skip
           refine step_allocV ARc.out rfl rfl ?_
           have HZn := hid (HZ.out.alloc C0 49)
           obtain ⟨G, hG⟩ : ∃ G, wr.drew.drew.heap.size = G := ⟨_, rfl⟩
           rw [hG] at HZn ⊢
           clear hG HZ
           have HZ := HZn
           clear HZn
           generalize wr.drew.drew.alloc (.cells C0.toArray 49) = WA at *
           refine hK.out _ _ (KSX.out _ _ _ _ HZ.out) ?_
           clear hK K hHeld
           intro hHeld
           try go_frame
           refine rdA 19 rfl (fun K hK => ?_)
           go_simp
           go_at_call 15
           refine (KF1.out _ _ _ _ HZ.out HBK.out).mono ?_
           rintro e W4 ⟨S4, rfl, hl4, hs4⟩
           have HZn := hid (HZ.out.store hl4 hs4)
           clear hl4 hs4 HZ
           have HZ := HZn
           clear HZn
           go_wp2_with fail
           refine hK.out _ _ (KSX.out _ _ _ _ HZ.out) ?_
           clear hK K hHeld
           intro hHeld
           try go_frame
           refine tkA 20 (.tuple #[.agg CR.toArray, .int .i64 (nn : Int), .int .i64 0]) rfl hHeld ?_
           try go_frame
           refine tkA 21 (.agg CR.toArray) rfl hHeld ?_
           try go_frame
           refine tkA 22 (.int .i64 (nn : Int)) rfl hHeld ?_
           try go_frame
           refine tkA 23 (.int .i64 0) rfl hHeld ?_
           try go_frame
           refine rdA 25 rfl (fun K hK => ?_)
           refine step_storeRowC rfl 49 (.tmp 12) (.tmp 73) rfl G CR.toArray rfl rfl 49 C0.toArray (HZ.out.lc.row (k := G) (C := C0) (t := 49) (by simp)) SCR.out LCR.out (all_oneCell_toArray OCR.out) ?_
           have HZn := hid (HZ.out.set (k := G) (C := C0) (t := 49) (by simp) CR [] (fun x q => by cases q))
           clear HZ
           have HZ := HZn
           clear HZn
           refine hK.out _ _ (KSX.out _ _ _ _ HZ.out) ?_
           clear hK K hHeld
           intro hHeld
           try go_frame
           refine tkA 26 (.int .i64 (nn : Int)) rfl hHeld ?_
           try go_frame
           refine tkA 27 (.int .i64 0) rfl hHeld ?_
           try go_frame
           refine wdA ?_
           clear hHeld
           refine hK1 _ _ (Met.intro (hJ1 _ _ ?_))
           (repeat apply Exists.intro)
           exact ⟨⟨G, S4, rfl, rfl, rfl, HZ.out⟩, rfl⟩
     case rest =>
     obtain ⟨G12, S4, rfl, rfl, rfl, hZ4⟩ := hcut
     clear HZ HBK KF1
     have HZ := hid hZ4
     have HBK : Hid (b' + 79 <= 100000000000000000) := hid (by have := HB'.out; have := HB0.out; omega)
     clear hZ4
     have KDG := hid (fun w1 => hdigits_any w1 (hh + 1) (by have := HHL.out; omega))
     rw [show ((hh + 1 : Nat) : Int) = (hh : Int) + 1 by push_cast; rfl] at KDG
     go_wp2_with fail
     refine (KDG.out _).mono ?_
     rintro e w' ⟨dd, rfl, rfl, hd1, hd2⟩
     have hfw := FN.out.2.2.1 dd hd1
     obtain ⟨pd, hpd⟩ : ∃ pd : Nat, dd * (dd + 1) = pd := ⟨_, rfl⟩
     rw [hpd] at hfw
     have hpd2 : pd <= 156 := by
       rw [<- hpd]
       exact Nat.le_trans (Nat.mul_le_mul hd2 (Nat.add_le_add_right hd2 1)) (by decide)
     have hpdi : (dd : Int) * ((dd : Int) + 1) = (pd : Int) := by rw [<- hpd]; push_cast; rfl
     have hddi : (dd : Int) <= 12 := by omega
     have hpi : (pd : Int) <= 156 := by omega
     have hq2 : ((pd : Int).tdiv 2) = ((pd / 2 : Nat) : Int) := by rw [Int.tdiv_eq_ediv_of_nonneg (by omega)]; push_cast; rfl
     have hle2 : ¬ (((pd / 2 : Nat) : Int) < (nn : Int)) := by omega
     have HPD := hid hfw
     clear hd1 hd2 hfw hpd hpd2 KDG
     obtain ⟨W6, hW6⟩ : ∃ W6, W6 = wc := ⟨_, rfl⟩
     rw [<- hW6] at HZ ⊢
     clear hW6
     go_upto_region 8 with fail
     go_cut [113] from 79 to 113 (fun s113 wx => s113 = .bool false /\ wx = W6.drew)
     case first =>
       rename_i J1 K1 hJ1 hK1
       as_aux_lemma =>
       have Z8 : Hid (W6.drew.cell? ⟨c, 1, none⟩ = some (.slice (some ⟨gr, 0, none⟩) xs.length rc) /\ W6.drew.rangeAt G12 0 CR /\ W6.drew.rangeAt gr (vv * 38) CR) := hid ⟨(KSX.out _ _ _ _ HZ.out.drew).2.1, HZ.out.drew.rg (k := G12) (C := CR) (t := 49) (by simp), (KSX.out _ _ _ _ HZ.out.drew).2.2.2.2.2⟩
       by_cases hgt : vv < hh
       · have hg1 : (vv : Int) < (hh : Int) := by omega
         have hnn3 : 2 <= (nn : Int) := by have := FN.out.2.1 hgt; omega
         refine wp_region_noPanic ?_
         refine wp_region_held_drew (S := fun w' => w'.cell? ⟨c, 1, none⟩ = some (.slice (some ⟨gr, 0, none⟩) xs.length rc) /\ w'.rangeAt G12 0 CR /\ w'.rangeAt gr (vv * 38) CR) (by kernel_rfl) Z8.out (fun hHeld => ?_)
         refine tkA 0 (.int .i64 0) rfl hHeld ?_
         try go_frame
         refine tkA 1 (.bool false) rfl hHeld ?_
         try go_frame
         refine tkA 2 (.bool false) rfl hHeld ?_
         try go_frame
         refine tqA 3 (.agg (CR).toArray) rfl (yieldsIf_load_mid (by rfl) 49 _ rfl G12 (0) rfl (CR) _ (fun w hS => hS.2.1) Tryz.underlying49 rfl SCRl.out) hHeld ?_
         try go_frame
         refine tkA 4 (.pointer (some ⟨c, 0, none⟩)) rfl hHeld ?_
         try go_frame
         refine tkA 8 (.int .i64 (vv : Int)) rfl hHeld ?_
         try go_frame
         refine tkA 5 (.pointer (some ⟨c, 0, none⟩)) rfl hHeld ?_
         try go_frame
         refine tkA 6 (.pointer (some ⟨c, 1, none⟩)) rfl hHeld ?_
         try go_frame
         refine tqA 7 (.slice (some ⟨gr, 0, none⟩) xs.length rc) rfl (yA (by intro w hS; have hc := hS.1; go_simp)) hHeld ?_
         try go_frame
         refine tkA 9 (.pointer (some ⟨gr, vv * 38, none⟩)) rfl hHeld ?_
         try go_frame
         refine tqA 10 (.agg (CR).toArray) rfl (yieldsIf_load_mid (by rfl) 49 _ rfl gr (vv * 38) rfl (CR) _ (fun w hS => hS.2.2) Tryz.underlying49 rfl SCRl.out) hHeld ?_
         try go_frame
         refine tkA 11 (.bool false) rfl hHeld ?_
         try go_frame
         refine tkA 12 (.bool false) rfl hHeld ?_
         try go_frame
         refine tkA 13 (.bool false) rfl hHeld ?_
         try go_frame
         refine tkA 14 (.int .i64 (nn : Int)) rfl hHeld ?_
         try go_frame
         refine tkA 15 (.bool false) rfl hHeld ?_
         try go_frame
         refine tkA 16 (.bool false) rfl hHeld ?_
         try go_frame
         refine tkA 17 (.bool false) rfl hHeld ?_
         try go_frame
         refine tkA 18 (.int .i64 (nn : Int)) rfl hHeld ?_
         try go_frame
         refine tkA 19 (.int .i64 (dd : Int)) rfl hHeld ?_
         try go_frame
         refine tkA 20 (.int .i64 (dd : Int)) rfl hHeld ?_
         try go_frame
         refine tqA 21 (.int .i64 ((dd : Int) + 1)) rfl (yA (by intro w hS; go_simp; rw [IntKind.wrap_i64]; omega)) hHeld ?_
         try go_frame
         refine tqA 22 (.int .i64 (pd : Int)) rfl (yA (by intro w hS; go_simp; rw [IntKind.wrap_i64]; omega)) hHeld ?_
         try go_frame
         refine tqA 23 (.int .i64 ((pd / 2 : Nat) : Int)) rfl (yA (by intro w hS; go_simp; rw [IntKind.wrap_i64]; omega)) hHeld ?_
         try go_frame
         refine tqA 24 (.bool false) rfl (yA (by intro w hS; go_simp; have := HPD.out; omega)) hHeld ?_
         try go_frame
         refine tkA 25 (.bool false) rfl hHeld ?_
         try go_frame
         refine tkA 26 (.bool false) rfl hHeld ?_
         try go_frame
         refine tkA 27 (.int .i64 (hh : Int)) rfl hHeld ?_
         try go_frame
         refine tkA 28 (.int .i64 (vv : Int)) rfl hHeld ?_
         try go_frame
         refine tkA 29 (.bool true) rfl hHeld ?_
         try go_frame
         refine tkA 30 (.bool true) rfl hHeld ?_
         try go_frame
         refine tkA 31 (.int .i64 (nn : Int)) rfl hHeld ?_
         try go_frame
         refine tkA 32 (.bool false) rfl hHeld ?_
         try go_frame
         refine tkA 33 (.bool false) rfl hHeld ?_
         try go_frame
         refine tkA 34 (.bool false) rfl hHeld ?_
         try go_frame
         refine wdA ?_
         clear hHeld
         refine hK1 _ _ (Met.intro (hJ1 _ _ ?_))
         (repeat apply Exists.intro)
         exact ⟨⟨rfl, rfl⟩, rfl⟩
       · have hg1 : ¬ ((vv : Int) < (hh : Int)) := by omega
         refine wp_region_noPanic ?_
         refine wp_region_held_drew (S := fun w' => w'.cell? ⟨c, 1, none⟩ = some (.slice (some ⟨gr, 0, none⟩) xs.length rc) /\ w'.rangeAt G12 0 CR /\ w'.rangeAt gr (vv * 38) CR) (by kernel_rfl) Z8.out (fun hHeld => ?_)
         refine tkA 0 (.int .i64 0) rfl hHeld ?_
         try go_frame
         refine tkA 1 (.bool false) rfl hHeld ?_
         try go_frame
         refine tkA 2 (.bool false) rfl hHeld ?_
         try go_frame
         refine tqA 3 (.agg (CR).toArray) rfl (yieldsIf_load_mid (by rfl) 49 _ rfl G12 (0) rfl (CR) _ (fun w hS => hS.2.1) Tryz.underlying49 rfl SCRl.out) hHeld ?_
         try go_frame
         refine tkA 4 (.pointer (some ⟨c, 0, none⟩)) rfl hHeld ?_
         try go_frame
         refine tkA 8 (.int .i64 (vv : Int)) rfl hHeld ?_
         try go_frame
         refine tkA 5 (.pointer (some ⟨c, 0, none⟩)) rfl hHeld ?_
         try go_frame
         refine tkA 6 (.pointer (some ⟨c, 1, none⟩)) rfl hHeld ?_
         try go_frame
         refine tqA 7 (.slice (some ⟨gr, 0, none⟩) xs.length rc) rfl (yA (by intro w hS; have hc := hS.1; go_simp)) hHeld ?_
         try go_frame
         refine tkA 9 (.pointer (some ⟨gr, vv * 38, none⟩)) rfl hHeld ?_
         try go_frame
         refine tqA 10 (.agg (CR).toArray) rfl (yieldsIf_load_mid (by rfl) 49 _ rfl gr (vv * 38) rfl (CR) _ (fun w hS => hS.2.2) Tryz.underlying49 rfl SCRl.out) hHeld ?_
         try go_frame
         refine tkA 11 (.bool false) rfl hHeld ?_
         try go_frame
         refine tkA 12 (.bool false) rfl hHeld ?_
         try go_frame
         refine tkA 13 (.bool false) rfl hHeld ?_
         try go_frame
         refine tkA 14 (.int .i64 (nn : Int)) rfl hHeld ?_
         try go_frame
         refine tkA 15 (.bool false) rfl hHeld ?_
         try go_frame
         refine tkA 16 (.bool false) rfl hHeld ?_
         try go_frame
         refine tkA 17 (.bool false) rfl hHeld ?_
         try go_frame
         refine tkA 18 (.int .i64 (nn : Int)) rfl hHeld ?_
         try go_frame
         refine tkA 19 (.int .i64 (dd : Int)) rfl hHeld ?_
         try go_frame
         refine tkA 20 (.int .i64 (dd : Int)) rfl hHeld ?_
         try go_frame
         refine tqA 21 (.int .i64 ((dd : Int) + 1)) rfl (yA (by intro w hS; go_simp; rw [IntKind.wrap_i64]; omega)) hHeld ?_
         try go_frame
         refine tqA 22 (.int .i64 (pd : Int)) rfl (yA (by intro w hS; go_simp; rw [IntKind.wrap_i64]; omega)) hHeld ?_
         try go_frame
         refine tqA 23 (.int .i64 ((pd / 2 : Nat) : Int)) rfl (yA (by intro w hS; go_simp; rw [IntKind.wrap_i64]; omega)) hHeld ?_
         try go_frame
         refine tqA 24 (.bool false) rfl (yA (by intro w hS; go_simp; have := HPD.out; omega)) hHeld ?_
         try go_frame
         refine tkA 25 (.bool false) rfl hHeld ?_
         try go_frame
         refine tkA 26 (.bool false) rfl hHeld ?_
         try go_frame
         refine tkA 27 (.int .i64 (hh : Int)) rfl hHeld ?_
         try go_frame
         refine tkA 28 (.int .i64 (vv : Int)) rfl hHeld ?_
         try go_frame
         refine tkA 29 (.bool false) rfl hHeld ?_
         try go_frame
         refine tkA 30 (.bool false) rfl hHeld ?_
         try go_frame
         refine tqA 31 (undef) rfl (Or.inr ⟨by rfl, rfl⟩) hHeld ?_
         try go_frame
         refine tqA 32 (undef) rfl (Or.inr ⟨by rfl, rfl⟩) hHeld ?_
         try go_frame
         refine tkA 33 (.bool false) rfl hHeld ?_
         try go_frame
         refine tkA 34 (.bool false) rfl hHeld ?_
         try go_frame
         refine wdA ?_
         clear hHeld
         refine hK1 _ _ (Met.intro (hJ1 _ _ ?_))
         (repeat apply Exists.intro)
         exact ⟨⟨rfl, rfl⟩, rfl⟩
     case rest =>
     obtain ⟨rfl, rfl⟩ := hcut
     have HZd := hid HZ.out.drew
     clear HZ
     have HZ := hid (HZd.out.sub (L1 := []) (fun x q => by cases q))
     clear HZd
     generalize W6.drew = W8 at *
     clear HPD hpdi hddi hpi hq2 hle2 FN qX gR
     go_upto_region 10 with fail
     have HZd := hid HZ.out.drew
     clear HZ
     have HZ := HZd
     clear HZd
     refine wp_region_noPanic ?_
     refine wp_region_held_drew (S := Sx c st gr gp xs.length rc pc hh vv pq ver CR) (by kernel_rfl) (KSX.out _ _ _ _ HZ.out) (fun hHeld => ?_)
     refine tkA 0 (.pointer (some ⟨c, 0, none⟩)) rfl hHeld ?_
     try go_frame
     refine tkA 4 (.pointer (some ⟨c, 0, none⟩)) rfl hHeld ?_
     try go_frame
     refine tkA 8 (.int .i64 (hh : Int)) rfl hHeld ?_
     try go_frame
     refine tkA 1 (.pointer (some ⟨c, 0, none⟩)) rfl hHeld ?_
     try go_frame
     refine tkA 5 (.pointer (some ⟨c, 0, none⟩)) rfl hHeld ?_
     try go_frame
     refine tkA 2 (.pointer (some ⟨c, 0, none⟩)) rfl hHeld ?_
     try go_frame
     refine tkA 6 (.pointer (some ⟨c, 2, none⟩)) rfl hHeld ?_
     try go_frame
     refine tqA 3 (.pointer (some ⟨st, 0, none⟩)) rfl (yA (by intro w hS; have hc := hS.1; go_simp)) hHeld ?_
     try go_frame
     refine tqA 7 (.slice (some ⟨gp, 0, none⟩) xs.length pc) rfl (yA (by intro w hS; have hc := hS.2.2.1; go_simp)) hHeld ?_
     try go_frame
     refine tkA 9 (.pointer (some ⟨gp, hh, none⟩)) rfl hHeld ?_
     try go_frame
     refine tqA 10 (.int .i64 pq) rfl (yA (by intro w hS; have hc := hS.2.2.2.1; go_simp)) hHeld ?_
     try go_frame
     refine rdA 11 rfl (fun K hK => ?_)
     go_simp
     go_at_call 16
     refine (KBD.out _ _ _ _ HZ.out (Nat.le_trans HBK.out (by decide))).mono ?_
     rintro e W10 ⟨S10, rfl, hl4, hs4⟩
     have HZn := hid (HZ.out.store hl4 hs4)
     clear hl4 hs4 HZ
     have HZ := HZn
     clear HZn
     go_wp2_with fail
     refine hK.out _ _ (KSX.out _ _ _ _ HZ.out) ?_
     clear hK K hHeld
     intro hHeld
     try go_frame
     refine tkA 12 (.tuple #[.int .i64 first, .int .i64 hv, .int .i64 0]) rfl hHeld ?_
     try go_frame
     refine tkA 13 (.int .i64 first) rfl hHeld ?_
     try go_frame
     refine tkA 14 (.int .i64 hv) rfl hHeld ?_
     try go_frame
     refine tkA 15 (.int .i64 0) rfl hHeld ?_
     try go_frame
     refine tkA 16 (.int .i64 first) rfl hHeld ?_
     try go_frame
     refine tkA 17 (.int .i64 hv) rfl hHeld ?_
     try go_frame
     refine tkA 18 (.int .i64 0) rfl hHeld ?_
     try go_frame
     refine wdA ?_
     clear hHeld
     have HBKn : Hid (b' + 79 + 1 <= 100000000000000000) := hid (by have := HB'.out; have := HB0.out; omega)
     clear HBK KBD
     have HBK := HBKn
     clear HBKn
     have c1 := (KSX.out _ _ _ _ HZ.out).2.1
     have chv := KHV.out _ _ _ _ HZ.out
     go_upto_region 13 with fail
     clear c1 chv
     go_cut [19, 20, 21] from 149 to 166 (fun s19 s20 s21 wx => ∃ G S4, s19 = .pointer (some ⟨G, 0, none⟩) /\ s20 = .int .i64 0 /\ s21 = .int .i64 151 /\ RZ wr base S' S4 (chP first T xs) (b' + 79 + 1 + 79) c (.slice (some ⟨gr, 0, none⟩) xs.length rc) (.slice (some ⟨gp, 0, none⟩) xs.length pc) (recsOf first T xs) (pgsOf T xs.length) [(G, C0, 49)] wx)
     case first =>
       rename_i J1 K1 hJ1 hK1
       as_aux_lemma =>
         have HZd := hid HZ.out.drew
         clear HZ
         have HZ := HZd
         clear HZd
         refine wp_region_noPanic ?_
         refine wp_region_held_drew (S := Sx c st gr gp xs.length rc pc hh vv pq ver CR) (by kernel_rfl) (KSX.out _ _ _ _ HZ.out) (fun hHeld => ?_)
         refine tkA 0 (.pointer (some ⟨c, 0, none⟩)) rfl hHeld ?_
         try go_frame
         refine tkA 4 (.pointer (some ⟨c, 0, none⟩)) rfl hHeld ?_
         try go_frame
         refine tkA 8 (.int .i64 (hh : Int)) rfl hHeld ?_
         try go_frame
         refine tkA 11 (.int .i64 hv) rfl hHeld ?_
         try go_frame
         refine tkA 1 (.pointer (some ⟨c, 0, none⟩)) rfl hHeld ?_
         try go_frame
         refine tkA 5 (.pointer (some ⟨c, 0, none⟩)) rfl hHeld ?_
         try go_frame
         refine tqA 12 (.int .i64 (hv + 1)) rfl (yA (by intro w hS; go_simp; rw [IntKind.wrap_i64]; omega)) hHeld ?_
         try go_frame
         refine tkA 2 (.pointer (some ⟨c, 0, none⟩)) rfl hHeld ?_
         try go_frame
         refine tkA 6 (.pointer (some ⟨c, 2, none⟩)) rfl hHeld ?_
         try go_frame
         refine tqA 3 (.pointer (some ⟨st, 0, none⟩)) rfl (yA (by intro w hS; have hc := hS.1; go_simp)) hHeld ?_
         try go_frame
         refine tqA 7 (.slice (some ⟨gp, 0, none⟩) xs.length pc) rfl (yA (by intro w hS; have hc := hS.2.2.1; go_simp)) hHeld ?_
         try go_frame
         refine tkA 9 (.pointer (some ⟨gp, hh, none⟩)) rfl hHeld ?_
         try go_frame
         refine tqA 10 (.int .i64 pq) rfl (yA (by intro w hS; have hc := hS.2.2.2.1; go_simp)) hHeld ?_
         try go_frame
         refine wpAnyH_ready (rs := [13, 18]) (by kernel_rfl) (by simp) ?_
         refine (consA rfl (fun K hK => ?_) (consA rfl (fun K hK => ?_) AllReadyH.nil))
         · skip
           go_simp
           go_at_call 15
           refine (KF2.out _ _ _ _ HZ.out HBK.out).mono ?_
           rintro e W4 ⟨S4, rfl, hl4, hs4⟩
           have HZn := hid (HZ.out.store hl4 hs4)
           clear hl4 hs4 HZ
           have HZ := HZn
           clear HZn
           go_wp2_with fail
           refine hK.out _ _ (KSX.out _ _ _ _ HZ.out) ?_
           clear hK K hHeld
           intro hHeld
           try go_frame
           refine tkA 14 (.tuple #[.agg C0.toArray, .int .i64 0, .int .i64 151]) rfl hHeld ?_
           try go_frame
           refine tkA 15 (.agg C0.toArray) rfl hHeld ?_
           try go_frame
           refine tkA 16 (.int .i64 0) rfl hHeld ?_
           try go_frame
           refine tkA 17 (.int .i64 151) rfl hHeld ?_
           try go_frame
           refine rdA 18 rfl (fun K hK => ?_)
           refine step_allocV ARc.out rfl rfl ?_
           have HZn := hid (HZ.out.alloc C0 49)
           obtain ⟨G, hG⟩ : ∃ G, W4.heap.size = G := ⟨_, rfl⟩
           rw [hG] at HZn ⊢
           clear hG HZ
           have HZ := HZn
           clear HZn
           generalize W4.alloc (.cells C0.toArray 49) = WA at *
           refine hK.out _ _ (KSX.out _ _ _ _ HZ.out) ?_
           clear hK K hHeld
           intro hHeld
           try go_frame
           refine rdA 19 rfl (fun K hK => ?_)
           refine step_storeRowC rfl 49 (.tmp 19) (.tmp 164) rfl G C0.toArray rfl rfl 49 C0.toArray (HZ.out.lc.row (k := G) (C := C0) (t := 49) (by simp)) SC0.out rfl (all_oneCell_toArray OC0.out) ?_
           have HZn := hid (HZ.out.set (k := G) (C := C0) (t := 49) (by simp) C0 [] (fun x q => by cases q))
           clear HZ
           have HZ := HZn
           clear HZn
           refine hK.out _ _ (KSX.out _ _ _ _ HZ.out) ?_
           clear hK K hHeld
           intro hHeld
           try go_frame
           refine tkA 20 (.int .i64 0) rfl hHeld ?_
           try go_frame
           refine tkA 21 (.int .i64 151) rfl hHeld ?_
           try go_frame
           refine wdA ?_
           clear hHeld
           refine hK1 _ _ (Met.intro (hJ1 _ _ ?_))
           (repeat apply Exists.intro)
           exact ⟨⟨G, S4, rfl, rfl, rfl, HZ.out⟩, rfl⟩
         · skip
           refine step_allocV ARc.out rfl rfl ?_
           have HZn := hid (HZ.out.alloc C0 49)
           obtain ⟨G, hG⟩ : ∃ G, W10.drew.heap.size = G := ⟨_, rfl⟩
           rw [hG] at HZn ⊢
           clear hG HZ
           have HZ := HZn
           clear HZn
           generalize W10.drew.alloc (.cells C0.toArray 49) = WA at *
           refine hK.out _ _ (KSX.out _ _ _ _ HZ.out) ?_
           clear hK K hHeld
           intro hHeld
           try go_frame
           refine rdA 13 rfl (fun K hK => ?_)
           go_simp
           go_at_call 15
           refine (KF2.out _ _ _ _ HZ.out HBK.out).mono ?_
           rintro e W4 ⟨S4, rfl, hl4, hs4⟩
           have HZn := hid (HZ.out.store hl4 hs4)
           clear hl4 hs4 HZ
           have HZ := HZn
           clear HZn
           go_wp2_with fail
           refine hK.out _ _ (KSX.out _ _ _ _ HZ.out) ?_
           clear hK K hHeld
           intro hHeld
           try go_frame
           refine tkA 14 (.tuple #[.agg C0.toArray, .int .i64 0, .int .i64 151]) rfl hHeld ?_
           try go_frame
           refine tkA 15 (.agg C0.toArray) rfl hHeld ?_
           try go_frame
           refine tkA 16 (.int .i64 0) rfl hHeld ?_
           try go_frame
           refine tkA 17 (.int .i64 151) rfl hHeld ?_
           try go_frame
           refine rdA 19 rfl (fun K hK => ?_)
           refine step_storeRowC rfl 49 (.tmp 19) (.tmp 164) rfl G C0.toArray rfl rfl 49 C0.toArray (HZ.out.lc.row (k := G) (C := C0) (t := 49) (by simp)) SC0.out rfl (all_oneCell_toArray OC0.out) ?_
           have HZn := hid (HZ.out.set (k := G) (C := C0) (t := 49) (by simp) C0 [] (fun x q => by cases q))
           clear HZ
           have HZ := HZn
           clear HZn
           refine hK.out _ _ (KSX.out _ _ _ _ HZ.out) ?_
           clear hK K hHeld
           intro hHeld
           try go_frame
           refine tkA 20 (.int .i64 0) rfl hHeld ?_
           try go_frame
           refine tkA 21 (.int .i64 151) rfl hHeld ?_
           try go_frame
           refine wdA ?_
           clear hHeld
           refine hK1 _ _ (Met.intro (hJ1 _ _ ?_))
           (repeat apply Exists.intro)
           exact ⟨⟨G, S4, rfl, rfl, rfl, HZ.out⟩, rfl⟩
     case rest =>
     obtain ⟨G19, S13, rfl, rfl, rfl, hZ4⟩ := hcut
     clear HZ HBK KF2
     have HZ := hid (hZ4.sub (L1 := []) (fun x q => by cases q))
     have HBK : Hid (b' + 79 + 1 + 79 <= 100000000000000000) := hid (by have := HB'.out; have := HB0.out; omega)
     clear hZ4
     obtain ⟨W13, hW13⟩ : ∃ W13, W13 = wc := ⟨_, rfl⟩
     rw [<- hW13] at HZ ⊢
     clear hW13
     by_cases hf : first = 0
     · as_aux_lemma =>
       have hfz : (first == 0) = true := by simpa using hf
       have hfz2 : ¬ (0 < first) := by omega
       have KFA := hid (KF4.out hf)
       have BE := hid (built_rcE wd)
       have qE := eqRc (recE wd) (recE_ok wd)
       have gR := Tryz.guardRc
       have OCE := hid (rcC_one (recE wd))
       have SCE := hid (show (Tryz.prog.info? 49).map (·.size) = some (rcC (recE wd)).toArray.size by rw [Tryz.sizeRc, List.size_toArray, rcC_len (recE_ok wd)])
       have SCEl := hid (show (Tryz.prog.info? 49).map (·.size) = some (rcC (recE wd)).length by rw [Tryz.sizeRc, rcC_len (recE_ok wd)])
       have LCE := hid (show C0.toArray.size = (rcC (recE wd)).toArray.size by rw [List.size_toArray, List.size_toArray, LC0'.out, rcC_len (recE_ok wd)])
       generalize rcC (recE wd) = CE at *
       generalize hDE : (ints .u8 (emptyD wd 256)).toArray = DE at *
       clear KF3 KF4 hDE hf
       go_upto_region 16 with fail
       go_cut [21, 22, 23] from 169 to 184 (fun s21 s22 s23 wx => ∃ G S4, s21 = .int .i64 0 /\ s22 = .pointer (some ⟨G, 0, none⟩) /\ s23 = .int .i64 1 /\ RZ wr base S' S4 (chP first T xs) (b' + 79 + 1 + 79 + 79) c (.slice (some ⟨gr, 0, none⟩) xs.length rc) (.slice (some ⟨gp, 0, none⟩) xs.length pc) (recsOf first T xs) (pgsOf T xs.length) [(G, CE, 49)] wx)
       case first =>
         rename_i J1 K1 hJ1 hK1
         as_aux_lemma =>
           have HZd := hid HZ.out.drew
           clear HZ
           have HZ := HZd
           clear HZd
           refine wp_region_noPanic ?_
           refine wp_region_held_drew (S := Sx c st gr gp xs.length rc pc hh vv pq ver CR) (by kernel_rfl) (KSX.out _ _ _ _ HZ.out) (fun hHeld => ?_)
           refine tkA 0 (.pointer (some ⟨c, 0, none⟩)) rfl hHeld ?_
           try go_frame
           refine tkA 4 (.pointer (some ⟨c, 0, none⟩)) rfl hHeld ?_
           try go_frame
           refine tkA 8 (.int .i64 (hh : Int)) rfl hHeld ?_
           try go_frame
           refine tkA 1 (.pointer (some ⟨c, 0, none⟩)) rfl hHeld ?_
           try go_frame
           refine tkA 5 (.pointer (some ⟨c, 0, none⟩)) rfl hHeld ?_
           try go_frame
           refine tkA 2 (.pointer (some ⟨c, 0, none⟩)) rfl hHeld ?_
           try go_frame
           refine tkA 6 (.pointer (some ⟨c, 2, none⟩)) rfl hHeld ?_
           try go_frame
           refine tqA 3 (.pointer (some ⟨st, 0, none⟩)) rfl (yA (by intro w hS; have hc := hS.1; go_simp)) hHeld ?_
           try go_frame
           refine tqA 7 (.slice (some ⟨gp, 0, none⟩) xs.length pc) rfl (yA (by intro w hS; have hc := hS.2.2.1; go_simp)) hHeld ?_
           try go_frame
           refine tkA 9 (.pointer (some ⟨gp, hh, none⟩)) rfl hHeld ?_
           try go_frame
           refine tqA 10 (.int .i64 pq) rfl (yA (by intro w hS; have hc := hS.2.2.2.1; go_simp)) hHeld ?_
           try go_frame
           refine wpAnyH_ready (rs := [11, 16]) (by kernel_rfl) (by simp) ?_
           refine (consA rfl (fun K hK => ?_) (consA rfl (fun K hK => ?_) AllReadyH.nil))
           · skip
             go_simp
             go_at_call 15
             refine (KFA.out _ _ _ _ HZ.out HBK.out).mono ?_
             rintro e W4 ⟨S4, rfl, hl4, hs4⟩
             have HZn := hid (HZ.out.store hl4 hs4)
             clear hl4 hs4 HZ
             have HZ := HZn
             clear HZn
             go_wp2_with fail
             refine hK.out _ _ (KSX.out _ _ _ _ HZ.out) ?_
             clear hK K hHeld
             intro hHeld
             try go_frame
             refine tkA 12 (.tuple #[.agg CE.toArray, .int .i64 1, .int .i64 0]) rfl hHeld ?_
             try go_frame
             refine tkA 13 (.agg CE.toArray) rfl hHeld ?_
             try go_frame
             refine tkA 14 (.int .i64 1) rfl hHeld ?_
             try go_frame
             refine tkA 15 (.int .i64 0) rfl hHeld ?_
             try go_frame
             refine rdA 16 rfl (fun K hK => ?_)
             refine step_allocV ARc.out rfl rfl ?_
             have HZn := hid (HZ.out.alloc C0 49)
             obtain ⟨G, hG⟩ : ∃ G, W4.heap.size = G := ⟨_, rfl⟩
             rw [hG] at HZn ⊢
             clear hG HZ
             have HZ := HZn
             clear HZn
             generalize W4.alloc (.cells C0.toArray 49) = WA at *
             refine hK.out _ _ (KSX.out _ _ _ _ HZ.out) ?_
             clear hK K hHeld
             intro hHeld
             try go_frame
             refine rdA 17 rfl (fun K hK => ?_)
             refine step_storeRowC rfl 49 (.tmp 22) (.tmp 182) rfl G CE.toArray rfl rfl 49 C0.toArray (HZ.out.lc.row (k := G) (C := C0) (t := 49) (by simp)) SCE.out LCE.out (all_oneCell_toArray OCE.out) ?_
             have HZn := hid (HZ.out.set (k := G) (C := C0) (t := 49) (by simp) CE [] (fun x q => by cases q))
             clear HZ
             have HZ := HZn
             clear HZn
             refine hK.out _ _ (KSX.out _ _ _ _ HZ.out) ?_
             clear hK K hHeld
             intro hHeld
             try go_frame
             refine tkA 18 (.int .i64 1) rfl hHeld ?_
             try go_frame
             refine tkA 19 (.int .i64 0) rfl hHeld ?_
             try go_frame
             refine wdA ?_
             clear hHeld
             refine hK1 _ _ (Met.intro (hJ1 _ _ ?_))
             (repeat apply Exists.intro)
             exact ⟨⟨G, S4, rfl, rfl, rfl, HZ.out⟩, rfl⟩
           · skip
             refine step_allocV ARc.out rfl rfl ?_
             have HZn := hid (HZ.out.alloc C0 49)
             obtain ⟨G, hG⟩ : ∃ G, W13.drew.heap.size = G := ⟨_, rfl⟩
             rw [hG] at HZn ⊢
             clear hG HZ
             have HZ := HZn
             clear HZn
             generalize W13.drew.alloc (.cells C0.toArray 49) = WA at *
             refine hK.out _ _ (KSX.out _ _ _ _ HZ.out) ?_
             clear hK K hHeld
             intro hHeld
             try go_frame
             refine rdA 11 rfl (fun K hK => ?_)
             go_simp
             go_at_call 15
             refine (KFA.out _ _ _ _ HZ.out HBK.out).mono ?_
             rintro e W4 ⟨S4, rfl, hl4, hs4⟩
             have HZn := hid (HZ.out.store hl4 hs4)
             clear hl4 hs4 HZ
             have HZ := HZn
             clear HZn
             go_wp2_with fail
             refine hK.out _ _ (KSX.out _ _ _ _ HZ.out) ?_
             clear hK K hHeld
             intro hHeld
             try go_frame
             refine tkA 12 (.tuple #[.agg CE.toArray, .int .i64 1, .int .i64 0]) rfl hHeld ?_
             try go_frame
             refine tkA 13 (.agg CE.toArray) rfl hHeld ?_
             try go_frame
             refine tkA 14 (.int .i64 1) rfl hHeld ?_
             try go_frame
             refine tkA 15 (.int .i64 0) rfl hHeld ?_
             try go_frame
             refine rdA 17 rfl (fun K hK => ?_)
             refine step_storeRowC rfl 49 (.tmp 22) (.tmp 182) rfl G CE.toArray rfl rfl 49 C0.toArray (HZ.out.lc.row (k := G) (C := C0) (t := 49) (by simp)) SCE.out LCE.out (all_oneCell_toArray OCE.out) ?_
             have HZn := hid (HZ.out.set (k := G) (C := C0) (t := 49) (by simp) CE [] (fun x q => by cases q))
             clear HZ
             have HZ := HZn
             clear HZn
             refine hK.out _ _ (KSX.out _ _ _ _ HZ.out) ?_
             clear hK K hHeld
             intro hHeld
             try go_frame
             refine tkA 18 (.int .i64 1) rfl hHeld ?_
             try go_frame
             refine tkA 19 (.int .i64 0) rfl hHeld ?_
             try go_frame
             refine wdA ?_
             clear hHeld
             refine hK1 _ _ (Met.intro (hJ1 _ _ ?_))
             (repeat apply Exists.intro)
             exact ⟨⟨G, S4, rfl, rfl, rfl, HZ.out⟩, rfl⟩
       case rest =>
       obtain ⟨G22, S16, rfl, rfl, rfl, hZ4⟩ := hcut
       clear HZ HBK
       have HZ := hid hZ4
       have HBK : Hid (b' + 79 + 1 + 79 + 79 <= 100000000000000000) := hid (by have := HB'.out; have := HB0.out; omega)
       clear hZ4
       obtain ⟨W16, hW16⟩ : ∃ W16, W16 = wc := ⟨_, rfl⟩
       rw [<- hW16] at HZ ⊢
       clear hW16
       go_upto_region 17 with fail
       have HZd := hid HZ.out.drew
       clear HZ KFA
       have HZ := HZd
       clear HZd
       refine wp_region_noPanic ?_
       refine wp_region_held_drew (S := fun w' => w'.rangeAt G22 0 CE) (by kernel_rfl) (HZ.out.rg (k := G22) (C := CE) (t := 49) (by simp)) (fun hHeld => ?_)
       refine tkA 0 (.int .i64 first) rfl hHeld ?_
       try go_frame
       refine tkA 1 (.bool true) rfl hHeld ?_
       try go_frame
       refine tkA 2 (.bool true) rfl hHeld ?_
       try go_frame
       refine tkA 3 (.int .i64 0) rfl hHeld ?_
       try go_frame
       refine tkA 4 (.bool false) rfl hHeld ?_
       try go_frame
       refine tkA 5 (.bool false) rfl hHeld ?_
       try go_frame
       refine tkA 6 (.int .i64 1) rfl hHeld ?_
       try go_frame
       refine tkA 7 (.bool false) rfl hHeld ?_
       try go_frame
       refine tkA 8 (.bool false) rfl hHeld ?_
       try go_frame
       refine tkA 9 (.bool false) rfl hHeld ?_
       try go_frame
       refine tqA 10 (.agg (CE).toArray) rfl (yieldsIf_load_mid (by rfl) 49 _ rfl G22 (0) rfl (CE) _ (fun w hS => hS) Tryz.underlying49 rfl SCEl.out) hHeld ?_
       try go_frame
       refine tkA 11 (.int .i64 wd) rfl hHeld ?_
       try go_frame
       refine rdA 12 rfl (fun K hK => ?_)
       go_simp
       go_at_call 27
       refine (KEM.out _ _ _ _ HZ.out).mono ?_
       rintro e W17 ⟨rfl, hb17⟩
       have HZn := hid (HZ.out.call hb17)
       clear hb17 HZ
       have HZ := HZn
       clear HZn
       go_wp2_with fail
       refine hK.out _ _ (HZ.out.rg (k := G22) (C := CE) (t := 49) (by simp)) ?_
       clear hK K hHeld
       intro hHeld
       try go_frame
       refine tqA 13 (.agg CE.toArray) rfl (yieldsIf_built (by rfl) 49 _ rfl [(6, .agg DE)] rfl CE.toArray BE.out) hHeld ?_
       try go_frame
       refine tkA 14 (.bool false) rfl hHeld ?_
       try go_frame
       refine tkA 15 (.bool false) rfl hHeld ?_
       try go_frame
       refine tkA 16 (.bool false) rfl hHeld ?_
       try go_frame
       refine wdA ?_
       clear hHeld
       go_wp2_with fail
       go_roundw
       case rel => exact ⟨k + 1, S16, b' + 79 + 1 + 79 + 79, by omega, by go_num, HZ.out.cn, HZ.out.lc.sp.st.trans HST.out, HSS.out.of HZ.out.lc.sp, HBL.out.trans (HZ.out.lc.sp.below HC.out.ls.sk), by have := HB'.out; omega⟩
       case measure => simp [intOf]; omega
     · as_aux_lemma =>
       have hfz : (first == 0) = false := by simpa using hf
       have hfz2 : 0 < first := by omega
       have KFA := hid (KF3.out 0 (by omega) hfz2)
       have KFB := hid (KF3.out (first - 1) (by omega) (by omega))
       clear KF3 KF4 KEM hf
       go_upto_region 16 with fail
       go_cut [21, 22, 23] from 169 to 184 (fun s21 s22 s23 wx => ∃ G S4, s21 = .int .i64 152 /\ s22 = .pointer (some ⟨G, 0, none⟩) /\ s23 = .int .i64 0 /\ RZ wr base S' S4 (chP first T xs) (b' + 79 + 1 + 79 + 79) c (.slice (some ⟨gr, 0, none⟩) xs.length rc) (.slice (some ⟨gp, 0, none⟩) xs.length pc) (recsOf first T xs) (pgsOf T xs.length) [(G, C0, 49)] wx)
       case first =>
         rename_i J1 K1 hJ1 hK1
         as_aux_lemma =>
           have HZd := hid HZ.out.drew
           clear HZ
           have HZ := HZd
           clear HZd
           refine wp_region_noPanic ?_
           refine wp_region_held_drew (S := Sx c st gr gp xs.length rc pc hh vv pq ver CR) (by kernel_rfl) (KSX.out _ _ _ _ HZ.out) (fun hHeld => ?_)
           refine tkA 0 (.pointer (some ⟨c, 0, none⟩)) rfl hHeld ?_
           try go_frame
           refine tkA 4 (.pointer (some ⟨c, 0, none⟩)) rfl hHeld ?_
           try go_frame
           refine tkA 8 (.int .i64 (hh : Int)) rfl hHeld ?_
           try go_frame
           refine tkA 1 (.pointer (some ⟨c, 0, none⟩)) rfl hHeld ?_
           try go_frame
           refine tkA 5 (.pointer (some ⟨c, 0, none⟩)) rfl hHeld ?_
           try go_frame
           refine tkA 2 (.pointer (some ⟨c, 0, none⟩)) rfl hHeld ?_
           try go_frame
           refine tkA 6 (.pointer (some ⟨c, 2, none⟩)) rfl hHeld ?_
           try go_frame
           refine tqA 3 (.pointer (some ⟨st, 0, none⟩)) rfl (yA (by intro w hS; have hc := hS.1; go_simp)) hHeld ?_
           try go_frame
           refine tqA 7 (.slice (some ⟨gp, 0, none⟩) xs.length pc) rfl (yA (by intro w hS; have hc := hS.2.2.1; go_simp)) hHeld ?_
           try go_frame
           refine tkA 9 (.pointer (some ⟨gp, hh, none⟩)) rfl hHeld ?_
           try go_frame
           refine tqA 10 (.int .i64 pq) rfl (yA (by intro w hS; have hc := hS.2.2.2.1; go_simp)) hHeld ?_
           try go_frame
           refine wpAnyH_ready (rs := [11, 16]) (by kernel_rfl) (by simp) ?_
           refine (consA rfl (fun K hK => ?_) (consA rfl (fun K hK => ?_) AllReadyH.nil))
           · skip
             go_simp
             go_at_call 15
             refine (KFA.out _ _ _ _ HZ.out HBK.out).mono ?_
             rintro e W4 ⟨S4, rfl, hl4, hs4⟩
             have HZn := hid (HZ.out.store hl4 hs4)
             clear hl4 hs4 HZ
             have HZ := HZn
             clear HZn
             go_wp2_with fail
             refine hK.out _ _ (KSX.out _ _ _ _ HZ.out) ?_
             clear hK K hHeld
             intro hHeld
             try go_frame
             refine tkA 12 (.tuple #[.agg C0.toArray, .int .i64 0, .int .i64 152]) rfl hHeld ?_
             try go_frame
             refine tkA 13 (.agg C0.toArray) rfl hHeld ?_
             try go_frame
             refine tkA 14 (.int .i64 0) rfl hHeld ?_
             try go_frame
             refine tkA 15 (.int .i64 152) rfl hHeld ?_
             try go_frame
             refine rdA 16 rfl (fun K hK => ?_)
             refine step_allocV ARc.out rfl rfl ?_
             have HZn := hid (HZ.out.alloc C0 49)
             obtain ⟨G, hG⟩ : ∃ G, W4.heap.size = G := ⟨_, rfl⟩
             rw [hG] at HZn ⊢
             clear hG HZ
             have HZ := HZn
             clear HZn
             generalize W4.alloc (.cells C0.toArray 49) = WA at *
             refine hK.out _ _ (KSX.out _ _ _ _ HZ.out) ?_
             clear hK K hHeld
             intro hHeld
             try go_frame
             refine rdA 17 rfl (fun K hK => ?_)
             refine step_storeRowC rfl 49 (.tmp 22) (.tmp 182) rfl G C0.toArray rfl rfl 49 C0.toArray (HZ.out.lc.row (k := G) (C := C0) (t := 49) (by simp)) SC0.out rfl (all_oneCell_toArray OC0.out) ?_
             have HZn := hid (HZ.out.set (k := G) (C := C0) (t := 49) (by simp) C0 [] (fun x q => by cases q))
             clear HZ
             have HZ := HZn
             clear HZn
             refine hK.out _ _ (KSX.out _ _ _ _ HZ.out) ?_
             clear hK K hHeld
             intro hHeld
             try go_frame
             refine tkA 18 (.int .i64 0) rfl hHeld ?_
             try go_frame
             refine tkA 19 (.int .i64 152) rfl hHeld ?_
             try go_frame
             refine wdA ?_
             clear hHeld
             refine hK1 _ _ (Met.intro (hJ1 _ _ ?_))
             (repeat apply Exists.intro)
             exact ⟨⟨G, S4, rfl, rfl, rfl, HZ.out⟩, rfl⟩
           · skip
             refine step_allocV ARc.out rfl rfl ?_
             have HZn := hid (HZ.out.alloc C0 49)
             obtain ⟨G, hG⟩ : ∃ G, W13.drew.heap.size = G := ⟨_, rfl⟩
             rw [hG] at HZn ⊢
             clear hG HZ
             have HZ := HZn
             clear HZn
             generalize W13.drew.alloc (.cells C0.toArray 49) = WA at *
             refine hK.out _ _ (KSX.out _ _ _ _ HZ.out) ?_
             clear hK K hHeld
             intro hHeld
             try go_frame
             refine rdA 11 rfl (fun K hK => ?_)
             go_simp
             go_at_call 15
             refine (KFA.out _ _ _ _ HZ.out HBK.out).mono ?_
             rintro e W4 ⟨S4, rfl, hl4, hs4⟩
             have HZn := hid (HZ.out.store hl4 hs4)
             clear hl4 hs4 HZ
             have HZ := HZn
             clear HZn
             go_wp2_with fail
             refine hK.out _ _ (KSX.out _ _ _ _ HZ.out) ?_
             clear hK K hHeld
             intro hHeld
             try go_frame
             refine tkA 12 (.tuple #[.agg C0.toArray, .int .i64 0, .int .i64 152]) rfl hHeld ?_
             try go_frame
             refine tkA 13 (.agg C0.toArray) rfl hHeld ?_
             try go_frame
             refine tkA 14 (.int .i64 0) rfl hHeld ?_
             try go_frame
             refine tkA 15 (.int .i64 152) rfl hHeld ?_
             try go_frame
             refine rdA 17 rfl (fun K hK => ?_)
             refine step_storeRowC rfl 49 (.tmp 22) (.tmp 182) rfl G C0.toArray rfl rfl 49 C0.toArray (HZ.out.lc.row (k := G) (C := C0) (t := 49) (by simp)) SC0.out rfl (all_oneCell_toArray OC0.out) ?_
             have HZn := hid (HZ.out.set (k := G) (C := C0) (t := 49) (by simp) C0 [] (fun x q => by cases q))
             clear HZ
             have HZ := HZn
             clear HZn
             refine hK.out _ _ (KSX.out _ _ _ _ HZ.out) ?_
             clear hK K hHeld
             intro hHeld
             try go_frame
             refine tkA 18 (.int .i64 0) rfl hHeld ?_
             try go_frame
             refine tkA 19 (.int .i64 152) rfl hHeld ?_
             try go_frame
             refine wdA ?_
             clear hHeld
             refine hK1 _ _ (Met.intro (hJ1 _ _ ?_))
             (repeat apply Exists.intro)
             exact ⟨⟨G, S4, rfl, rfl, rfl, HZ.out⟩, rfl⟩
       case rest =>
       obtain ⟨G22, S16, rfl, rfl, rfl, hZ4⟩ := hcut
       clear HZ HBK
       have HZ := hid hZ4
       have HBK : Hid (b' + 79 + 1 + 79 + 79 <= 100000000000000000) := hid (by have := HB'.out; have := HB0.out; omega)
       clear hZ4
       obtain ⟨W16, hW16⟩ : ∃ W16, W16 = wc := ⟨_, rfl⟩
       rw [<- hW16] at HZ ⊢
       clear hW16
       go_upto_region 17 with fail
       have HZd := hid HZ.out.drew
       clear HZ KFA
       have HZ := hid (HZd.out.sub (L1 := []) (fun x q => by cases q))
       clear HZd
       refine wp_region_noPanic ?_
       refine wp_region_held_drew (S := fun _ => True) (by kernel_rfl) trivial (fun hHeld => ?_)
       refine tkA 0 (.int .i64 first) rfl hHeld ?_
       try go_frame
       refine tkA 1 (.bool false) rfl hHeld ?_
       try go_frame
       refine tkA 2 (.bool false) rfl hHeld ?_
       try go_frame
       refine tqA 3 (undef) rfl (Or.inr ⟨by rfl, rfl⟩) hHeld ?_
       try go_frame
       refine tqA 4 (undef) rfl (Or.inr ⟨by rfl, rfl⟩) hHeld ?_
       try go_frame
       refine tqA 5 (undef) rfl (Or.inr ⟨by rfl, rfl⟩) hHeld ?_
       try go_frame
       refine tqA 6 (undef) rfl (Or.inr ⟨by rfl, rfl⟩) hHeld ?_
       try go_frame
       refine tqA 7 (undef) rfl (Or.inr ⟨by rfl, rfl⟩) hHeld ?_
       try go_frame
       refine tqA 8 (undef) rfl (Or.inr ⟨by rfl, rfl⟩) hHeld ?_
       try go_frame
       refine tqA 9 (undef) rfl (Or.inr ⟨by rfl, rfl⟩) hHeld ?_
       try go_frame
       refine tqA 10 (undef) rfl (Or.inr ⟨by rfl, rfl⟩) hHeld ?_
       try go_frame
       refine tqA 11 (undef) rfl (Or.inr ⟨by rfl, rfl⟩) hHeld ?_
       try go_frame
       refine tqA 12 (undef) rfl (Or.inr ⟨by rfl, rfl⟩) hHeld ?_
       try go_frame
       refine tqA 13 (undef) rfl (Or.inr ⟨by rfl, rfl⟩) hHeld ?_
       try go_frame
       refine tqA 14 (undef) rfl (Or.inr ⟨by rfl, rfl⟩) hHeld ?_
       try go_frame
       refine tqA 15 (undef) rfl (Or.inr ⟨by rfl, rfl⟩) hHeld ?_
       try go_frame
       refine tkA 16 (.bool false) rfl hHeld ?_
       try go_frame
       refine wdA ?_
       clear hHeld
       generalize W16.drew = W17 at *
       go_upto_region 20 with fail
       go_cut [24, 25, 26] from 204 to 221 (fun s24 s25 s26 wx => ∃ G S4, s24 = .pointer (some ⟨G, 0, none⟩) /\ s25 = .int .i64 0 /\ s26 = .int .i64 152 /\ RZ wr base S' S4 (chP first T xs) (b' + 79 + 1 + 79 + 79 + 79) c (.slice (some ⟨gr, 0, none⟩) xs.length rc) (.slice (some ⟨gp, 0, none⟩) xs.length pc) (recsOf first T xs) (pgsOf T xs.length) [(G, C0, 49)] wx)
       case first =>
         rename_i J1 K1 hJ1 hK1
         as_aux_lemma =>
           have HZd := hid HZ.out.drew
           clear HZ
           have HZ := HZd
           clear HZd
           refine wp_region_noPanic ?_
           refine wp_region_held_drew (S := Sx c st gr gp xs.length rc pc hh vv pq ver CR) (by kernel_rfl) (KSX.out _ _ _ _ HZ.out) (fun hHeld => ?_)
           refine tkA 0 (.pointer (some ⟨c, 0, none⟩)) rfl hHeld ?_
           try go_frame
           refine tkA 4 (.pointer (some ⟨c, 0, none⟩)) rfl hHeld ?_
           try go_frame
           refine tkA 8 (.int .i64 (hh : Int)) rfl hHeld ?_
           try go_frame
           refine tkA 11 (.int .i64 first) rfl hHeld ?_
           try go_frame
           refine tkA 1 (.pointer (some ⟨c, 0, none⟩)) rfl hHeld ?_
           try go_frame
           refine tkA 5 (.pointer (some ⟨c, 0, none⟩)) rfl hHeld ?_
           try go_frame
           refine tqA 12 (.int .i64 (first - 1)) rfl (yA (by intro w hS; go_simp; rw [IntKind.wrap_i64]; omega)) hHeld ?_
           try go_frame
           refine tkA 2 (.pointer (some ⟨c, 0, none⟩)) rfl hHeld ?_
           try go_frame
           refine tkA 6 (.pointer (some ⟨c, 2, none⟩)) rfl hHeld ?_
           try go_frame
           refine tqA 3 (.pointer (some ⟨st, 0, none⟩)) rfl (yA (by intro w hS; have hc := hS.1; go_simp)) hHeld ?_
           try go_frame
           refine tqA 7 (.slice (some ⟨gp, 0, none⟩) xs.length pc) rfl (yA (by intro w hS; have hc := hS.2.2.1; go_simp)) hHeld ?_
           try go_frame
           refine tkA 9 (.pointer (some ⟨gp, hh, none⟩)) rfl hHeld ?_
           try go_frame
           refine tqA 10 (.int .i64 pq) rfl (yA (by intro w hS; have hc := hS.2.2.2.1; go_simp)) hHeld ?_
           try go_frame
           refine wpAnyH_ready (rs := [13, 18]) (by kernel_rfl) (by simp) ?_
           refine (consA rfl (fun K hK => ?_) (consA rfl (fun K hK => ?_) AllReadyH.nil))
           · skip
             go_simp
             go_at_call 15
             refine (KFB.out _ _ _ _ HZ.out HBK.out).mono ?_
             rintro e W4 ⟨S4, rfl, hl4, hs4⟩
             have HZn := hid (HZ.out.store hl4 hs4)
             clear hl4 hs4 HZ
             have HZ := HZn
             clear HZn
             go_wp2_with fail
             refine hK.out _ _ (KSX.out _ _ _ _ HZ.out) ?_
             clear hK K hHeld
             intro hHeld
             try go_frame
             refine tkA 14 (.tuple #[.agg C0.toArray, .int .i64 0, .int .i64 152]) rfl hHeld ?_
             try go_frame
             refine tkA 15 (.agg C0.toArray) rfl hHeld ?_
             try go_frame
             refine tkA 16 (.int .i64 0) rfl hHeld ?_
             try go_frame
             refine tkA 17 (.int .i64 152) rfl hHeld ?_
             try go_frame
             refine rdA 18 rfl (fun K hK => ?_)
             refine step_allocV ARc.out rfl rfl ?_
             have HZn := hid (HZ.out.alloc C0 49)
             obtain ⟨G, hG⟩ : ∃ G, W4.heap.size = G := ⟨_, rfl⟩
             rw [hG] at HZn ⊢
             clear hG HZ
             have HZ := HZn
             clear HZn
             generalize W4.alloc (.cells C0.toArray 49) = WA at *
             refine hK.out _ _ (KSX.out _ _ _ _ HZ.out) ?_
             clear hK K hHeld
             intro hHeld
             try go_frame
             refine rdA 19 rfl (fun K hK => ?_)
             refine step_storeRowC rfl 49 (.tmp 24) (.tmp 219) rfl G C0.toArray rfl rfl 49 C0.toArray (HZ.out.lc.row (k := G) (C := C0) (t := 49) (by simp)) SC0.out rfl (all_oneCell_toArray OC0.out) ?_
             have HZn := hid (HZ.out.set (k := G) (C := C0) (t := 49) (by simp) C0 [] (fun x q => by cases q))
             clear HZ
             have HZ := HZn
             clear HZn
             refine hK.out _ _ (KSX.out _ _ _ _ HZ.out) ?_
             clear hK K hHeld
             intro hHeld
             try go_frame
             refine tkA 20 (.int .i64 0) rfl hHeld ?_
             try go_frame
             refine tkA 21 (.int .i64 152) rfl hHeld ?_
             try go_frame
             refine wdA ?_
             clear hHeld
             refine hK1 _ _ (Met.intro (hJ1 _ _ ?_))
             (repeat apply Exists.intro)
             exact ⟨⟨G, S4, rfl, rfl, rfl, HZ.out⟩, rfl⟩
           · skip
             refine step_allocV ARc.out rfl rfl ?_
             have HZn := hid (HZ.out.alloc C0 49)
             obtain ⟨G, hG⟩ : ∃ G, W17.drew.heap.size = G := ⟨_, rfl⟩
             rw [hG] at HZn ⊢
             clear hG HZ
             have HZ := HZn
             clear HZn
             generalize W17.drew.alloc (.cells C0.toArray 49) = WA at *
             refine hK.out _ _ (KSX.out _ _ _ _ HZ.out) ?_
             clear hK K hHeld
             intro hHeld
             try go_frame
             refine rdA 13 rfl (fun K hK => ?_)
             go_simp
             go_at_call 15
             refine (KFB.out _ _ _ _ HZ.out HBK.out).mono ?_
             rintro e W4 ⟨S4, rfl, hl4, hs4⟩
             have HZn := hid (HZ.out.store hl4 hs4)
             clear hl4 hs4 HZ
             have HZ := HZn
             clear HZn
             go_wp2_with fail
             refine hK.out _ _ (KSX.out _ _ _ _ HZ.out) ?_
             clear hK K hHeld
             intro hHeld
             try go_frame
             refine tkA 14 (.tuple #[.agg C0.toArray, .int .i64 0, .int .i64 152]) rfl hHeld ?_
             try go_frame
             refine tkA 15 (.agg C0.toArray) rfl hHeld ?_
             try go_frame
             refine tkA 16 (.int .i64 0) rfl hHeld ?_
             try go_frame
             refine tkA 17 (.int .i64 152) rfl hHeld ?_
             try go_frame
             refine rdA 19 rfl (fun K hK => ?_)
             refine step_storeRowC rfl 49 (.tmp 24) (.tmp 219) rfl G C0.toArray rfl rfl 49 C0.toArray (HZ.out.lc.row (k := G) (C := C0) (t := 49) (by simp)) SC0.out rfl (all_oneCell_toArray OC0.out) ?_
             have HZn := hid (HZ.out.set (k := G) (C := C0) (t := 49) (by simp) C0 [] (fun x q => by cases q))
             clear HZ
             have HZ := HZn
             clear HZn
             refine hK.out _ _ (KSX.out _ _ _ _ HZ.out) ?_
             clear hK K hHeld
             intro hHeld
             try go_frame
             refine tkA 20 (.int .i64 0) rfl hHeld ?_
             try go_frame
             refine tkA 21 (.int .i64 152) rfl hHeld ?_
             try go_frame
             refine wdA ?_
             clear hHeld
             refine hK1 _ _ (Met.intro (hJ1 _ _ ?_))
             (repeat apply Exists.intro)
             exact ⟨⟨G, S4, rfl, rfl, rfl, HZ.out⟩, rfl⟩
       case rest =>
       obtain ⟨G24, S20, rfl, rfl, rfl, hZ4⟩ := hcut
       clear HZ HBK
       have HZ := hid hZ4
       clear hZ4
       go_wp2_with fail
       go_roundw
       case rel => exact ⟨k + 1, S20, b' + 79 + 1 + 79 + 79 + 79, by omega, by go_num, HZ.out.cn, HZ.out.lc.sp.st.trans HST.out, HSS.out.of HZ.out.lc.sp, HBL.out.trans (HZ.out.lc.sp.below HC.out.ls.sk), by have := HB'.out; omega⟩
       case measure => simp [intOf]; omega
   · obtain rfl : k = asks.length := by omega
     go_wp2
     go_ret
     exact ⟨S', b', rfl, HC.out, HST.out.trans HST0.out.symm, HSS.out, HB'.out, HBL.out⟩
end Go.Proofs.YtbnghhgeoodphaaGreatDoor
