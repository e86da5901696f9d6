import Derived.Test.YtbnghhgeoodphaaGreatDoorIf1
import Derived.Test.YtbnghhgeoodphaaGreatDoorIwO
import Derived.Deep.DeepCutAuto
import Derived.Maps.RangeWalk
import Derived.Test.YtbnghhgeoodphaaGreatDoorCards
import Derived.Test.YtbnghhgeoodphaaGreatDoorTie
import Derived.ProofKit
import Derived.WalkKit
import Derived.OpenShut
import Derived.SizedLaws
import Derived.Deep.DeepHandedRow
import Derived.Deep.Slices
import Derived.Lib.LaidTab
namespace Go.Proofs.YtbnghhgeoodphaaGreatDoor
set_option maxRecDepth 100000
set_option maxHeartbeats 40000000
set_option linter.unusedVariables false
set_option linter.unusedSimpArgs false
open Go.RowKit
open Go.Proofs.YtbnghhgeoodphaaGreatDoor.Ca (Ct ct0 ctC argV AS)
attribute [local go_sem ↓] Go.wp_at_zero Go.wp_at_succ
theorem lasts_yes (w : World) (hG : Glob w) (wd room : Int) (hf : 1 <= wd /\ wd <= 32 /\ 1 <= room /\ room <= 4096) (first : Int) (T : Nat) (xs : List IR) (hok : ChOk first T xs) (hn1 : 1 <= xs.length) (sp : Option Addr) (cap : Nat) (hS : SrcR w.heap.size w sp xs) (ys : List IR) (hys : ∀ x ∈ ys, IROk x) (hlen : xs.length + ys.length <= 400) (sl : Option Addr) (cl : Nat) (hSl : SrcR w.heap.size w sl ys) (sa : Option Addr) (ca : Nat) (asks : List Ak) (hA : SrcA w.heap.size w sa asks) (hak : ∀ x ∈ asks, AkOk x) (hal : 16 * asks.length <= 140737488351232) (arm : Int) (har : arm <= 9223372036854775807) (fs : List Int) (hfb : Bts fs) (sf : Option Addr) (cf : Nat) (hSf : Src w sf cf fs) (hsf : ∀ a, 0 < fs.length -> sf = some a -> a.block < w.heap.size) :
   Calls Tryz.prog 5 #[.int .i64 wd, .int .i64 room, .int .i64 first, .int .i64 T, .slice sp xs.length cap, .slice sl ys.length cl, .slice sa asks.length ca, .int .i64 arm, .slice sf fs.length cf] w fun e w' => e = .returned (.bool true) /\ Below w.heap.size w w' := by
 have hni : (xs.length : Int) + (ys.length : Int) <= 400 := by omega
 have hnx : 1 <= (xs.length : Int) := by omega
 have hny : 0 <= (ys.length : Int) := by omega
 have hokA : ∀ k, ChOk first T (xs ++ ys.take k) := fun k => ⟨hok.f0, hok.f1, hok.T8, by rw [List.length_append, List.length_take]; omega, fun x hx => by
   rcases List.mem_append.1 hx with z | z
   · exact hok.ok x z
   · exact hys x (List.mem_of_mem_take z)⟩
 have hT8 : (T : Int) <= 8 := by have := hok.T8; omega
 have KF := hid (fits_yes w wd room hf)
 have KB := hid (hbounded_yes w first T sp xs.length cap ⟨hok.f0, hok.f1, by omega, by omega, by omega, by omega⟩)
 have KR := hid (fresh_any w wd room ⟨hf.1, hf.2.1⟩ ⟨hf.2.2.1, hf.2.2.2⟩)
 have HF := hid hf
 have HS := hid hS
 have HSL := hid hSl
 have HYS := hid hys
 have HA := hid hA
 have HAK := hid hak
 have HAL := hid hal
 have HOK := hid hok
 have HOKA := hid hokA
 have HN1 := hid hn1
 have HGL := hid hG
 have HLEN := hid hlen
 have HFS := hid (And.intro hfb (And.intro hSf hsf))
 have HAR := hid har
 have hbase := hid (Nat.le_refl w.heap.size)
 clear hf hok hokA hS hSl hys hn1 hA hak hal hG hlen hfb hSf hsf har
 go_enter Tryz.func5, Tryz.ntmps5
 go_wp2_with fail
 refine KF.out.mono ?_
 rintro e w' ⟨rfl, rfl⟩
 go_wp2_with fail
 refine KB.out.mono ?_
 rintro e w' ⟨rfl, rfl⟩
 go_wp2_with fail
 refine KR.out.mono ?_
 rintro e w1 ⟨S1, o1, rfl, hL1, hK1, hb1, hw1⟩
 have KM := hid (made_any w1 w.heap.size S1 0 hL1 (by omega) S1.sd ⟨hK1.hs.np, rfl, rfl, rfl⟩ first T xs HOK.out sp cap (HS.out.below hb1))
 have HB1 := hid hb1
 have HW1 := hid hw1
 have HK1 := hid hK1
 clear hL1 hb1 hw1 hK1 KF KB KR
 obtain ⟨dp, hdp⟩ : ∃ dp, S1.p = dp := ⟨_, rfl⟩
 obtain ⟨st, hst⟩ : ∃ st, S1.st = st := ⟨_, rfl⟩
 rw [hdp, hst]
 rw [hst] at KM
 have HDP := hid hdp
 clear hdp hst
 go_wp2_with fail
 refine KM.out.mono ?_
 rintro e w2 ⟨S2, c, rv, pv, b2, rfl, hC2, hs2, hn2, hb2, hl2⟩
 obtain ⟨gp, pc, hpv, hcell, hp1, hp2⟩ := hC2.page (xs.length - 1) (by rw [pgsOf_len]; have := HN1.out; omega)
 rw [pgsOf_len] at hpv hp1
 rw [pgsOf_at T xs.length (xs.length - 1) (by have := HN1.out; omega), show xs.length - 1 + 1 = xs.length by have := HN1.out; omega] at hcell
 subst hpv
 have hpg : pgN T xs.length = ((1 + T + xs.length : Nat) : Int) := if_neg (by have := HN1.out; omega)
 have HK2 := hid (HK1.out.nps hn2 hC2.ls.sk.da.ok)
 have KFL := hid (ls_flush w2 w.heap.size S2 (chP first T xs) b2 hC2.ls o1 [] 2000 HK2.out (by omega) (by omega) (pgN T xs.length) (by rw [hpg, chP_len]; omega))
 rw [hs2] at KFL
 have c2 := hC2.c2
 have HC2 := hid hC2
 have HB2 := hid (HB1.out.trans hb2)
 have HS2 := hid hs2
 have HL2 := hid hl2
 have HN2 := hid hn2
 have HP2 := hid (And.intro hp1 hp2)
 have hidx : ((xs.length : Int) - 1).toNat = xs.length - 1 := by omega
 have HPG := hid hpg
 generalize hH1 : pgN T xs.length = h1 at *
 have HH1 := hid hH1
 clear hC2 hs2 hn2 hb2 hl2 KM HB1 hp1 hp2 hpg hH1
 go_wp2_with fail
 refine KFL.out.mono ?_
 rintro e w3 ⟨rfl, S3, hL3, hK3, hv3, ⟨hw3, hh3⟩, hq3, hb3⟩
 have HC3 := hid (((HC2.out.cha.step hq3.fr hq3.gr) |> fun z => (by rw [<- hq3.st] at z; exact z.cn hL3 : Cn w3 w.heap.size S3 (chP first T xs) (b2 + 1) c rv _ (recsOf first T xs) (pgsOf T xs.length))))
 have HST3 := hid (hq3.st.trans HS2.out)
 have HB3 := hid (HB2.out.trans hb3)
 have HK3 := hid hK3
 have HP3 := hid (show S3.p = dp from (hq3.p.trans HN2.out.2.2.2).trans HDP.out)
 have HW3 := hid (show S3.s.wd = wd by rw [hw3, HN2.out.2.1]; exact HW1.out)
 have HH3 := hid hh3
 have HNP3 := hid (show NpS S3 S3.sd from ⟨hK3.hs.np, rfl, rfl, rfl⟩)
 clear hL3 hK3 hv3 hw3 hh3 hq3 hb3 KFL HC2 c2 hcell HN2 HW1 HK1 HK2 HB2
 go_wp2
 go_loopw [22] (fun i w' => ∃ (k : Nat) (S' : Sto) (rv' pv' : Value) (b' : Nat), k <= ys.length /\ i = .int .i64 k /\ Cn w' w.heap.size S' (chP first T (xs ++ ys.take k)) b' c rv' pv' (recsOf first T (xs ++ ys.take k)) (pgsOf T (xs.length + k)) /\ S'.st = st /\ NpS S' S3.sd /\ Below w.heap.size w w' /\ b' <= 200000000 + 5000 * k) (fun i _ => ys.length - (intOf i).toNat)
 case atStart => exact ⟨0, S3, rv, _, b2 + 1, by omega, rfl, by simpa using HC3.out, HST3.out, HNP3.out, HB3.out, by have := HL2.out; omega⟩
 case round =>
   obtain ⟨k, S', rv', pv', b', hk, rfl, hC, hs, hn, hbl, hb'⟩ := hrel
   have HC := hid hC
   have HST := hid hs
   have HNP := hid hn
   have HBL := hid hbl
   have HB' := hid hb'
   clear hC hs hn hbl hb' HC3 HB3
   by_cases hk2 : k < ys.length
   · have i1 : (k : Int) < (ys.length : Int) := by omega
     obtain ⟨rb, ro, q1, q2, q3⟩ := HSL.out.below HBL.out
     have hsp := q2 (by omega)
     subst hsp
     have hxo : IROk (ys.getD k dIR) := HYS.out _ (by rw [List.getD_eq_getElem?_getD, List.getElem?_eq_getElem hk2]; exact List.getElem_mem _)
     have RG := hid (q3 k hk2)
     have SZ := hid (show (Tryz.prog.info? 61).map (·.size) = some (irC (ys.getD k dIR)).length by rw [sizeIr, irC_len _ hxo])
     have hkn : (xs ++ ys.take k).length = xs.length + k := by rw [List.length_append, List.length_take]; omega
     have hsn : xs ++ ys.take (k + 1) = (xs ++ ys.take k) ++ [ys.getD k dIR] := by rw [take_snoc ys k hk2, List.append_assoc]
     have KA := hid (cadd_any wr w.heap.size S' first T (xs ++ ys.take k) (ys.getD k dIR) b' c rv' pv' (by rw [hkn]; exact HC.out) (by rw [<- hsn]; exact HOKA.out (k + 1)) (by have := HB'.out; have := HLEN.out; omega) S3.sd HNP.out)
     rw [hkn, <- hsn] at KA
     clear q1 q2 q3 hxo hkn hsn
     generalize ys.getD k dIR = xk at RG SZ KA
     go_wp2_with (first
       | refine wpList_load_mid_w (by rfl) 61 _ (by rfl) rb (ro + k * 34) (by rfl) (irC xk) _ RG.out Tryz.underlying61 rfl SZ.out ?_)
     refine KA.out.mono ?_
     rintro e w4 ⟨S4, rv4, pv4, rfl, hC4, hs4, hn4, hb4⟩
     have HC4 := hid hC4
     have HS4 := hid (hs4.trans HST.out)
     have HN4 := hid hn4
     have HB4 := hid (HBL.out.trans hb4)
     clear hC4 hs4 hn4 hb4
     go_wp2
     go_roundw
     case rel => exact ⟨k + 1, S4, rv4, pv4, b' + 5000, by omega, by go_num, HC4.out, HS4.out, HN4.out, HB4.out, by have := HB'.out; omega⟩
     case measure => simp [intOf]; omega
   · obtain rfl : k = ys.length := by omega
     as_aux_lemma =>
     have hCx : Cn wr w.heap.size S' (chP first T (xs ++ ys)) b' c rv' pv' (recsOf first T (xs ++ ys)) (pgsOf T (xs.length + ys.length)) := by have := HC.out; rwa [List.take_length] at this
     have HCX := hid hCx
     clear hCx HC
     have hokx : ChOk first T (xs ++ ys) := by have := HOKA.out ys.length; rwa [List.take_length] at this
     have HOKX := hid hokx
     clear hokx
     obtain ⟨gp2, pc2, hpv2, hcell2, hp3, hp4⟩ := HCX.out.page (xs.length + ys.length - 1) (by rw [pgsOf_len]; have := HN1.out; omega)
     rw [pgsOf_len] at hpv2 hp3
     rw [pgsOf_at T (xs.length + ys.length) (xs.length + ys.length - 1) (by have := HN1.out; omega), show xs.length + ys.length - 1 + 1 = xs.length + ys.length by have := HN1.out; omega] at hcell2
     obtain ⟨gr2, rc2, hrv2, _, hr3, hr4⟩ := HCX.out.rec' (recsOf_ok HOKX.out) 0 (by rw [recsOf_len, List.length_append]; have := HN1.out; omega)
     rw [recsOf_len, List.length_append] at hrv2 hr3
     subst hpv2 hrv2
     have hnl1 : xs.length <= xs.length + ys.length /\ xs.length + ys.length <= 400 := ⟨by omega, HLEN.out⟩
     generalize hnl : xs.length + ys.length = nl at *
     have HNL := hid hnl
     obtain ⟨hnlx, hnl4⟩ := hnl1
     have hnli : (nl : Int) <= 400 := by omega
     have hnl0 : 1 <= (nl : Int) := by have := HN1.out; omega
     clear hnl
     have HPQ := hid (And.intro (And.intro hp3 hp4) (And.intro hr3 hr4))
     have hpg2 : pgN T (nl) = ((1 + T + (nl) : Nat) : Int) := if_neg (by have := HN1.out; omega)
     have HPG2 := hid hpg2
     have HKX := hid (HK3.out.nps HNP.out HCX.out.ls.sk.da.ok)
     have hPX := HCX.out.ls.split HKX.out
     have KAR := hid (ls_arm wr w.heap.size S' _ b' HCX.out.ls _ _ _ HKX.out arm HAR.out)
     rw [show S'.p = dp from HNP.out.2.2.2.trans HP3.out] at KAR
     have HPX := hid hPX
     have hn34 := hp3
     clear hp3 hp4 hr3 hr4 hpg2 hPX
     go_wp2_with fail
     refine KAR.out.mono ?_
     rintro e w5 ⟨rfl, S5, ⟨q1, q2, q3, q4, q5, q6⟩, hK5, hq5, hb5⟩
     have HCA5 := hid (HCX.out.cha.step hq5.fr hq5.gr)
     rw [HST.out] at HCA5
     have HB5 := hid (HBL.out.trans hb5)
     have KFA := hid (fun w6 (hb : Below w5.heap.size w5 w6) => ls_flushA w6 w.heap.size S5 (hK5.below hb) (by rw [q3, q6]; exact HCX.out.ls.lv) S2.s (chP first T xs) (chP first T (xs ++ ys)) (by rw [q1]; exact HKX.out.hs.reads (hK5.da.ok) (by rw [q3]) (by rw [q3]) (by rw [q3]; exact HKX.out.hs.pw)) (by rw [q2]; exact HPX.out) (by rw [q2]; exact HCX.out.ls.vok) q4 (by rw [q3]; show 0 <= max arm 0; omega) (by rw [chP_len, List.length_append]; have := HOK.out.T8; have := HNL.out; omega) 7000 (by omega) (by rw [q3]; exact HKX.out.wr) (by rw [q3]; exact HKX.out.sy) (by rw [q1]; exact HKX.out.ge) (by rw [q3]; exact HKX.out.ep) (by rw [q5]; have := HCX.out.ls.N; have := HB'.out; have := HLEN.out; omega) (pgN T (nl)) (by rw [HPG2.out, chP_len, List.length_append]; have := HNL.out; omega))
     have E5 := hid (show S5.st = st /\ S5.s = S3.s /\ S5.D.epoch <= 7000 /\ S5.D.reads <= 1000 + (b' : Int) /\ S5.p = dp from ⟨hq5.st.trans HST.out, q1.trans HNP.out.2.1, by rw [q3]; exact HKX.out.ep, by rw [q3]; exact HCX.out.ls.rd, hq5.p.trans (HNP.out.2.2.2.trans HP3.out)⟩)
     clear hK5 hq5 hb5 KAR HCX HKX q1 q2 q3 q4 q5 q6
     rw [E5.out.1] at KFA
     have HCAd : Hid (ChA w5.drew w.heap.size c st _ _ _ _ S5.fp) := hid (HCA5.out.below (Below.refl _ _).drew)
     have HCP6 : ∀ {W : World} {gg cc : Nat}, W.ownsRow w.heap.size 3 1 (.slice (some ⟨gg, 0, none⟩) (nl) cc) (pgsOf T (nl)).length ((pgsOf T (nl)).map (Value.int .i64)) -> W.cell? ⟨gg, nl - 1, none⟩ = some (.int .i64 (pgN T (nl))) := fun {W gg cc} po => by
       have := pages_cell po (nl - 1) (by have := HN1.out; omega)
       rwa [show nl - 1 + 1 = nl by have := HN1.out; omega] at this
     have Z16 : Hid (w5.drew.cell? ⟨c, 2, none⟩ = some (.slice (some ⟨gp2, 0, none⟩) (nl) pc2) /\ w5.drew.cell? ⟨gp2, nl - 1, none⟩ = some (.int .i64 (pgN T (nl)))) := hid ⟨by rw [cell_of_row _ _ _ _ _ _ HCAd.out.row]; rfl, HCP6 HCAd.out.po⟩
     have hidx2 : ((nl : Int) - 1).toNat = nl - 1 := by omega
     go_upto_region 16 with fail
     refine wp_region_noPanic ?_
     refine wp_region_held_drew (S := fun w' => w'.cell? ⟨c, 2, none⟩ = some (.slice (some ⟨gp2, 0, none⟩) (nl) pc2) /\ w'.cell? ⟨gp2, nl - 1, none⟩ = some (.int .i64 (pgN T (nl)))) (by kernel_rfl) Z16.out (fun hHeld => ?_)
     refine tkA 0 (.pointer (some ⟨st, 0, none⟩)) rfl hHeld ?_
     try go_frame
     refine tkA 1 (.pointer (some ⟨c, 0, none⟩)) rfl hHeld ?_
     try go_frame
     refine tkA 5 (.pointer (some ⟨c, 0, none⟩)) rfl hHeld ?_
     try go_frame
     refine tkA 2 (.pointer (some ⟨c, 0, none⟩)) rfl hHeld ?_
     try go_frame
     refine tkA 6 (.pointer (some ⟨c, 0, none⟩)) rfl hHeld ?_
     try go_frame
     refine tkA 3 (.pointer (some ⟨c, 2, none⟩)) rfl hHeld ?_
     try go_frame
     refine tkA 7 (.pointer (some ⟨c, 2, none⟩)) rfl hHeld ?_
     try go_frame
     refine tqA 4 (.slice (some ⟨gp2, 0, none⟩) (nl) pc2) rfl (yA (by intro w hS; have hc := hS.1; go_simp)) hHeld ?_
     try go_frame
     refine tqA 8 (.slice (some ⟨gp2, 0, none⟩) (nl) pc2) rfl (yA (by intro w hS; have hc := hS.1; go_simp)) hHeld ?_
     try go_frame
     refine tkA 9 (.int .i64 (nl : Int)) rfl hHeld ?_
     try go_frame
     refine tqA 10 (.int .i64 ((nl : Int) - 1)) rfl (yA (by intro w hS; go_simp; rw [IntKind.wrap_i64]; omega)) hHeld ?_
     try go_frame
     refine tqA 11 (.pointer (some ⟨gp2, nl - 1, none⟩)) rfl (yA (by intro w hS; go_simp; intro h; omega)) hHeld ?_
     try go_frame
     refine tqA 12 (.int .i64 (pgN T (nl))) rfl (yA (by intro w hS; have hc := hS.2; go_simp)) hHeld ?_
     try go_frame
     refine rdA 13 rfl (fun K hK => ?_)
     go_simp
     go_at_call 11
     refine (KFA.out _ (Below.refl _ _).drew).mono ?_
     rintro e w6 ⟨S6, s2, x6, rfl, hs26, hK6, ⟨he6, hr6⟩, hH6, hq6, hb6⟩
     have HCA6 := hid (HCAd.out.step hq6.fr hq6.gr)
     have HB6 := hid ((HB5.out.drew).trans hb6)
     have HK6 := hid hK6
     have HX6 := hid (And.intro hs26 (And.intro he6 (And.intro hr6 hH6)))
     have HP6 := hid (hq6.p.trans E5.out.2.2.2.2)
     clear hs26 hK6 he6 hr6 hH6 hq6 hb6
     go_wp2_with fail
     refine hK.out _ _ (⟨by rw [cell_of_row _ _ _ _ _ _ HCA6.out.row]; rfl, HCP6 HCA6.out.po⟩) ?_
     clear hK K hHeld
     intro hHeld
     try go_frame
     refine wdA ?_
     clear hHeld Z16 KFA HCAd HCA5
     have KCR := hid (Crash_any w6 w.heap.size S6.F S6.p S6.D HK6.out.da (by rw [HX6.out.2.1]; have := E5.out.2.2.1; omega) fs HFS.out.1 sf cf (SrcB HFS.out.2.1 HB6.out (fun p a e => HFS.out.2.2 a p e)) (fun a h1 h2 z => by have := (HK6.out.da.lt _ z).1; have := HFS.out.2.2 a h1 h2; omega))
     rw [HP6.out] at KCR
     go_wp2_with fail
     refine KCR.out.mono ?_
     rintro e w7 ⟨rfl, F7, hD7, hF7, hG7⟩
     have HCA7 : Hid (ChA w7 w.heap.size c st _ _ _ _ F7) := hid (HCA6.out.step (hF7.wider fun x hx => (Sto.mem S6 x).2 (by simp [hx])) (fun x hx => (hG7 x hx).imp (fun z => (Sto.mem S6 x).2 (by simp [z])) id))
     have HB7 := hid (HB6.out.trans (hF7.below (fun x hx => (HK6.out.da.lt x hx).1) HK6.out.base))
     obtain ⟨s9, o9, L9, hH9, hcase⟩ : ∃ s9 o9 L9, Hs (S6.D.crashed fs) 4096 s9 o9 L9 /\ ((s9 = s2 /\ L9 = chP first T (xs ++ ys)) \/ (s9 = S3.s /\ L9 = chP first T xs)) := by
       rcases HX6.out.2.2.2 fs with z | z
       · exact ⟨_, _, _, z, Or.inl ⟨rfl, rfl⟩⟩
       · exact ⟨_, _, _, z, Or.inr ⟨E5.out.2.1, rfl⟩⟩
     have KOP := hid (opened_any w7 w.heap.size F7 dp (S6.D.crashed fs) hD7 (Nat.le_trans hbase.out HB7.out.size) s9 o9 L9 hH9 (b' + 10) (by show S6.D.reads + 2 <= _; rw [HX6.out.2.2.1]; have := E5.out.2.2.2.1; push_cast; omega) (by have := HB'.out; have := HLEN.out; omega) (by show S6.D.epoch + 1 <= _; rw [HX6.out.2.1]; have := E5.out.2.2.1; omega) room ⟨HF.out.2.2.1, HF.out.2.2.2⟩)
     have HWD9 : Hid (s9.wd = wd) := hid (by
       rcases hcase with z | z
       · rw [z.1, HX6.out.1]; show S5.s.wd = wd; rw [E5.out.2.1]; exact HW3.out
       · rw [z.1]; exact HW3.out)
     have HCS : Hid ((s9.hd = pgN T (nl) /\ L9 = chP first T (xs ++ ys)) \/ (s9.hd = h1 /\ L9 = chP first T xs)) := hid (by
       rcases hcase with z | z
       · exact Or.inl ⟨by rw [z.1, HX6.out.1], z.2⟩
       · exact Or.inr ⟨by rw [z.1]; exact HH3.out, z.2⟩)
     clear hD7 hF7 hG7 hH9 hcase KCR HK6 HX6 HP6 HCA6 HB6 E5
     go_wp2_with fail
     refine KOP.out.mono ?_
     rintro e w8 ⟨S8, rfl, ⟨hp8, hs8, hv8, hD8, _⟩, hL8, hH8, ⟨hf8, hg8⟩, hb8⟩
     have HCA8 := hid (HCA7.out.step hf8 hg8)
     have HB8 := hid (HB7.out.trans hb8)
     have HL8 := hid hL8
     have HNP8 := hid (show NpS S8 S8.sd from ⟨hH8.np, rfl, rfl, rfl⟩)
     have HWD8 := hid (show S8.s.wd = wd by rw [hs8]; exact HWD9.out)
     rw [<- hs8] at HCS
     have KSU := hid (fun w9 (hb : Below w8.heap.size w8 w9) => oSuper_any w9 w.heap.size S8 (hL8.sk.below hb))
     obtain ⟨h9, hh9⟩ : ∃ h9, S8.s.hd = h9 := ⟨_, rfl⟩
     rw [hh9] at HCS
     have HH9 := hid hh9
     obtain ⟨st8, hst8⟩ : ∃ st8, S8.st = st8 := ⟨_, rfl⟩
     have HST8 := hid hst8
     rw [hst8] at KSU ⊢
     obtain ⟨hl, hhl⟩ : ∃ hl, pgN T (nl) = hl := ⟨_, rfl⟩
     have HHL := hid hhl
     have HCPP : ∀ {W : World} {gg cc : Nat}, W.ownsRow w.heap.size 3 1 (.slice (some ⟨gg, 0, none⟩) (nl) cc) (pgsOf T (nl)).length ((pgsOf T (nl)).map (Value.int .i64)) -> ∀ j, j < nl -> W.cell? ⟨gg, j, none⟩ = some (.int .i64 (pgN T (j + 1))) := fun {W gg cc} po j hj => pages_cell po j hj
     have hnn := HN1.out
     have ZZ : Hid (∀ W9, Below w8.heap.size w8 W9 -> (W9.cell? ⟨c, 2, none⟩ = some (.slice (some ⟨gp2, 0, none⟩) (nl) pc2) /\ W9.cell? ⟨gp2, nl - 1, none⟩ = some (.int .i64 hl)) /\ W9.cell? ⟨gp2, xs.length - 1, none⟩ = some (.int .i64 h1)) := hid (fun W9 hb => by
       have z := HCA8.out.below hb
       refine ⟨⟨by rw [cell_of_row _ _ _ _ _ _ z.row]; rfl, ?_⟩, ?_⟩
       · have := HCPP z.po (nl - 1) (by omega)
         rw [show nl - 1 + 1 = nl by omega, HHL.out] at this; exact this
       · have := HCPP z.po (xs.length - 1) (by omega)
         rw [show xs.length - 1 + 1 = xs.length by omega, HH1.out] at this; exact this)
     rw [hhl] at HCS
     clear hp8 hs8 hv8 hD8 hL8 hH8 hf8 hg8 hb8 hh9 hst8 hhl KOP HCA7 HB7 HWD9 HCPP
     go_upto_region 22 with fail
     refine wp_region_noPanic ?_
     refine wp_region_held_drew (S := fun w' => w'.cell? ⟨c, 2, none⟩ = some (.slice (some ⟨gp2, 0, none⟩) (nl) pc2) /\ w'.cell? ⟨gp2, nl - 1, none⟩ = some (.int .i64 hl)) (by kernel_rfl) (ZZ.out _ (Below.refl _ _).drew).1 (fun hHeld => ?_)
     refine tkA 0 (.pointer (some ⟨st8, 0, none⟩)) rfl hHeld ?_
     try go_frame
     refine tkA 3 (.pointer (some ⟨c, 0, none⟩)) rfl hHeld ?_
     try go_frame
     refine tkA 7 (.pointer (some ⟨c, 0, none⟩)) rfl hHeld ?_
     try go_frame
     refine tkA 4 (.pointer (some ⟨c, 0, none⟩)) rfl hHeld ?_
     try go_frame
     refine tkA 8 (.pointer (some ⟨c, 0, none⟩)) rfl hHeld ?_
     try go_frame
     refine tkA 5 (.pointer (some ⟨c, 2, none⟩)) rfl hHeld ?_
     try go_frame
     refine tkA 9 (.pointer (some ⟨c, 2, none⟩)) rfl hHeld ?_
     try go_frame
     refine tqA 6 (.slice (some ⟨gp2, 0, none⟩) (nl) pc2) rfl (yA (by intro w hS; have hc := hS.1; go_simp)) hHeld ?_
     try go_frame
     refine tqA 10 (.slice (some ⟨gp2, 0, none⟩) (nl) pc2) rfl (yA (by intro w hS; have hc := hS.1; go_simp)) hHeld ?_
     try go_frame
     refine tkA 11 (.int .i64 (nl : Int)) rfl hHeld ?_
     try go_frame
     refine tqA 12 (.int .i64 ((nl : Int) - 1)) rfl (yA (by intro w hS; go_simp; rw [IntKind.wrap_i64]; omega)) hHeld ?_
     try go_frame
     refine tqA 13 (.pointer (some ⟨gp2, nl - 1, none⟩)) rfl (yA (by intro w hS; go_simp; intro h; omega)) hHeld ?_
     try go_frame
     refine tqA 14 (.int .i64 hl) rfl (yA (by intro w hS; have hc := hS.2; go_simp)) hHeld ?_
     try go_frame
     refine rdA 1 rfl (fun K hK => ?_)
     go_simp
     go_at_call 22
     refine (KSU.out _ (Below.refl _ _).drew).mono ?_
     rintro e w9 ⟨rfl, hb9⟩
     have HB9 := hid ((Below.refl w8.heap.size w8).drew.trans hb9)
     clear hb9
     go_wp2_with fail
     refine hK.out _ _ ((ZZ.out w9 HB9.out).1) ?_
     clear hK K hHeld
     intro hHeld
     try go_frame
     refine tqA 2 (.int .i64 h9) rfl (yieldsIf_fieldS3 (by rfl) _ rfl S8.s h9 HH9.out rfl) hHeld ?_
     try go_frame
     refine tkA 15 (.bool (h9 == hl)) rfl hHeld ?_
     try go_frame
     refine wdA ?_
     clear hHeld
     go_upto_if 133 with fail
     go_cut [24] from 133 to 150 (fun s24 wx => ∃ zs, (zs = xs ++ ys \/ zs = xs) /\ L9 = chP first T zs /\ s24 = .int .i64 (zs.length : Int) /\ Below w8.heap.size w8 wx)
     case first =>
       by_cases e : h9 = hl
       · have eb : (h9 == hl) = true := by simpa using e
         have hL : L9 = chP first T (xs ++ ys) := by
           rcases HCS.out with z | z
           · exact z.2
           · by_cases hy : ys = []
             · rw [hy, List.append_nil]; exact z.2
             · have hyl : 0 < ys.length := List.length_pos_iff.2 hy
               exfalso
               have a1 := HHL.out
               have a2 := HPG2.out
               have a3 := HH1.out
               have a4 := HPG.out
               have a5 := z.1
               have a6 := HNL.out
               omega
         have HLL := hid hL
         have c2 := (ZZ.out w9 HB9.out).1.1
         clear hL e
         go_wp2_with fail
         go_meet
         exact ⟨xs ++ ys, Or.inl rfl, HLL.out, by rw [List.length_append, HNL.out], HB9.out⟩
       · have eb : (h9 == hl) = false := by simpa using e
         have hL : L9 = chP first T xs /\ h9 = h1 := by
           rcases HCS.out with z | z
           · exact absurd z.1 e
           · exact ⟨z.2, z.1⟩
         have HLL := hid hL.1
         have e1 : (h9 != h1) = false := by simpa using hL.2
         clear hL e
         go_upto_region 24 with fail
         refine wp_region_noPanic ?_
         refine wp_region_held_drew (S := fun w' => w'.cell? ⟨c, 2, none⟩ = some (.slice (some ⟨gp2, 0, none⟩) (nl) pc2) /\ w'.cell? ⟨gp2, xs.length - 1, none⟩ = some (.int .i64 h1)) (by kernel_rfl) ⟨(ZZ.out _ HB9.out.drew).1.1, (ZZ.out _ HB9.out.drew).2⟩ (fun hHeld => ?_)
         refine tkA 0 (.pointer (some ⟨st8, 0, none⟩)) rfl hHeld ?_
         try go_frame
         refine tkA 3 (.pointer (some ⟨c, 0, none⟩)) rfl hHeld ?_
         try go_frame
         refine tkA 7 (.int .i64 (xs.length : Int)) rfl hHeld ?_
         try go_frame
         refine tkA 4 (.pointer (some ⟨c, 0, none⟩)) rfl hHeld ?_
         try go_frame
         refine tqA 8 (.int .i64 ((xs.length : Int) - 1)) rfl (yA (by intro w hS; go_simp; rw [IntKind.wrap_i64]; omega)) hHeld ?_
         try go_frame
         refine tkA 5 (.pointer (some ⟨c, 2, none⟩)) rfl hHeld ?_
         try go_frame
         refine tqA 6 (.slice (some ⟨gp2, 0, none⟩) (nl) pc2) rfl (yA (by intro w hS; have hc := hS.1; go_simp)) hHeld ?_
         try go_frame
         refine tqA 9 (.pointer (some ⟨gp2, xs.length - 1, none⟩)) rfl (yA (by intro w hS; go_simp; intro h; omega)) hHeld ?_
         try go_frame
         refine tqA 10 (.int .i64 h1) rfl (yA (by intro w hS; have hc := hS.2; go_simp)) hHeld ?_
         try go_frame
         refine rdA 1 rfl (fun K hK => ?_)
         go_simp
         go_at_call 22
         refine (KSU.out _ HB9.out.drew).mono ?_
         rintro e wA ⟨rfl, hbA⟩
         have HBA := hid (HB9.out.drew.trans (hbA.mono HB9.out.drew.size))
         clear hbA
         go_wp2_with fail
         refine hK.out _ _ (⟨(ZZ.out wA HBA.out).1.1, (ZZ.out wA HBA.out).2⟩) ?_
         clear hK K hHeld
         intro hHeld
         try go_frame
         refine tqA 2 (.int .i64 h9) rfl (yieldsIf_fieldS3 (by rfl) _ rfl S8.s h9 HH9.out rfl) hHeld ?_
         try go_frame
         refine tkA 11 (.bool false) rfl hHeld ?_
         try go_frame
         refine wdA ?_
         clear hHeld
         go_wp2_with fail
         go_meet
         exact ⟨xs, Or.inr rfl, HLL.out, rfl, HBA.out⟩
     case rest =>
     obtain ⟨zs, hzs, hL9, rfl, hb9⟩ := hcut
     obtain ⟨WA, hWA⟩ : ∃ WA, WA = wc := ⟨_, rfl⟩
     rw [<- hWA] at hb9 ⊢
     clear hWA
     have okz : ChOk first T zs := by
       rcases hzs with z | z
       · rw [z]; exact HOKX.out
       · rw [z]; exact HOK.out
     have hzl : 1 <= zs.length /\ zs.length <= nl := by
       rcases hzs with z | z
       · rw [z, List.length_append]; have := HNL.out; omega
       · rw [z]; omega
     have etk : (recsOf first T (xs ++ ys)).take zs.length = recsOf first T zs /\ (pgsOf T (nl)).take zs.length = pgsOf T zs.length := by
       rcases hzs with z | z
       · rw [z]
         refine ⟨List.take_of_length_le (by rw [recsOf_len]; exact Nat.le_refl _), ?_⟩
         rw [List.length_append, HNL.out]
         exact List.take_of_length_le (by rw [pgsOf_len]; exact Nat.le_refl _)
       · rw [z, <- HNL.out]; exact ⟨recsOf_take _ _ _ _, pgsOf_take _ _ _⟩
     have hCA := HCA8.out.below hb9
     have k0 : WA.cell? ⟨c, 0, none⟩ = some (.pointer (some ⟨st, 0, none⟩)) := by rw [cell_of_row _ _ _ _ _ _ hCA.row]; rfl
     have k1 : WA.cell? ⟨c, 1, none⟩ = some (.slice (some ⟨gr2, 0, none⟩) (nl) rc2) := by rw [cell_of_row _ _ _ _ _ _ hCA.row]; rfl
     have k2 : WA.cell? ⟨c, 2, none⟩ = some (.slice (some ⟨gp2, 0, none⟩) (nl) pc2) := by rw [cell_of_row _ _ _ _ _ _ hCA.row]; rfl
     have z0 : WA.frozen? ⟨c, 0, none⟩ = false := frozen_of_row _ _ _ _ _ hCA.row
     have z1 : WA.frozen? ⟨c, 1, none⟩ = false := frozen_of_row _ _ _ _ _ hCA.row
     have z2 : WA.frozen? ⟨c, 2, none⟩ = false := frozen_of_row _ _ _ _ _ hCA.row
     have hRS := hCA.reset (by rw [recsOf_len, List.length_append]; exact HNL.out) (pgsOf_len _ _) (recsOf_ok HOKX.out) st8 zs.length hzl.2
     rw [etk.1, etk.2, <- HST8.out] at hRS
     obtain ⟨WB, hWB⟩ : ∃ WB, ((WA.setCell ⟨c, 0, none⟩ (.pointer (some ⟨st8, 0, none⟩))).setCell ⟨c, 1, none⟩ (.slice (some ⟨gr2, 0, none⟩) zs.length rc2)).setCell ⟨c, 2, none⟩ (.slice (some ⟨gp2, 0, none⟩) zs.length pc2) = WB := ⟨_, rfl⟩
     rw [HST8.out, hWB] at hRS
     have hbw : Below w.heap.size WA WB := by
       rw [<- hWB]
       exact (((Below.refl w.heap.size WA).setCell (p := ⟨c, 0, none⟩) hCA.bc _).setCell (p := ⟨c, 1, none⟩) hCA.bc _).setCell (p := ⟨c, 2, none⟩) hCA.bc _
     have hLB : Ls WB w.heap.size S8 (chP first T zs) (b' + 10) := by
       have := HL8.out.below hb9
       rw [hL9] at this
       refine this.keep (fun i q => ?_) hbw.size
       rw [<- hWB]
       have ne : i ≠ c := fun e => hCA.fc (e ▸ q)
       exact (heap_setCell_other _ ⟨c, 2, none⟩ i _ ne).trans ((heap_setCell_other _ ⟨c, 1, none⟩ i _ ne).trans (heap_setCell_other _ ⟨c, 0, none⟩ i _ ne))
     rw [<- HST8.out] at hRS
     have HCB := hid (hRS.cn hLB)
     have HBB2 := hid (((HB8.out.trans (hb9.mono (HL8.out.sk.base))).trans hbw))
     have KFI := hid (finds_any WB w.heap.size S8 first T zs okz hzl.1 (b' + 10) c _ _ HCB.out (HGL.out.below HBB2.out HGL.out.1) HGL.out.1 wd S8.sd HNP8.out HWD8.out sa ca asks (HA.out.below HBB2.out) HAK.out HAL.out (by have := HAL.out; have := HB'.out; have := HLEN.out; omega))
     have HOKZ := hid okz
     have HZL := hid hzl
     have HWB := hid hWB
     have hz1 : (zs.length : Int) <= (rc2 : Int) := by have := HPQ.out; omega
     have hz2 : (zs.length : Int) <= (pc2 : Int) := by have := HPQ.out; omega
     have hz3 : (zs.length : Int) <= 400 := by have := HLEN.out; omega
     have hz4 : 0 <= (zs.length : Int) := by omega
     have HZS := hid hzs
     clear hb9 hCA hRS hbw hLB okz hzl etk hWB hzs hL9 HCA8 HL8 ZZ KSU HCS HB9
     go_wp2_with fail
     rw [HWB.out]
     refine KFI.out.mono ?_
     rintro e w11 ⟨S11, b11, rfl, hC11, hs11, hn11, hbb11, hb11⟩
     have HC11 := hid hC11
     have HS11 := hid (hs11.trans HST8.out)
     have HN11 := hid hn11
     have HX11 := hid hbb11
     have HB11 := hid (HBB2.out.trans hb11)
     clear hC11 hs11 hn11 hbb11 hb11 KFI HCB HWB HBB2 k0 k1 k2 z0 z1 z2
     have HOKW := hid (show ∀ k, ChOk first T (zs ++ ys.take k) from fun k => ⟨HOKZ.out.f0, HOKZ.out.f1, HOKZ.out.T8, by rw [List.length_append, List.length_take]; have := HZL.out; have := HLEN.out; omega, fun x hx => by
       rcases List.mem_append.1 hx with z | z
       · exact HOKZ.out.ok x z
       · exact HYS.out x (List.mem_of_mem_take z)⟩)
     go_wp2
     go_loopw [25] (fun i w' => ∃ (k : Nat) (S' : Sto) (rv' pv' : Value) (b'' : Nat), k <= ys.length /\ i = .int .i64 k /\ Cn w' w.heap.size S' (chP first T (zs ++ ys.take k)) b'' c rv' pv' (recsOf first T (zs ++ ys.take k)) (pgsOf T (zs.length + k)) /\ S'.st = st8 /\ NpS S' S8.sd /\ Below w.heap.size w w' /\ b'' <= b11 + 5000 * k) (fun i _ => ys.length - (intOf i).toNat)
     case atStart => exact ⟨0, S11, _, _, b11, by omega, rfl, by simpa using HC11.out, HS11.out, HN11.out, HB11.out, by omega⟩
     case round =>
       obtain ⟨k, S', rv', pv', b'', hk, rfl, hC, hs, hn, hbl, hb''⟩ := hrel
       have HC := hid hC
       have HSTR := hid hs
       have HNPR := hid hn
       have HBLR := hid hbl
       have HBR := hid hb''
       clear hC hs hn hbl hb'' HC11 HB11
       have hbig : b'' + 5000 <= 50000000000000000 := by have := HBR.out; have := HX11.out; have := HAL.out; have := HB'.out; have := HLEN.out; omega
       by_cases hk2 : k < ys.length
       · have i1 : (k : Int) < (ys.length : Int) := by omega
         obtain ⟨rb, ro, q1, q2, q3⟩ := HSL.out.below HBLR.out
         have hsp := q2 (by omega)
         subst hsp
         have hxo : IROk (ys.getD k dIR) := HYS.out _ (by rw [List.getD_eq_getElem?_getD, List.getElem?_eq_getElem hk2]; exact List.getElem_mem _)
         have RG := hid (q3 k hk2)
         have SZ := hid (show (Tryz.prog.info? 61).map (·.size) = some (irC (ys.getD k dIR)).length by rw [sizeIr, irC_len _ hxo])
         have hkn : (zs ++ ys.take k).length = zs.length + k := by rw [List.length_append, List.length_take]; omega
         have hsn : zs ++ ys.take (k + 1) = (zs ++ ys.take k) ++ [ys.getD k dIR] := by rw [take_snoc ys k hk2, List.append_assoc]
         have KA := hid (cadd_any wr w.heap.size S' first T (zs ++ ys.take k) (ys.getD k dIR) b'' c rv' pv' (by rw [hkn]; exact HC.out) (by rw [<- hsn]; exact HOKW.out (k + 1)) (by omega) S8.sd HNPR.out)
         rw [hkn, <- hsn] at KA
         clear q1 q2 q3 hxo hkn hsn
         generalize ys.getD k dIR = xk at RG SZ KA
         go_wp2_with (first
           | refine wpList_load_mid_w (by rfl) 61 _ (by rfl) rb (ro + k * 34) (by rfl) (irC xk) _ RG.out Tryz.underlying61 rfl SZ.out ?_)
         refine KA.out.mono ?_
         rintro e w4 ⟨S4, rv4, pv4, rfl, hC4, hs4, hn4, hb4⟩
         have HC4 := hid hC4
         have HS4 := hid (hs4.trans HSTR.out)
         have HN4 := hid hn4
         have HB4 := hid (HBLR.out.trans hb4)
         clear hC4 hs4 hn4 hb4
         go_wp2
         go_roundw
         case rel => exact ⟨k + 1, S4, rv4, pv4, b'' + 5000, by omega, by go_num, HC4.out, HS4.out, HN4.out, HB4.out, by have := HBR.out; omega⟩
         case measure => simp [intOf]; omega
       · obtain rfl : k = ys.length := by omega
         have hCy : Cn wr w.heap.size S' (chP first T (zs ++ ys)) b'' c rv' pv' (recsOf first T (zs ++ ys)) (pgsOf T (zs ++ ys).length) := by have := HC.out; rw [List.take_length] at this; rw [List.length_append]; exact this
         have okw : ChOk first T (zs ++ ys) := by have := HOKW.out ys.length; rwa [List.take_length] at this
         have KFJ := hid (finds_any wr w.heap.size S' first T (zs ++ ys) okw (by rw [List.length_append]; have := HZL.out; omega) b'' c rv' pv' hCy (HGL.out.below HBLR.out HGL.out.1) HGL.out.1 wd S8.sd HNPR.out HWD8.out sa ca asks (HA.out.below HBLR.out) HAK.out HAL.out (by have := HAL.out; omega))
         clear hCy okw HC
         go_wp2_with fail
         refine KFJ.out.mono ?_
         rintro e w12 ⟨S12, b12, rfl, _, _, _, _, hb12⟩
         have HBZ := hid (HBLR.out.trans hb12)
         clear hb12 KFJ
         go_wp2
         go_ret
         exact ⟨rfl, HBZ.out⟩
end Go.Proofs.YtbnghhgeoodphaaGreatDoor
namespace Go.Proofs.YtbnghhgeoodphaaGreatDoor
set_option maxRecDepth 100000
set_option maxHeartbeats 40000000
set_option linter.unusedVariables false
set_option linter.unusedSimpArgs false
open Go.RowKit
attribute [local go_sem ↓] Go.wp_at_zero Go.wp_at_succ
theorem lasts_any (w : World) (hG : Glob w) (wd room first T : Int) (xs : List IR) (hx : ∀ x ∈ xs, IROk x) (sp : Option Addr) (cap : Nat) (hS : SrcR w.heap.size w sp xs) (hl : xs.length <= 140737488351232) (ys : List IR) (hys : ∀ x ∈ ys, IROk x) (sl : Option Addr) (cl : Nat) (hSl : SrcR w.heap.size w sl ys) (hll : ys.length <= 140737488351232) (asks : List Ak) (hak : ∀ x ∈ asks, AkOk x) (sa : Option Addr) (ca : Nat) (hA : SrcA w.heap.size w sa asks) (hal : 16 * asks.length <= 140737488351232) (arm : Int) (har : arm <= 9223372036854775807) (fs : List Int) (hfb : Bts fs) (sf : Option Addr) (cf : Nat) (hSf : Src w sf cf fs) :
   Calls Tryz.prog 5 #[.int .i64 wd, .int .i64 room, .int .i64 first, .int .i64 T, .slice sp xs.length cap, .slice sl ys.length cl, .slice sa asks.length ca, .int .i64 arm, .slice sf fs.length cf] w fun e w' => e = .returned (.bool true) /\ Below w.heap.size w w' := by
 by_cases hf : 1 <= wd /\ wd <= 32 /\ 1 <= room /\ room <= 4096
 · by_cases hbd : 0 <= first /\ first <= 536870912 /\ 0 <= T /\ T <= 8 /\ 1 <= (xs.length : Int) /\ (xs.length : Int) <= 4000
   · by_cases hle : xs.length + ys.length <= 400
     · obtain ⟨b1, b2, b3, b4, b5, b6⟩ := hbd
       obtain ⟨n, rfl⟩ : ∃ n : Nat, T = n := ⟨T.toNat, by omega⟩
       refine lasts_yes w hG wd room hf first n xs ⟨b1, b2, by omega, by omega, hx⟩ (by omega) sp cap hS ys hys hle sl cl hSl sa ca asks hA hak hal arm har fs hfb sf cf hSf (fun a h0 e => ?_)
       obtain ⟨_, _, b, o, q1, q2, _⟩ := hSf
       have e2 := q2 h0
       rw [e] at e2
       cases e2
       exact q1 h0
     · have KF := hid (fits_yes w wd room hf)
       have KB := hid (hbounded_yes w first T sp xs.length cap hbd)
       have h400 : 400 < (xs.length : Int) + (ys.length : Int) := by omega
       have hbig : (xs.length : Int) + (ys.length : Int) <= 281474976702464 := by omega
       clear hf hbd hS hx hA hak hG hys hSl hSf hfb hle
       go_enter Tryz.func5, Tryz.ntmps5
       go_wp2_with fail
       refine KF.out.mono ?_
       rintro e w' ⟨rfl, rfl⟩
       go_wp2_with fail
       refine KB.out.mono ?_
       rintro e w' ⟨rfl, rfl⟩
       go_wp2_with fail
       go_ret
       exact ⟨rfl, Below.refl _ _⟩
   · have KF := hid (fits_yes w wd room hf)
     have KB := hid (hbounded_no w first T sp xs.length cap (by omega) hbd)
     clear hf hbd hS hx hA hak hG hys hSl hSf hfb
     go_enter Tryz.func5, Tryz.ntmps5
     go_wp2_with fail
     refine KF.out.mono ?_
     rintro e w' ⟨rfl, rfl⟩
     go_wp2_with fail
     refine KB.out.mono ?_
     rintro e w' ⟨rfl, rfl⟩
     go_wp2_with fail
     go_ret
     exact ⟨rfl, Below.refl _ _⟩
 · have KF := hid (fits_no w wd room hf)
   clear hf hS hx hA hak hG hys hSl hSf hfb
   go_enter Tryz.func5, Tryz.ntmps5
   go_wp2_with fail
   refine KF.out.mono ?_
   rintro e w' ⟨rfl, rfl⟩
   go_wp2_with fail
   go_ret
   exact ⟨rfl, Below.refl _ _⟩
end Go.Proofs.YtbnghhgeoodphaaGreatDoor
namespace Go.Proofs.YtbnghhgeoodphaaGreatDoor
set_option maxRecDepth 100000
set_option maxHeartbeats 40000000
set_option linter.unusedVariables false
set_option linter.unusedSimpArgs false
open Go.ChangeShapes Go.WideShapes Go.ChangeAt Go.RowKit
theorem own_knob : ownKnob Tryz.prog.godebug = none := by kernel_rfl
theorem Tryz.laidOut : laidOutB Tryz.prog = true := by kernel_rfl
theorem cells5 : Tryz.prog.cellsOf 5 = 1 := by kernel_rfl
theorem Tryz.bytes5 : Tryz.prog.bytesOf 5 = 1 := by kernel_rfl
theorem gF : Tryz.prog.globalNamed "ledger/digest.firstState" = some 0 := by kernel_rfl
theorem gK : Tryz.prog.globalNamed "ledger/digest.roundConstants" = some 1 := by kernel_rfl
theorem gFt : (Tryz.prog.globals[0]?).map (·.type) = some 177 := by kernel_rfl
theorem gKt : (Tryz.prog.globals[1]?).map (·.type) = some 198 := by kernel_rfl
theorem cellsA8 : Tryz.prog.cellsOf 177 = 8 := by kernel_rfl
theorem cellsA64 : Tryz.prog.cellsOf 198 = 64 := by kernel_rfl
theorem cellsU : Tryz.prog.cellsOf 34 = 1 := by kernel_rfl
theorem glob_of {W : World} (hF : Lib.TabIs Tryz.prog W "ledger/digest.firstState" .u32 fTab) (hK : Lib.TabIs Tryz.prog W "ledger/digest.roundConstants" .u32 kTab) : Glob W := by
 have cK : ∀ j, j < 64 -> W.cell? ⟨1, j, none⟩ = some (.int .u32 (kTab.getD j 0)) := fun j hj => hK.cell gK j hj
 have cF : ∀ j, j < 8 -> W.cell? ⟨0, j, none⟩ = some (.int .u32 (fTab.getD j 0)) := fun j hj => hF.cell gF j hj
 refine ⟨by have h1 := block_lt_of_cell (cK 0 (by omega)); have h2 := block_lt_of_cell (cF 0 (by omega)); simp only at h1 h2; omega, fun j v hv => ?_, fun j v hv => ?_⟩
 · have hj : j < kTab.length := by have := (List.getElem?_eq_some_iff.1 hv).1; rwa [ints_len] at this
   rw [ints_get .u32 kTab j hj] at hv
   rw [Nat.zero_add, <- hv]; exact cK j hj
 · have hj : j < fTab.length := by have := (List.getElem?_eq_some_iff.1 hv).1; rwa [ints_len] at this
   rw [ints_get .u32 fTab j hj] at hv
   rw [Nat.zero_add, <- hv]; exact cF j hj
theorem tab2 {W : World} (h : laidMetH Tryz.prog Rows.indexLastsRow.laid W) : Glob W := by
 have hF : Lib.TabIs Tryz.prog W "ledger/digest.firstState" .u32 fTab := Lib.tabIs_of_head (rest := [("ledger/digest.roundConstants", Rows.laid_ledger_digest_roundConstants)]) gF gFt Tryz.underlying177 Tryz.underlying34 cellsU cellsA8 h
 refine glob_of hF ?_
 obtain ⟨ps, ⟨g1, t1, cs1, f1, p1, q1, _, _, _, _, ⟨g2, t2, cs2, f2, p2, q2, hg2, ht2, hv2, hd2, _, _⟩, _⟩, _⟩ := h
 obtain rfl := Option.some.inj (gK.symm.trans hg2)
 obtain rfl := Option.some.inj (gKt.symm.trans ht2)
 unfold Lib.TabIs
 rw [hv2, <- Lib.cells_of_tab (zs := kTab) Tryz.underlying198 Tryz.underlying34 cellsU cellsA64 hd2]
def putTab (zs : List Int) : Obj -> Obj
 | .cells _ t frozen => .cells (ints .u32 zs).toArray t frozen
 | o => o
noncomputable def laidWorld (os : Os) : World :=
 { World.holding Tryz.prog os ⟨#[], #[], []⟩ with heap := ((World.holding Tryz.prog os ⟨#[], #[], []⟩).heap.modify 0 (putTab fTab)).modify 1 (putTab kTab) }
theorem cellsD : Tryz.prog.cellsOf 47 = 32 := by kernel_rfl
def WS {H : Type} (t : TypeId) (d : DataW H) : Prop := ∀ n ∈ d.weights Tryz.prog t, n <= reachBytes
theorem weightsAll_mem {H : Type} {P : Program} {e : TypeId} : ∀ {l : List (DataW H)} {d : DataW H}, d ∈ l -> ∀ n ∈ d.weights P e, n ∈ DataW.weightsAll P e l
 | x :: l, d, hd, n, hn => by
   simp only [DataW.weightsAll, List.mem_append]
   rcases List.mem_cons.1 hd with rfl | h
   · exact Or.inl hn
   · exact Or.inr (weightsAll_mem h n hn)
theorem WS.slice {H : Type} {t e : TypeId} {el sp : List (DataW H)} (hu : Tryz.prog.underlying t = some (.slice e)) (h : WS t (.slice el sp)) : (el.length + sp.length) * Tryz.prog.bytesOf e <= reachBytes /\ ∀ d ∈ el, WS e d :=
 ⟨h _ (by simp [DataW.weights, hu]), fun d hd n hn => h n (by
   simp only [DataW.weights, hu, List.mem_cons, List.mem_append]
   exact Or.inr (Or.inl (weightsAll_mem hd n hn)))⟩
section
variable {H : Type} {enc : TypeId × Value -> H} {W : World}
theorem open_dig {fuel : Nat} {cs : List Value} {x : DataW H × List MemPlace} (h : DataW.trod enc Tryz.prog W 0 (fun _ => true) true fuel 47 cs = some x) : ∃ k : List Int, cs = ints .u8 k /\ k.length = 32 /\ Bys k := by
 cases fuel with
 | zero => simp [DataW.trod] at h
 | succ n =>
   rw [DataW.trod_step] at h
   unfold DataW.trodStep at h
   simp only [Tryz.underlying47, cellsD, cells5] at h
   split at h
   · rename_i hl
     obtain ⟨xs, hm, _⟩ := Option.map_eq_some_iff.1 h
     have each : ∀ i, i < 32 -> ∃ z, cs[i]? = some (.int .u8 z) /\ 0 <= z /\ z < 256 := fun i hi => by
       have := mapM_some_get hm i i (by simp [hi])
       have hxl := mapM_some_length hm
       simp at hxl
       rw [List.getElem?_eq_getElem (by omega)] at this
       obtain ⟨z, hz, _, hw⟩ := DataW.trod_int Tryz.underlying5 this
       have hb := bounds_u8 hw
       refine ⟨z, ?_, by omega, by omega⟩
       have e : ((cs.drop (i * 1)).take 1)[0]? = cs[i]? := by simp
       rw [<- e, hz]; rfl
     refine ⟨cs.map intOf, ?_, by simp [hl], ?_⟩
     · apply List.ext_getElem?
       intro i
       by_cases hi : i < 32
       · obtain ⟨z, hz, _⟩ := each i hi
         simp [ints, hz, intOf]
       · rw [List.getElem?_eq_none (by omega), List.getElem?_eq_none (by simp [ints]; omega)]
     · intro y hy
       obtain ⟨v, hv, rfl⟩ := List.mem_map.1 hy
       obtain ⟨i, hi, rfl⟩ := List.mem_iff_getElem.1 hv
       obtain ⟨z, hz, h1, h2⟩ := each i (by omega)
       rw [List.getElem?_eq_getElem hi] at hz
       rw [Option.some.inj hz]; exact ⟨h1, h2⟩
   · cases h
end
theorem cut_at (l : List Value) (n m : Nat) : l.drop n = (l.drop n).take m ++ l.drop (n + m) := by
 have := (List.take_append_drop m (l.drop n)).symm
 rwa [List.drop_drop] at this
theorem open_irow {H : Type} {enc : TypeId × Value -> H} {W : World} {fuel : Nat} {nd : List Value} {x : DataW H × List MemPlace} (hnl : nd.length = 34) (g8 : DataW.trod enc Tryz.prog W 0 (fun _ => true) true fuel 61 nd = some x) :
   ∃ (r : IR), nd = irC r /\ IROk r := by
 obtain ⟨ys, kn, _, hxy, _, hyl, hfn⟩ := DataW.trod_struct (x := x) Tryz.underlying61 g8
 have hyl' : ys.length = 3 := hyl
 have n0 : DataW.trod enc Tryz.prog W 0 (fun _ => true) true kn 3 ((nd.drop 0).take 1) = some ys[0] := by
   have := hfn 0 _ rfl
   rw [List.getElem?_eq_getElem (by omega)] at this
   change DataW.trod enc Tryz.prog W 0 (fun _ => true) true kn 3 ((nd.drop 0).take (Tryz.prog.cellsOf 3)) = _ at this
   rw [show Tryz.prog.cellsOf 3 = 1 by kernel_rfl] at this; exact this
 have n1 : DataW.trod enc Tryz.prog W 0 (fun _ => true) true kn 3 ((nd.drop 1).take 1) = some ys[1] := by
   have := hfn 1 _ rfl
   rw [List.getElem?_eq_getElem (by omega)] at this
   change DataW.trod enc Tryz.prog W 0 (fun _ => true) true kn 3 ((nd.drop 1).take (Tryz.prog.cellsOf 3)) = _ at this
   rw [show Tryz.prog.cellsOf 3 = 1 by kernel_rfl] at this; exact this
 have n2 : DataW.trod enc Tryz.prog W 0 (fun _ => true) true kn 47 ((nd.drop 2).take 32) = some ys[2] := by
   have := hfn 2 _ rfl
   rw [List.getElem?_eq_getElem (by omega)] at this
   change DataW.trod enc Tryz.prog W 0 (fun _ => true) true kn 47 ((nd.drop 2).take (Tryz.prog.cellsOf 47)) = _ at this
   rw [show Tryz.prog.cellsOf 47 = 32 by kernel_rfl] at this; exact this
 obtain ⟨y0, f0, _⟩ := DataW.trod_int (k := .i64) (by kernel_rfl) n0
 obtain ⟨y1, f1, _⟩ := DataW.trod_int (k := .i64) (by kernel_rfl) n1
 obtain ⟨u2, f2, l2, b2⟩ := open_dig n2
 have hne : nd = [.int .i64 y0] ++ ([.int .i64 y1] ++ (ints .u8 u2 ++ nd.drop 34)) := by
   rw [<- f0, <- f1, <- f2, <- cut_at nd 2 32, <- cut_at nd 1 1, <- cut_at nd 0 1]; rfl
 rw [List.drop_of_length_le (by omega : nd.length <= 34), List.append_nil] at hne
 exact ⟨⟨y0, y1, u2⟩, hne, ⟨l2, b2⟩⟩
theorem cellsIr : Tryz.prog.cellsOf 61 = 34 := by kernel_rfl
theorem bytesIr : Tryz.prog.bytesOf 61 = 48 := by kernel_rfl
theorem open_irows {H : Type} {enc : TypeId × Value -> H} {W : World} {fuel : Nat} {v : Value} {d : DataW H} {p : List MemPlace} (hw : WS 22 d) (hf : DataW.trod enc Tryz.prog W 0 (fun _ => true) true fuel 22 [v] = some (d, p)) :
   ∃ (xs : List IR) (sp : Option Addr) (cap : Nat), v = .slice sp xs.length cap /\ SrcR W.heap.size W sp xs /\ (∀ x ∈ xs, IROk x) /\ xs.length <= 140737488351232 := by
 rcases Deep.open_slice Tryz.underlying22 hf with ⟨hcs, hx⟩ | ⟨a, len, cap, m, n, D, Pl, hcs, _, hl, hm, hmm, hx, hrow⟩
 · simp at hcs
   subst hcs
   exact ⟨[], none, 0, rfl, ⟨0, 0, fun h => by simp at h, fun h => by simp at h, fun i hi => by simp at hi⟩, fun c hc => by simp at hc, by simp⟩
 · simp at hcs
   subst hcs
   simp only [Prod.mk.injEq] at hx
   obtain ⟨rfl, _⟩ := hx
   simp only [if_true] at hmm
   subst hmm
   obtain ⟨w1, w2⟩ := hw.slice Tryz.underlying22
   rw [bytesIr] at w1
   simp [reachBytes] at w1
   have each : ∀ i, i < len -> ∃ q : IR, (∀ j u, (irC q)[j]? = some u -> W.cell? (a.add (i * 34 + j)) = some u) /\ IROk q := by
     intro i hi
     obtain ⟨cs', h1, h2⟩ := hrow i (by omega)
     rw [cellsIr] at h1
     obtain ⟨_, hlen, hcell⟩ := World.cells?_some h1
     obtain ⟨q, hq, ok⟩ := open_irow (by omega) h2
     refine ⟨q, fun j u hu => ?_, ok⟩
     rw [<- hq] at hu
     have hj := (List.getElem?_eq_some_iff.1 hu).1
     have := hcell j (by omega)
     rw [Deep.add_add] at this
     rw [this, hu]
   haveI : Inhabited IR := ⟨dIR⟩
   obtain ⟨q, hq⟩ := Deep.choose_lt (α := IR) each
   have gm : ∀ i, i < len -> ((List.range len).map q).getD i dIR = q i := fun i hi => by simp [hi]
   have hlen : ((List.range len).map q).length = len := by simp
   have okc : ∀ c ∈ (List.range len).map q, IROk c := fun c hc => by
     obtain ⟨i, hi, rfl⟩ := List.mem_map.1 hc
     exact (hq i (List.mem_range.1 hi)).2
   refine ⟨(List.range len).map q, some a, _, by rw [hlen], ?_, okc, by rw [hlen]; omega⟩
   by_cases hz : 0 < len
   · have c0 := (hq 0 hz).1 0 (.int .i64 (q 0).root) rfl
     have hsp : a.spot = none := by
       have := World.cell?_spot c0
       unfold Addr.add at this; split at this <;> simp_all
     obtain ⟨b, o, spot⟩ := a
     obtain rfl : spot = none := hsp
     rw [Addr.add_mid] at c0
     refine ⟨b, o, fun _ => block_lt_of_cell c0, fun _ => rfl, fun j hj i v hv => ?_⟩
     rw [hlen] at hj
     rw [gm j hj] at hv
     have := (hq j hj).1 i v hv
     rw [Addr.add_mid] at this
     rw [<- this]; congr 1; simp [Nat.add_assoc]
   · exact ⟨0, 0, fun h => by omega, fun h => by omega, fun j hj => by omega⟩
theorem cellsAk : Tryz.prog.cellsOf 45 = 2 := by kernel_rfl
theorem bytesAk : Tryz.prog.bytesOf 45 = 16 := by kernel_rfl
theorem open_ask {H : Type} {enc : TypeId × Value -> H} {W : World} {fuel : Nat} {nd : List Value} {x : DataW H × List MemPlace} (hnl : nd.length = 2) (g8 : DataW.trod enc Tryz.prog W 0 (fun _ => true) true fuel 45 nd = some x) :
   ∃ (r : Ak), nd = akC r /\ AkOk r := by
 obtain ⟨ys, kn, _, hxy, _, hyl, hfn⟩ := DataW.trod_struct (x := x) Tryz.underlying45 g8
 have hyl' : ys.length = 2 := hyl
 have n0 : DataW.trod enc Tryz.prog W 0 (fun _ => true) true kn 3 ((nd.drop 0).take 1) = some ys[0] := by
   have := hfn 0 _ rfl
   rw [List.getElem?_eq_getElem (by omega)] at this
   change DataW.trod enc Tryz.prog W 0 (fun _ => true) true kn 3 ((nd.drop 0).take (Tryz.prog.cellsOf 3)) = _ at this
   rw [show Tryz.prog.cellsOf 3 = 1 by kernel_rfl] at this; exact this
 have n1 : DataW.trod enc Tryz.prog W 0 (fun _ => true) true kn 3 ((nd.drop 1).take 1) = some ys[1] := by
   have := hfn 1 _ rfl
   rw [List.getElem?_eq_getElem (by omega)] at this
   change DataW.trod enc Tryz.prog W 0 (fun _ => true) true kn 3 ((nd.drop 1).take (Tryz.prog.cellsOf 3)) = _ at this
   rw [show Tryz.prog.cellsOf 3 = 1 by kernel_rfl] at this; exact this
 obtain ⟨y0, f0, _, w0⟩ := DataW.trod_int (k := .i64) (by kernel_rfl) n0
 obtain ⟨y1, f1, _, w1⟩ := DataW.trod_int (k := .i64) (by kernel_rfl) n1
 have hne : nd = [.int .i64 y0] ++ ([.int .i64 y1] ++ nd.drop 2) := by
   rw [<- f0, <- f1, <- cut_at nd 1 1, <- cut_at nd 0 1]; rfl
 rw [List.drop_of_length_le (by omega : nd.length <= 2), List.append_nil] at hne
 have e0 := bounds_i64 w0
 have e1 := bounds_i64 w1
 exact ⟨⟨y0, y1⟩, hne, ⟨e0, e1⟩⟩
theorem open_asks {H : Type} {enc : TypeId × Value -> H} {W : World} {fuel : Nat} {v : Value} {d : DataW H} {p : List MemPlace} (hw : WS 23 d) (hf : DataW.trod enc Tryz.prog W 0 (fun _ => true) true fuel 23 [v] = some (d, p)) :
   ∃ (xs : List Ak) (sp : Option Addr) (cap : Nat), v = .slice sp xs.length cap /\ SrcA W.heap.size W sp xs /\ (∀ x ∈ xs, AkOk x) /\ 16 * xs.length <= 140737488351232 := by
 rcases Deep.open_slice Tryz.underlying23 hf with ⟨hcs, hx⟩ | ⟨a, len, cap, m, n, D, Pl, hcs, _, hl, hm, hmm, hx, hrow⟩
 · simp at hcs
   subst hcs
   exact ⟨[], none, 0, rfl, ⟨0, 0, fun h => by simp at h, fun h => by simp at h, fun i hi => by simp at hi⟩, fun c hc => by simp at hc, by simp⟩
 · simp at hcs
   subst hcs
   simp only [Prod.mk.injEq] at hx
   obtain ⟨rfl, _⟩ := hx
   simp only [if_true] at hmm
   subst hmm
   obtain ⟨w1, w2⟩ := hw.slice Tryz.underlying23
   rw [bytesAk] at w1
   simp [reachBytes] at w1
   have each : ∀ i, i < len -> ∃ q   : Ak, (∀ j u, (akC q)[j]? = some u -> W.cell? (a.add (i * 2 + j)) = some u) /\ AkOk q := by
     intro i hi
     obtain ⟨cs', h1, h2⟩ := hrow i (by omega)
     rw [cellsAk] at h1
     obtain ⟨_, hlen, hcell⟩ := World.cells?_some h1
     obtain ⟨q, hq, ok⟩ := open_ask (by omega) h2
     refine ⟨q, fun j u hu => ?_, ok⟩
     rw [<- hq] at hu
     have hj := (List.getElem?_eq_some_iff.1 hu).1
     have := hcell j (by omega)
     rw [Deep.add_add] at this
     rw [this, hu]
   haveI : Inhabited Ak := ⟨dAk⟩
   obtain ⟨q, hq⟩ := Deep.choose_lt (α := Ak) each
   have gm : ∀ i, i < len -> ((List.range len).map q).getD i dAk = q i := fun i hi => by simp [hi]
   have hlen : ((List.range len).map q).length = len := by simp
   have okc : ∀ c ∈ (List.range len).map q, AkOk c := fun c hc => by
     obtain ⟨i, hi, rfl⟩ := List.mem_map.1 hc
     exact (hq i (List.mem_range.1 hi)).2
   refine ⟨(List.range len).map q, some a, _, by rw [hlen], ?_, okc, by rw [hlen]; omega⟩
   by_cases hz : 0 < len
   · have c0 := (hq 0 hz).1 0 (.int .i64 (q 0).h) rfl
     have hsp : a.spot = none := by
       have := World.cell?_spot c0
       unfold Addr.add at this; split at this <;> simp_all
     obtain ⟨b, o, spot⟩ := a
     obtain rfl : spot = none := hsp
     rw [Addr.add_mid] at c0
     refine ⟨b, o, fun _ => block_lt_of_cell c0, fun _ => rfl, fun j hj i v hv => ?_⟩
     rw [hlen] at hj
     rw [gm j hj] at hv
     have := (hq j hj).1 i v hv
     rw [Addr.add_mid] at this
     rw [<- this]; congr 1; simp [Nat.add_assoc]
   · exact ⟨0, 0, fun h => by omega, fun h => by omega, fun j hj => by omega⟩
theorem open_bytesD {H : Type} {enc : TypeId × Value -> H} {W : World} {v : Value} {d : DataW H} {p : List MemPlace} {b0 : Nat}
   (hv : Value.okWide Tryz.prog W .any b0 58 v) (h : DataW.Trod enc Tryz.prog W 0 (fun _ => true) true 58 v d p) :
   ∃ (zs : List Int) (sp : Option Addr) (cap : Nat), v = .slice sp zs.length cap /\ Byts zs /\ Src W sp cap zs /\ (sp = none -> cap = 0) /\ (zs.length = 0 \/ ∃ el spare, d = .slice el spare /\ el.length = zs.length) := by
 obtain ⟨a0, len0, cap0, rfl⟩ := okWide_slice Tryz.underlying58 hv
 obtain ⟨fuel, hf⟩ := h
 rcases open_ints Tryz.underlying58 Tryz.underlying5 cells5 hf with ⟨hcs, hx⟩ | ⟨a, len, cap, zs, hcs, _, hl, hm, hz, hx, hcell, hwz⟩
 · simp [Value.cells] at hcs
   obtain ⟨rfl, rfl, rfl⟩ := hcs
   refine ⟨[], none, 0, rfl, fun x hx => by simp at hx, Src.nil W, fun _ => rfl, ?_⟩
   exact Or.inl rfl
 · simp [Value.cells] at hcs
   obtain ⟨rfl, rfl, rfl⟩ := hcs
   have hzl : zs.length = cap0 := by simpa using hz
   have hll : (zs.take len0).length = len0 := by rw [List.length_take]; omega
   refine ⟨zs.take len0, some a, cap0, by rw [hll], fun x hx => ?_, ⟨by rw [hll]; exact hl, hm, ?_⟩, (fun h => by cases h), ?_⟩
   · have := bounds_u8 (hwz x (List.mem_of_mem_take hx))
     omega
   · rw [hll]
     by_cases hL : 0 < len0
     · have hc0 := hcell 0 (by omega)
       have hsp : a.spot = none := by have := World.cell?_spot hc0; unfold Addr.add at this; split at this <;> simp_all
       obtain ⟨b, o, spot⟩ := a
       obtain rfl : spot = none := hsp
       refine ⟨b, o, fun _ => by have := block_lt_of_cell hc0; rwa [Addr.add_mid] at this, fun _ => rfl, fun j hj => ?_⟩
       have := hcell j (by omega)
       rw [Addr.add_mid] at this
       rw [this]
       congr 2
       simp [List.getElem?_take, hj]
     · exact ⟨0, 0, fun h => by omega, fun h => by omega, fun j hj => by omega⟩
   · simp only [Prod.mk.injEq] at hx
     exact Or.inr ⟨_, _, hx.1, by simp [lits]⟩
theorem indexLasts_contract (H : Type) (enc : TypeId × Value -> H) (W : World) (base : Nat) (args : Array Value) (ds gs : List (DataW H)) (before : List MemPlace)
   (hval : ∀ (j : Nat) t v, Tryz.f5.params[j]? = some t -> args[j]? = some v -> Value.okWide Tryz.prog W .any base t v)
   (hW : DataW.Whole enc Tryz.prog Tryz.f5.params.toList Rows.indexLastsSpec.vars false W args.toList ds gs before) (hL : laidMetH Tryz.prog Rows.indexLastsRow.laid W)
   (hsz : (DataW.weightsEach Tryz.prog (Tryz.f5.params.toList ++ Rows.indexLastsSpec.plain.varTypes Tryz.prog) (ds ++ gs)).all (· <= reachBytes) = true) :
   Calls Tryz.prog 5 args W fun e W' => ∃ v, e = .returned v /\ Rows.indexLastsSpec.post enc Tryz.prog Tryz.f5 false true false false W args v W' := by
 have hW' := hW
 obtain ⟨p, q, hA0, hV, rfl, hfz, hnd⟩ := hW
 have hA : DataW.TrodAll enc Tryz.prog W 0 (fun _ => true) true Tryz.f5.params.toList args.toList ds p := hA0
 rw [Tryz.params5] at hA hval hsz
 obtain ⟨v0, vs0, d0, ds0, p0, q0, hargs, rfl, rfl, h0, r0⟩ := trodAll_cons hA
 obtain ⟨v1, vs1, d1, ds1, p1, q1, rfl, rfl, rfl, h1, r1⟩ := trodAll_cons r0
 obtain ⟨v2, vs2, d2, ds2, p2, q2, rfl, rfl, rfl, h2, r2⟩ := trodAll_cons r1
 obtain ⟨v3, vs3, d3, ds3, p3, q3, rfl, rfl, rfl, h3, r3⟩ := trodAll_cons r2
 obtain ⟨v4, vs4, d4, ds4, p4, q4, rfl, rfl, rfl, h4, r4⟩ := trodAll_cons r3
 obtain ⟨v5, vs5, d5, ds5, p5, q5, rfl, rfl, rfl, h5, r5⟩ := trodAll_cons r4
 obtain ⟨v6, vs6, d6, ds6, p6, q6, rfl, rfl, rfl, h6, r6⟩ := trodAll_cons r5
 obtain ⟨v7, vs7, d7, ds7, p7, q7, rfl, rfl, rfl, h7, r7⟩ := trodAll_cons r6
 obtain ⟨v8, vs8, d8, ds8, p8, q8, rfl, rfl, rfl, h8, r8⟩ := trodAll_cons r7
 obtain ⟨rfl, rfl, rfl⟩ := trodAll_nil r8
 obtain rfl : args = #[v0, v1, v2, v3, v4, v5, v6, v7, v8] := by cases args; simp_all
 obtain ⟨rfl, rfl⟩ := trodVars_none hV
 have hG : Glob W := tab2 hL
 obtain ⟨a0, rfl, rfl, rfl, w0⟩ := open_int Tryz.underlying3 (hval 0 3 v0 rfl rfl) h0
 obtain ⟨a1, rfl, rfl, rfl, w1⟩ := open_int Tryz.underlying3 (hval 1 3 v1 rfl rfl) h1
 obtain ⟨a2, rfl, rfl, rfl, w2⟩ := open_int Tryz.underlying3 (hval 2 3 v2 rfl rfl) h2
 obtain ⟨a3, rfl, rfl, rfl, w3⟩ := open_int Tryz.underlying3 (hval 3 3 v3 rfl rfl) h3
 have k4 := h4
 have lt4 : ∀ x ∈ p4, x.block < W.heap.size := by obtain ⟨m, hm⟩ := k4; exact DataW.trod_lt m _ _ _ hm
 have ws4 : WS 22 d4 := fun n hn => by
   have := List.all_eq_true.1 hsz n (DataW.weights_mem_each (j := 4) rfl rfl n hn)
   simpa using this
 obtain ⟨a4x, len4x, cap4x, rfl⟩ := okWide_slice Tryz.underlying22 (hval 4 22 v4 rfl rfl)
 obtain ⟨fuel4, hf4⟩ := h4
 change DataW.trod enc Tryz.prog W 0 (fun _ => true) true fuel4 22 [Value.slice a4x len4x cap4x] = some (d4, p4) at hf4
 obtain ⟨vv4, hvv4⟩ : ∃ vv, vv = Value.slice a4x len4x cap4x := ⟨_, rfl⟩
 rw [<- hvv4] at hf4 k4 hval hA0 hW' ⊢
 clear hvv4
 obtain ⟨xs4, sp4, cap4, rfl, hS4, ok4, hl4⟩ := open_irows ws4 hf4
 have k5 := h5
 have lt5 : ∀ x ∈ p5, x.block < W.heap.size := by obtain ⟨m, hm⟩ := k5; exact DataW.trod_lt m _ _ _ hm
 have ws5 : WS 22 d5 := fun n hn => by
   have := List.all_eq_true.1 hsz n (DataW.weights_mem_each (j := 5) rfl rfl n hn)
   simpa using this
 obtain ⟨a5x, len5x, cap5x, rfl⟩ := okWide_slice Tryz.underlying22 (hval 5 22 v5 rfl rfl)
 obtain ⟨fuel5, hf5⟩ := h5
 change DataW.trod enc Tryz.prog W 0 (fun _ => true) true fuel5 22 [Value.slice a5x len5x cap5x] = some (d5, p5) at hf5
 obtain ⟨vv5, hvv5⟩ : ∃ vv, vv = Value.slice a5x len5x cap5x := ⟨_, rfl⟩
 rw [<- hvv5] at hf5 k5 hval hA0 hW' ⊢
 clear hvv5
 obtain ⟨xs5, sp5, cap5, rfl, hS5, ok5, hl5⟩ := open_irows ws5 hf5
 have k6 := h6
 have lt6 : ∀ x ∈ p6, x.block < W.heap.size := by obtain ⟨m, hm⟩ := k6; exact DataW.trod_lt m _ _ _ hm
 have ws6 : WS 23 d6 := fun n hn => by
   have := List.all_eq_true.1 hsz n (DataW.weights_mem_each (j := 6) rfl rfl n hn)
   simpa using this
 obtain ⟨a6x, len6x, cap6x, rfl⟩ := okWide_slice Tryz.underlying23 (hval 6 23 v6 rfl rfl)
 obtain ⟨fuel6, hf6⟩ := h6
 change DataW.trod enc Tryz.prog W 0 (fun _ => true) true fuel6 23 [Value.slice a6x len6x cap6x] = some (d6, p6) at hf6
 obtain ⟨vv6, hvv6⟩ : ∃ vv, vv = Value.slice a6x len6x cap6x := ⟨_, rfl⟩
 rw [<- hvv6] at hf6 k6 hval hA0 hW' ⊢
 clear hvv6
 obtain ⟨xs6, sp6, cap6, rfl, hS6, ok6, hl6⟩ := open_asks ws6 hf6
 obtain ⟨a7, rfl, rfl, rfl, w7⟩ := open_int Tryz.underlying3 (hval 7 3 v7 rfl rfl) h7
 have k8 := h8
 have lt8 : ∀ x ∈ p8, x.block < W.heap.size := by obtain ⟨m, hm⟩ := k8; exact DataW.trod_lt m _ _ _ hm
 obtain ⟨zs8, sp8, cap8, rfl, y8, hS8, hn8, hb8⟩ := open_bytesD (hval 8 58 v8 rfl rfl) h8
 clear hA0
 have hlen8 : zs8.length <= 140737488351232 := by
   rcases hb8 with h | ⟨el, spare, rfl, he⟩
   · omega
   · have := sized_slice hsz (j := 8) (t := 58) (e := 5) rfl rfl Tryz.underlying58
     rw [Tryz.bytes5] at this
     simp only [reachBytes] at this
     omega
 refine (lasts_any W hG a0 a1 a2 a3 xs4 ok4 sp4 cap4 hS4 hl4 xs5 ok5 sp5 cap5 hS5 hl5 xs6 ok6 sp6 cap6 hS6 hl6 a7 (bounds_i64 w7).2 zs8 y8 sp8 cap8 hS8).mono fun e W' ⟨he, bel⟩ => ?_
 subst he
 exact ⟨_, rfl, _, _, _, [], _, [], hW', trodAll_mk1 (shut_bool Tryz.underlying4 _), (trodAll_cons_mk (shut_int Tryz.underlying3 w0) (trodAll_cons_mk (shut_int Tryz.underlying3 w1) (trodAll_cons_mk (shut_int Tryz.underlying3 w2) (trodAll_cons_mk (shut_int Tryz.underlying3 w3) (trodAll_cons_mk (Below.trod Tryz.laidOut (by kernel_rfl) (of_decide_eq_true (by kernel_rfl)) k4 bel lt4) (trodAll_cons_mk (Below.trod Tryz.laidOut (by kernel_rfl) (of_decide_eq_true (by kernel_rfl)) k5 bel lt5) (trodAll_cons_mk (Below.trod Tryz.laidOut (by kernel_rfl) (of_decide_eq_true (by kernel_rfl)) k6 bel lt6) (trodAll_cons_mk (shut_int Tryz.underlying3 w7) (trodAll_cons_mk (Below.trod Tryz.laidOut (by kernel_rfl) (of_decide_eq_true (by kernel_rfl)) k8 bel lt8) trodAll_mk0))))))))), rfl, bel.frame _, fun h => by cases h⟩
theorem indexLasts_laid (os : Os) : laidMet Tryz.prog Rows.indexLastsRow.laid ((laidWorld os).forCall (fun _ _ => 0) ⟨#[], #[.int .i64 0, .int .i64 0, .int .i64 0, .int .i64 0, .slice none 0 0, .slice none 0 0, .slice none 0 0, .int .i64 0, .slice none 0 0], []⟩).memory :=
 laidMet_of_run' 8 (by kernel_rfl) (by kernel_rfl)
def indexLasts_xs {H : Type} : List (DataW H) := [.lit (.int .i64 0), .lit (.int .i64 0), .lit (.int .i64 0), .lit (.int .i64 0), .nil, .nil, .nil, .lit (.int .i64 0), .nil]
theorem indexLasts_reads (os : Os) {H : Type} (enc : TypeId × Value -> H) : ∃ places, DataW.whole enc Tryz.prog ((laidWorld os).forCall (fun _ _ => 0) ⟨#[], #[.int .i64 0, .int .i64 0, .int .i64 0, .int .i64 0, .slice none 0 0, .slice none 0 0, .slice none 0 0, .int .i64 0, .slice none 0 0], []⟩).memory Tryz.f5.params.toList Rows.indexLastsSpec.vars false (#[.int .i64 0, .int .i64 0, .int .i64 0, .int .i64 0, .slice none 0 0, .slice none 0 0, .slice none 0 0, .int .i64 0, .slice none 0 0] : Array Value).toList 8 = some (indexLasts_xs, [], places) :=
 ⟨[], by kernel_rfl⟩
theorem indexLasts_lifted (os : Os) (started : os.Started) (H : Type) (enc : TypeId × Value -> H) (F : Stop.Interp) :
   ReturnsInHanded {} Tryz.checked os 5 .any ((OpenSpec.ofChange Rows.indexLastsSpec).preRow enc Tryz.prog Tryz.f5 Rows.indexLastsRow.domain false Rows.indexLastsRow.laid) (((OpenSpec.ofChange Rows.indexLastsSpec).at F).post enc Tryz.prog Tryz.f5 false true false false) := by
 obtain ⟨places, hx⟩ := indexLasts_reads os enc
 refine returnsInHanded_of_row (C := Tryz.checked) (s := OpenSpec.ofChange Rows.indexLastsSpec) own_knob started (by kernel_rfl) Tryz.func5
   (witness_row_at (enc := enc) (C := Tryz.checked) false (laidWorld os) #[.int .i64 0, .int .i64 0, .int .i64 0, .int .i64 0, .slice none 0 0, .slice none 0 0, .slice none 0 0, .int .i64 0, .slice none 0 0] rfl (by kernel_rfl) (by kernel_rfl) (by kernel_rfl)
     (OpenSpec.preRow_of_cond 8 hx (by kernel_rfl) (fun k hk => by cases hk) (by kernel_rfl) (indexLasts_laid os))) ?_
 intro W base args ds gs before hval hW _ _ hsz hL _ _
 exact indexLasts_contract H enc W base args ds gs before hval hW hL hsz
theorem indexLasts_said : Rows.IndexLastsSaid :=
 OpenClaim.holds_of_cond 5 Tryz.f5 rfl rfl rfl rfl rfl rfl rfl ⟨rfl, rfl, rfl, rfl, rfl⟩ rfl rfl rfl rfl rfl (by kernel_rfl) Tryz.func5 (by kernel_rfl)
   (of_decide_eq_true (by kernel_rfl)) (by unfold Func.isWrapper; first | (rw [if_pos (by decide +kernel)]; kernel_rfl) | (rw [if_neg (by decide +kernel)]; exact ⟨rfl, rfl⟩))
   (fun os started H enc _ F => by rw [OpenClaim.pre_eq_preRow]; exact indexLasts_lifted os started H enc F)
theorem indexLasts_plain (f : FuncId) (fn : Func) (hf : Tryz.pinned.checked.prog.funcNamed "ledger/ledgerlaw15.IndexLasts" = some f) (hfn : Tryz.pinned.checked.prog.funcs[f]? = some fn) :
   false = Tryz.pinned.checked.prog.looks [] /\ ∀ (j : Nat) t, fn.params[j]? = some t -> Tryz.pinned.checked.prog.wantsStandIn t = false := by
 obtain rfl : f = 5 := Option.some.inj ((show Tryz.prog.funcNamed "ledger/ledgerlaw15.IndexLasts" = some 5 by kernel_rfl).symm.trans hf) |>.symm
 obtain rfl : fn = Tryz.f5 := (Option.some.inj (Tryz.func5.symm.trans hfn)).symm
 refine ⟨by kernel_rfl, fun j t ht => ?_⟩
 rw [Tryz.params5] at ht
 have hm := Array.mem_of_getElem? ht
 have hall : ([3, 3, 3, 3, 22, 22, 23, 3, 58] : List Nat).all (fun t => !(Tryz.prog.wantsStandIn t)) = true := by kernel_rfl
 have hq := List.all_eq_true.1 hall t (by simpa using hm)
 show Tryz.prog.wantsStandIn t = false
 simpa using hq
theorem indexLasts_card : Rows.IndexLastsCardSaid :=
 Claim7.holds_tied_plain_at .later [] _ _ _ _ indexLasts_said (fun _ h => by cases h) (by kernel_rfl) (fun _ h => by cases h) indexLasts_row_tie rfl ⟨rfl, rfl⟩ (by kernel_rfl) rfl indexLasts_plain (by kernel_rfl)
#print axioms indexLasts_card
end Go.Proofs.YtbnghhgeoodphaaGreatDoor
