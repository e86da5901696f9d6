import Derived.Test.YtjhocjjecfdphaaGreatDoorQ20
namespace Go.Proofs.YtjhocjjecfdphaaGreatDoor
set_option linter.unusedVariables false
set_option linter.unusedSimpArgs false
set_option maxRecDepth 100000
set_option maxHeartbeats 4000000
section
open Go.RowKit
attribute [local go_sem ↓] Go.wp_at_zero Go.wp_at_succ
theorem fold_torn_len (fs : List Int) (l : List (OW × Nat)) (z : List Int) (hz : z.length = 256) : (l.foldl (fun now x => if x.2 < fs.length then tornP now x.1.data (fateOf fs x.2) else now) z).length = 256 := by
 induction l generalizing z with
 | nil => exact hz
 | cons x l ih =>
   rw [List.foldl_cons]
   refine ih _ ?_
   split
   · exact tornP_len _ _ _
   · exact hz
theorem ev_len {n : Nat} {R : RF} (hok : RfOk n R) {mi p : Nat} {data : List Int} (hmi : mi < R.log.length) (he : R.log.getD mi .synced = .wrote p data) : data.length = 256 ∧ p < n := by
 have hm : R.log.getD mi .synced ∈ R.log := by rw [List.getD_eq_getElem?_getD, List.getElem?_eq_getElem hmi]; exact List.getElem_mem hmi
 have := hok.ev _ hm
 rw [he] at this
 exact ⟨this.2.1, this.1⟩
theorem RK.wrote_at {w : World} {base : Nat} {Q : RQ} {R : RF} (h : RK w base Q R) {n : Nat} (hok : RfOk n R) (g cap : Nat) (hlv : Q.lv = .slice (some ⟨g, 0, none⟩) Q.es.length cap) (mi p : Nat) (data : List Int) (hmi : mi < R.log.length) (he : R.log.getD mi .synced = .wrote p data) :
   ∃ db dcap, db < w.heap.size ∧ ∀ wr : World, (∀ k, k < w.heap.size → wr.heap[k]? = w.heap[k]?) → w.heap.size ≤ wr.heap.size → wr.cell? ⟨g, mi * 5 + 3, none⟩ = some (.slice (some ⟨db, 0, none⟩) 256 dcap) ∧ Src wr (some ⟨db, 0, none⟩) dcap data ∧ ∀ j, j < 256 → wr.cell? ⟨db, 0 + j, none⟩ = some (.int .u8 (data.getD j 0)) := by
 have hl := (ev_len hok hmi he).1
 have hm2 : mi < Q.es.length := by rw [h.ln, List.length_map] at hmi; exact hmi
 obtain ⟨g', cap', e, hg, _, _, hr, ho⟩ := h.at mi hm2
 rw [hlv] at e
 simp only [Value.slice.injEq, Option.some.injEq, Addr.mk.injEq] at e
 obtain ⟨⟨rfl, _⟩, _, _⟩ := e
 have hev : Q.es[mi].1 = .wrote p data := by rw [← he, h.ln, List.getD_eq_getElem?_getD, List.getElem?_map, List.getElem?_eq_getElem hm2]; rfl
 rw [hev] at ho
 have ho : Own w base Q.es[mi].2 data := ho
 obtain ⟨db, dcap, rest, hv, _, hh, hc, hmx, _⟩ := own_in ho (by rw [hl]; omega)
 have hx := hr 3 Q.es[mi].2 rfl
 rw [hv, hl] at hx
 refine ⟨db, dcap, hlt hh, fun wr hk hs => ?_⟩
 have hh2 : wr.heap[db]? = some (.cells (ints .u8 data ++ rest).toArray 5 (0, 0)) := (hk db (hlt hh)).trans hh
 refine ⟨?_, ⟨hc, hmx, db, 0, fun _ => hlt hh2, fun _ => rfl, fun j hj => by rw [Nat.zero_add]; exact cell_rows hh2 j hj⟩, fun j hj => by rw [Nat.zero_add]; exact cell_rows hh2 j (by rw [hl]; exact hj)⟩
 rw [← hx]
 unfold World.cell?
 rw [show wr.heap[(⟨g, mi * 5 + 3, none⟩ : Addr).block]? = w.heap[(⟨g, mi * 5 + 3, none⟩ : Addr).block]? from hk g hg]
theorem Own.turn {w w1 : World} {base g cap : Nat} {zs ys : List Int} {rest : List Value} (h : Own w base (.slice (some ⟨g, 0, none⟩) zs.length cap) zs) (hg : w.heap[g]? = some (.cells (ints .u8 zs ++ rest).toArray 5 (0, 0))) (h1 : w1.heap[g]? = some (.cells (ints .u8 ys ++ rest).toArray 5 (0, 0))) (hl : ys.length = zs.length) : Own w1 base (.slice (some ⟨g, 0, none⟩) zs.length cap) ys := by
 rcases h.2 with ⟨e, _⟩ | ⟨g2, cap2, cur, e, hb, hh, hc, hm, hs, ht⟩
 · cases e
 · simp only [Value.slice.injEq, Option.some.injEq, Addr.mk.injEq] at e
   obtain ⟨⟨rfl, _⟩, _, rfl⟩ := e
   rw [hg] at hh
   simp only [Option.some.injEq, Obj.cells.injEq] at hh
   obtain ⟨rfl, _⟩ := hh
   refine ⟨by rw [ints_len]; omega, Or.inr ⟨g, cap, _, by rw [hl], hb, h1, by omega, hm, ?_, ?_⟩⟩
   · rw [← hs]; simp [ints_len, hl]
   · rw [List.toList_toArray, Nat.mul_one, List.take_append_of_le_length (by rw [ints_len]; exact Nat.le_refl _), List.take_of_length_le (by rw [ints_len]; exact Nat.le_refl _)]
theorem kps_of {w w1 : World} {g : Nat} (h : Below w.heap.size w w1) : Kps g w w1 := ⟨h.os, h.tape, h.output, h.size, fun k hk _ => h.block k hk⟩
theorem Kps.cellK {g : Nat} {a b : World} (h : Kps g a b) (p : Addr) (hp : p.block < a.heap.size ∧ p.block ≠ g) {v : Value} (hv : a.cell? p = some v) : b.cell? p = some v := by
 rw [← hv]; unfold World.cell?; rw [h.block p.block hp.1 hp.2]
theorem Kps.trans {g : Nat} {a b c : World} (h : Kps g a b) (k : Kps g b c) : Kps g a c := ⟨k.os.trans h.os, k.tape.trans h.tape, k.output.trans h.output, Nat.le_trans h.size k.size, fun i hi hn => (k.block i (Nat.lt_of_lt_of_le hi h.size) hn).trans (h.block i hi hn)⟩
theorem rpage_in (w : World) (base : Nat) (hbw : base ≤ w.heap.size) (Q : RQ) (R : RF) (h : RK w base Q R) (n : Nat) (hok : RfOk n R) (p : Nat) (hp : p < n) (D : DS) (hD : play R.base R.log = (D.img, D.ops)) :
   Calls Tryz.prog 90 #[.pointer (some ⟨Q.p, 0, none⟩), .int .i64 p] w fun e w' => ∃ v1 v2, e = .returned (.tuple #[v1, v2]) ∧ Own w' w.heap.size v1 (pgI D.img p) ∧ Own w' w.heap.size v2 (D.readOf p) ∧ Below w.heap.size w w' := by
 have c0 := h.c0
 obtain ⟨gb, cb, rb, ebv, hgb, hcb, hmb, _⟩ := h.bv' hok.bl hok.n3
 rw [ebv] at c0
 have ip : (p : Int) < (n : Int) := by omega
 have i4 : (n : Int) ≤ 4096 := by have := hok.n4; omega
 have icb : 256 * (n : Int) ≤ (cb : Int) := by omega
 have SL := sl_lhB w gb (256 * n) cb (256 * p) (256 * p + 256) (by omega) (by omega)
 rw [show 256 * p + 256 - 256 * p = 256 by omega] at SL
 push_cast at SL
 have e1 : ((p : Int) + 1) * 256 = 256 * (p : Int) + 256 := by omega
 have e2 : (p : Int) * 256 = 256 * (p : Int) := by omega
 have KC := hid (rcopied_any w (pgI R.base p) _ _ (src_pg hgb p n cb hp hok.bl hcb hmb) (fun h => by cases h) (by rw [pgI_len hok.bl hp]; omega) 256 (pgI_len hok.bl hp))
 have HK := hid h
 have HOK := hid hok
 have HDD := hid hD
 have HRD := hid (fun (mine place : List Nat) (hs : PgS R.base R.log p R.log.length mine place) => reads_end hs D hD)
 have HPW := hid (hlt h.cell)
 clear h hok hgb hD
 go_enter Tryz.func90, Tryz.ntmps90
 go_wp2_with fail
 refine KC.out.mono ?_
 rintro e w1 ⟨nv, rfl, hO1, hB1⟩
 clear KC SL
 have hM := hid (show PgM w w1 R.base R.log p 0 [] [] nv (.slice none 0 0) (.slice none 0 0) from ⟨PgS.start _ _ _, hO1, OwnN.nil _ _, OwnN.nil _ _, (fun k hk => by cases hk), hB1⟩)
 have HC1 := hid (fun (wr : World) (hb : Below w.heap.size w wr) => (HK.out.below hb).c1)
 obtain ⟨lp, lc, hlv⟩ := ownsRow_form HK.out.lg
 rw [hlv] at HC1
 have HLL := hid (show R.log.length = Q.es.length by rw [HK.out.ln, List.length_map])
 have ill : (Q.es.length : Int) ≤ 400000000000 := by have := HOK.out.ll; rw [HLL.out] at this; omega
 clear hO1 hB1
 go_wp2
 go_loopw [6, 7, 8, 9, 10] (fun nv mv pv ov iv wr => ∃ (i : Nat) (mine place : List Nat), i ≤ Q.es.length ∧ iv = .int .i64 i ∧ ov = .int .i64 (openN (R.log.take i)) ∧ PgM w wr R.base R.log p i mine place nv mv pv) (fun _ _ _ _ iv _ => Q.es.length - (intOf iv).toNat)
 case atStart => exact ⟨0, [], [], by omega, rfl, rfl, hM.out⟩
 case round =>
   clear hM
   obtain ⟨i, mine, place, hi, rfl, rfl, hM⟩ := hrel
   have c1 := HC1.out wr hM.bl
   by_cases hlq : i < Q.es.length
   · have i1 : (i : Int) < (Q.es.length : Int) := by omega
     obtain ⟨g, cap, ee, hg, hc, hm, hr, ho⟩ := (HK.out.below hM.bl).at i hlq
     have HLV := hid ee
     rw [hlv] at ee
     simp only [Value.slice.injEq] at ee
     obtain ⟨hlp, _, hlc⟩ := ee
     subst hlp
     obtain ⟨ms, mc, hmv⟩ := hM.m.form
     obtain ⟨ps, pc, hpv⟩ := hM.q.form
     subst hmv hpv
     have hpok := play_ok HOK.out.bl (R.log.take i) (fun e h => HOK.out.ev e (List.mem_of_mem_take h))
     have hpl := pgI_len hpok.1 hp
     obtain ⟨gn, cn, rn, hnv, hgnB, hgn, hcn, hmn, hon⟩ := own_in hM.n (by rw [hpl]; omega)
     rw [hpl] at hnv hcn
     subst hnv
     have hev : R.log.getD i .synced = Q.es[i].1 := by
       rw [HK.out.ln, List.getD_eq_getElem?_getD, List.getElem?_map, List.getElem?_eq_getElem hlq]; rfl
     have hil : i < R.log.length := by rw [HLL.out]; exact hlq
     have HEO := hid (show Own w base Q.es[i].2 Q.es[i].1.data from HK.out.dt _ (List.getElem_mem hlq))
     obtain ⟨x, hx⟩ : ∃ x, x = Q.es[i] := ⟨_, rfl⟩
     rw [← hx] at hr ho hev HEO
     clear hx
     obtain ⟨ev, dv⟩ := x
     have hio : (Tryz.prog.info? 143).map (·.size) = some (encX (ev, dv)).length := by rw [sizeE, encX_len]
     have g1 := hid (hnew wr (.cells #[.int .i64 0, .int .i64 0, .int .i64 0, .slice none 0 0, .int .u32 0] 143))
     have K1 := hid (show (Tryz.prog.info? 143).map (·.size) = some (encX (ev, dv)).toArray.size by rw [sizeE]; rfl)
     have K2 := hid (show (#[.int .i64 0, .int .i64 0, .int .i64 0, .slice none 0 0, .int .u32 0] : Array Value).size = (encX (ev, dv)).toArray.size from rfl)
     have oo := hid (all_oneCell_toArray (encX_one (x := (ev, dv)) (own_one ho)))
     have hbA : Below wr.heap.size wr (wr.alloc (.cells (encX (ev, dv)).toArray 143)) := (Below.refl _ _).alloc (Nat.le_refl _) _
     have MA := hid (hM.below hbA)
     have hA := hnew wr (.cells (encX (ev, dv)).toArray 143)
     have HA := hid hA
     have k0 : (wr.alloc (.cells (encX (ev, dv)).toArray 143)).cell? ⟨wr.heap.size, 0, none⟩ = some (.int .i64 ev.kind) := by rw [cell_of_row _ _ _ _ _ _ hA]; rfl
     have k1 : (wr.alloc (.cells (encX (ev, dv)).toArray 143)).cell? ⟨wr.heap.size, 1, none⟩ = some (.int .i64 ev.page) := by rw [cell_of_row _ _ _ _ _ _ hA]; rfl
     have hml : (mine.length : Int) ≤ 400000000000 ∧ (openN (R.log.take i) : Int) ≤ 400000000000 := by
       have h1 := openN_le (R.log.take i)
       rw [List.length_take] at h1
       have h2 : mine.length ≤ (play R.base (R.log.take i)).2.length := by
         rw [hM.s.len]; unfold mineOf
         exact Nat.le_trans (List.length_filter_le _ _) (by rw [List.length_zipIdx]; exact Nat.le_refl _)
       rw [openN_play] at h2
       omega
     have HMS := hid (take_snocL R.log i hil)
     have HML := hid hml
     have iop := hml.2
     have iml := hml.1
     have HEV := hid hev
     have HIL := hid hil
     have HBW := hid hM.bl
     have HGN := hid hgn
     have HGB := hid hgnB
     have HON := hid hon
     have HPLN := hid hpl
     have icn : (256 : Int) ≤ (cn : Int) := by omega
     have HCN := hid hcn
     have HMN := hid hmn
     have HG := hid hg
     clear hml hev hA hbA hM hpok hpl hgn hgnB hcn hmn hon ho hil hg
     cases ev with
     | wrote q d =>
       replace k0 : (wr.alloc (.cells (encX (.wrote q d, dv)).toArray 143)).cell? ⟨wr.heap.size, 0, none⟩ = some (.int .i64 1) := k0
       replace k1 : (wr.alloc (.cells (encX (.wrote q d, dv)).toArray 143)).cell? ⟨wr.heap.size, 1, none⟩ = some (.int .i64 q) := k1
       have HON := hid (show openN (R.log.take (i + 1)) = openN (R.log.take i) + 1 by rw [HMS.out, HEV.out, openN_snoc])
       have HNW := hid (pg_wrote (b := R.base) (p := p) HIL.out HEV.out)
       by_cases hq : q = p
       · subst hq
         go_wp2_with (first
           | refine wpList_load_mid rfl 143 _ rfl g (i * 5) rfl _ _ hr Tryz.underlying143 rfl hio ?_
           | (refine wpList_store_row rfl 143 _ _ rfl wr.heap.size _ rfl rfl 143 _ g1.out K1.out K2.out oo.out ?_; rw [setRow_alloc]; generalize wr.alloc (.cells (encX (.wrote q d, dv)).toArray 143) = wA at *; clear g1 K1 K2 oo)
           | (at_builtin; refine wpList_pushN rfl (.tmp 50) (.tmp 52) rfl w.heap.size (.slice ms mine.length mc) mine i rfl MA.out.m rfl (by have := HML.out.1; omega) MA.out.bl.size _ _ ?_; intro v5 w5 hN5 hB5 hK5 hD5; obtain ⟨s5, c5, hv5⟩ := hN5.form; rw [List.length_append, List.length_singleton] at hv5; subst hv5; have HN5 := hid hN5; have HB5 := hid hB5; have HK5 := hid hK5; have HD5 := hid hD5; have HQ5 := hid (MA.out.q.heap (w1 := w5) fun k e => hK5 k (by obtain ⟨_, cur, hh⟩ := ownsRow_block MA.out.q k e; exact hlt hh) (fun z => MA.out.d k z e)); clear hN5 hB5 hK5 hD5 k0 k1)
           | (at_builtin; refine wpList_pushN rfl (.tmp 54) (.tmp 56) rfl w.heap.size (.slice ps place.length pc) place (openN (R.log.take i)) rfl HQ5.out rfl (by have := HML.out.1; have := MA.out.s.ln; omega) (Nat.le_trans MA.out.bl.size HB5.out.size) _ _ ?_; intro v6 w6 hN6 hB6 hK6 hD6; obtain ⟨s6, c6, hv6⟩ := hN6.form; rw [List.length_append, List.length_singleton] at hv6; subst hv6; have HN6 := hid hN6; have HB6 := hid hB6; have HK6 := hid hK6; have HD6 := hid hD6; clear hN6 hB6 hK6 hD6))
         go_roundw
         case rel => exact ⟨i + 1, _, _, by omega, by go_num, by rw [HON.out]; go_num, MA.out.push HIL.out HEV.out HN5.out HB5.out HB5.out.size HK5.out HD5.out HN6.out HB6.out HK6.out HD6.out⟩
         case measure => simp [intOf]; omega
       · have hq1 : ¬ (q : Int) = (p : Int) := by omega
         have hqb : ((q : Int) == (p : Int)) = false := by simp; omega
         have HPO := hid (MA.out.s.other HIL.out HEV.out hq)
         go_wp2_with (first
           | refine wpList_load_mid rfl 143 _ rfl g (i * 5) rfl _ _ hr Tryz.underlying143 rfl hio ?_
           | (refine wpList_store_row rfl 143 _ _ rfl wr.heap.size _ rfl rfl 143 _ g1.out K1.out K2.out oo.out ?_; rw [setRow_alloc]))
         go_roundw
         case rel => exact ⟨i + 1, mine, place, by omega, by go_num, by rw [HON.out]; go_num, ⟨HPO.out, by rw [HNW.out]; exact MA.out.n, MA.out.m, MA.out.q, MA.out.d, MA.out.bl⟩⟩
         case measure => simp [intOf]; omega
     | synced =>
       replace k0 : (wr.alloc (.cells (encX (.synced, dv)).toArray 143)).cell? ⟨wr.heap.size, 0, none⟩ = some (.int .i64 2) := k0
       have HPG := hid (pg_synced HOK.out.bl HOK.out.ev hp HIL.out HEV.out)
       have HPC := hid (PgS.closed (b := R.base) (p := p) HIL.out (Or.inl HEV.out))
       have HON2 := hid (show openN (R.log.take (i + 1)) = 0 by rw [HMS.out, HEV.out, openN_snoc])
       clear k1
       go_wp2_with (first
         | refine wpList_load_mid rfl 143 _ rfl g (i * 5) rfl _ _ hr Tryz.underlying143 rfl hio ?_
         | (refine wpList_store_row rfl 143 _ _ rfl wr.heap.size _ rfl rfl 143 _ g1.out K1.out K2.out oo.out ?_; rw [setRow_alloc]; generalize wr.alloc (.cells (encX (.synced, dv)).toArray 143) = wA at *; clear g1 K1 K2 oo))
       clear k0
       go_loopw [6, 12] (fun nv jv w2 => ∃ j : Nat, j ≤ mine.length ∧ jv = .int .i64 j ∧ Own w2 w.heap.size nv (((mineOf (play R.base (R.log.take i)).2 p).take j).foldl (fun _ x => x.1.data) (pgI (play R.base (R.log.take i)).1 p)) ∧ Below wA.heap.size wA w2) (fun _ jv _ => mine.length - (intOf jv).toNat)
       case atStart => exact ⟨0, by omega, rfl, MA.out.n, Below.refl _ _⟩
       case round =>
         obtain ⟨w2, hw2⟩ : ∃ w2, w2 = wr := ⟨_, rfl⟩
         subst hw2
         obtain ⟨j, hj, rfl, hO, hB⟩ := hrel
         have HB := hid hB
         have HO := hid hO
         obtain ⟨sn, cnn, hsn, _, _⟩ := hO.form
         subst hsn
         clear hO hB
         by_cases hjl : j < mine.length
         · have j1 : (j : Int) < (mine.length : Int) := by omega
           obtain ⟨gm, mc2, hme, hmcell, hmob⟩ := MA.out.m.at j hjl
           simp only [Value.slice.injEq] at hme
           obtain ⟨rfl, _, rfl⟩ := hme
           obtain ⟨mi, hmi⟩ : ∃ mi, mi = mine.getD j 0 := ⟨_, rfl⟩
           rw [← hmi] at hmcell
           have hms := MA.out.s.mi j hjl
           rw [← hmi] at hms
           obtain ⟨db, dcap, hdb, hat⟩ := HK.out.wrote_at HOK.out g cap HLV.out mi p _ (by rw [HLL.out]; omega) hms.2
           have HDL := hid (ev_len HOK.out (by rw [HLL.out]; omega) hms.2).1
           have hbw2 : Below w.heap.size w w2 := MA.out.bl.trans (HB.out.mono MA.out.bl.size)
           have HAT := hid (hat w2 (fun k hk => hbw2.block k hk) hbw2.size)
           have HPL := hid (show Q.p < w2.heap.size from Nat.lt_of_lt_of_le HPW.out hbw2.size)
           have k1 := hid (HC1.out w2 hbw2)
           have HGM := hid (show gm < w2.heap.size from Nat.lt_of_lt_of_le (World.block_lt_of_cell? _ _ hmcell) HB.out.size)
           have k2 := hid ((HB.out.cell (p := ⟨gm, j, none⟩) (World.block_lt_of_cell? _ _ hmcell)).trans hmcell)
           have k3 := hid HAT.out.1
           have HGL := hid (show g < w2.heap.size from World.block_lt_of_cell? _ _ HAT.out.1)
           have imi : (mi : Int) < (Q.es.length : Int) := by have := hms.1; omega
           have HRC := hid (fun (w' : World) (hb : Below w2.heap.size w2 w') => rcopied_any w' _ _ _ (HAT.out.2.1.below hb (Nat.le_refl _)) (fun h => by cases h) (by rw [HDL.out]; omega) 256 HDL.out)
           have HFS := hid (foldl_step (fun (_ : List Int) (x : OW × Nat) => x.1.data) (pgI (play R.base (R.log.take i)).1 p) (mineOf (play R.base (R.log.take i)).2 p) dM j (by rw [← MA.out.s.len]; exact hjl))
           clear hmcell hms hat hbw2 hdb hmob hmi
           go_wp2
           refine rgA (fun w' => Below w2.heap.size w2 w') (Below.refl _ _).drew (fun hq0 => ?_)
           refine tkA 0 (.pointer (some ⟨Q.p, 0, none⟩)) rfl hq0 ?_
           go_frame
           refine tkA 4 (.slice (some ⟨gm, 0, none⟩) mine.length mc) rfl hq0 ?_
           go_frame
           refine tkA 5 (.int .i64 j) rfl hq0 ?_
           go_frame
           refine tkA 1 (.pointer (some ⟨Q.p, 0, none⟩)) rfl hq0 ?_
           go_frame
           refine tkA 6 (.pointer (some ⟨gm, 0 + j, none⟩)) rfl hq0 ?_
           go_frame
           refine tkA 2 (.pointer (some ⟨Q.p, 1, none⟩)) rfl hq0 ?_
           go_frame
           refine tqA 7 (.int .i64 mi) rfl (yA (by intro w hS; have hc := (hS.cell (p := ⟨gm, j, none⟩) HGM.out).trans k2.out; go_simp)) hq0 ?_
           go_frame
           refine tqA 3 (.slice (some ⟨g, 0, none⟩) Q.es.length cap) rfl (yA (by intro w hS; have hc := (hS.cell (p := ⟨Q.p, 1, none⟩) HPL.out).trans k1.out; go_simp)) hq0 ?_
           go_frame
           refine tkA 8 (.pointer (some ⟨g, 0 + mi * 5, none⟩)) rfl hq0 ?_
           go_frame
           refine tkA 9 (.pointer (some ⟨g, 0 + mi * 5 + 3, none⟩)) rfl hq0 ?_
           go_frame
           refine tqA 10 (.slice (some ⟨db, 0, none⟩) 256 dcap) rfl (yA (by intro w hS; have hc := (hS.cell (p := ⟨g, mi * 5 + 3, none⟩) HGL.out).trans k3.out; go_simp)) hq0 ?_
           go_frame
           refine rdA 11 rfl (fun K hK => ?_)
           go_simp
           go_at_call 76
           refine (HRC.out _ hq0).mono ?_
           rintro e w3 ⟨v3, rfl, hO3, hB3⟩
           have HO3 := hid hO3
           obtain ⟨s3, c3, hv3, _, _⟩ := hO3.form
           rw [HDL.out] at hv3
           subst hv3
           clear hO3
           go_wp2_with fail
           refine hK.out _ _ (hq0.trans (hB3.mono hq0.size)) ?_
           clear hK K hq0
           intro hq0
           try go_frame
           refine tkA 12 (.slice s3 256 c3) rfl hq0 ?_
           go_frame
           refine wdA ?_
           go_wp2
           go_roundw
           case rel => exact ⟨j + 1, by omega, by go_num, by rw [HFS.out]; exact HO3.out.base_le (Nat.le_trans MA.out.bl.size HB.out.size), HB.out.trans (hq0.mono HB.out.size)⟩
           case measure => simp [intOf]; omega
         · obtain rfl : j = mine.length := by omega
           clear hjl
           go_wp2
           go_roundw
           case rel => exact ⟨i + 1, [], [], by omega, by go_num, by rw [HON2.out]; rfl, ⟨HPC.out, by rw [HPG.out]; have e : (mineOf (play R.base (R.log.take i)).2 p).take mine.length = mineOf (play R.base (R.log.take i)).2 p := by { rw [MA.out.s.len, List.take_length] }; have := HO.out; rw [e] at this ⊢; exact this, OwnN.nil _ _, OwnN.nil _ _, (fun k hk => by cases hk), MA.out.bl.trans (HB.out.mono MA.out.bl.size)⟩⟩
           case measure => simp [intOf]; omega
     | crashed fs =>
       replace k0 : (wr.alloc (.cells (encX (.crashed fs, dv)).toArray 143)).cell? ⟨wr.heap.size, 0, none⟩ = some (.int .i64 3) := k0
       have hEO : Own w base dv fs := HEO.out
       obtain ⟨fp, fc, hdv, _, _⟩ := hEO.form
       subst hdv
       have HEO2 := hid hEO
       have K5A := hid (show (wr.alloc (.cells (encX (.crashed fs, .slice fp fs.length fc)).toArray 143)).cell? ⟨wr.heap.size, 3, none⟩ = some (.slice fp fs.length fc) by rw [cell_of_row _ _ _ _ _ _ HA.out]; rfl)
       have HPG := hid (pg_crashed HOK.out.bl HOK.out.ev hp HIL.out HEV.out)
       have HPC := hid (PgS.closed (b := R.base) (p := p) HIL.out (Or.inr ⟨fs, HEV.out⟩))
       have HON2 := hid (show openN (R.log.take (i + 1)) = 0 by rw [HMS.out, HEV.out, openN_snoc])
       have HFB8 := hid (show Bts fs by have := HOK.out.ev _ (show R.log.getD i .synced ∈ R.log by rw [List.getD_eq_getElem?_getD, List.getElem?_eq_getElem HIL.out]; exact List.getElem_mem HIL.out); rw [HEV.out] at this; exact this)
       have HGA := hid (show (wr.alloc (.cells (encX (.crashed fs, .slice fp fs.length fc)).toArray 143)).heap[gn]? = some (.cells (ints .u8 (pgI (play R.base (R.log.take i)).1 p) ++ rn).toArray 5 (0, 0)) from hold HGN.out)
       have HGE0 := hid (show wr.heap.size < (wr.alloc (.cells (encX (.crashed fs, .slice fp fs.length fc)).toArray 143)).heap.size by simp)
       have HGG := hid (show gn < wr.heap.size from hlt HGN.out)
       clear k1 hEO HEO
       go_wp2_with (first
         | refine wpList_load_mid rfl 143 _ rfl g (i * 5) rfl _ _ hr Tryz.underlying143 rfl hio ?_
         | (refine wpList_store_row rfl 143 _ _ rfl wr.heap.size _ rfl rfl 143 _ g1.out K1.out K2.out oo.out ?_; rw [setRow_alloc]; generalize wr.alloc (.cells (encX (.crashed fs, .slice fp fs.length fc)).toArray 143) = wA at *; clear g1 K1 K2 oo hr; generalize hGe : wr.heap.size = G at *))
       clear k0
       go_loopw [6, 13] (fun nv jv w2 => ∃ j : Nat, j ≤ mine.length ∧ jv = .int .i64 j ∧ nv = .slice (some ⟨gn, 0, none⟩) 256 cn ∧ w2.heap[gn]? = some (.cells (ints .u8 (((mineOf (play R.base (R.log.take i)).2 p).take j).foldl (fun now x => if x.2 < fs.length then tornP now x.1.data (fateOf fs x.2) else now) (pgI (play R.base (R.log.take i)).1 p)) ++ rn).toArray 5 (0, 0)) ∧ Kps gn wA w2) (fun _ jv _ => mine.length - (intOf jv).toNat)
       case atStart => exact ⟨0, by omega, rfl, rfl, HGA.out, Kps.refl _ _⟩
       case round =>
         obtain ⟨w2, hw2⟩ : ∃ w2, w2 = wr := ⟨_, rfl⟩
         subst hw2
         obtain ⟨j, hj, rfl, rfl, hR2, hKp⟩ := hrel
         have HR2 := hid hR2
         have HKp := hid hKp
         have HL2 := hid (show (((mineOf (play R.base (R.log.take i)).2 p).take j).foldl (fun now x => if x.2 < fs.length then tornP now x.1.data (fateOf fs x.2) else now) (pgI (play R.base (R.log.take i)).1 p)).length = 256 from fold_torn_len _ _ _ HPLN.out)
         clear hR2 hKp
         by_cases hjl : j < mine.length
         · have j1 : (j : Int) < (mine.length : Int) := by omega
           obtain ⟨gm, mc2, hme, hmcell, hmob⟩ := MA.out.m.at j hjl
           simp only [Value.slice.injEq] at hme
           obtain ⟨rfl, _, rfl⟩ := hme
           obtain ⟨gp, pc2, hpe, hpcell, hpob⟩ := MA.out.q.at j (by rw [← MA.out.s.ln]; exact hjl)
           simp only [Value.slice.injEq] at hpe
           obtain ⟨rfl, _, rfl⟩ := hpe
           have hpj := MA.out.s.place j hjl
           obtain ⟨mi, hmi⟩ : ∃ mi, mi = mine.getD j 0 := ⟨_, rfl⟩
           obtain ⟨pj, hpj2⟩ : ∃ pj, pj = place.getD j 0 := ⟨_, rfl⟩
           rw [← hmi] at hmcell
           rw [← hpj2] at hpcell hpj
           have hms := MA.out.s.mi j hjl
           rw [← hmi] at hms
           obtain ⟨db, dcap, hdb, hat⟩ := HK.out.wrote_at HOK.out g cap HLV.out mi p _ (by rw [HLL.out]; omega) hms.2
           have HDL := hid (ev_len HOK.out (by rw [HLL.out]; omega) hms.2).1
           have hAT := hat wA (fun k hk => MA.out.bl.block k hk) MA.out.bl.size
           have nm : gm ≠ gn := by
             obtain ⟨_, cur, hh⟩ := ownsRow_block MA.out.m gm hmob
             exact ne_ty hh HGA.out (by decide)
           have np2 : gp ≠ gn := by
             obtain ⟨_, cur, hh⟩ := ownsRow_block MA.out.q gp hpob
             exact ne_ty hh HGA.out (by decide)
           have lA : ∀ {k jj : Nat} {v : Value}, wA.cell? ⟨k, jj, none⟩ = some v → k < wA.heap.size := fun hv => World.block_lt_of_cell? _ _ hv
           have up : ∀ {k jj : Nat} {v : Value}, wA.cell? ⟨k, jj, none⟩ = some v → k ≠ gn → w2.cell? ⟨k, jj, none⟩ = some v ∧ k < w2.heap.size ∧ k ≠ gn := fun hv hn => ⟨HKp.out.cellK ⟨_, _, none⟩ ⟨lA hv, hn⟩ hv, Nat.lt_of_lt_of_le (lA hv) HKp.out.size, hn⟩
           have hgl : g < w.heap.size := by
             obtain ⟨g', cap', e', hg', _⟩ := HK.out.at i hlq
             rw [HLV.out] at e'
             simp only [Value.slice.injEq, Option.some.injEq, Addr.mk.injEq] at e'
             rw [e'.1.1]; exact hg'
           have gnB := HGB.out
           have u1 := up (HC1.out wA MA.out.bl) (by have := HPW.out; omega)
           have u2 := up hmcell nm
           have u3 := up hAT.1 (by omega)
           have u4 := up hpcell np2
           have u5 := up K5A.out (by have := HGG.out; omega)
           have imi : (mi : Int) < (Q.es.length : Int) := by have := hms.1; omega
           have HFS := hid (foldl_step (fun (now : List Int) (x : OW × Nat) => if x.2 < fs.length then tornP now x.1.data (fateOf fs x.2) else now) (pgI (play R.base (R.log.take i)).1 p) (mineOf (play R.base (R.log.take i)).2 p) dM j (by rw [← MA.out.s.len]; exact hjl))
           have j2 : (j : Int) < (place.length : Int) := by rw [← MA.out.s.ln]; exact j1
           rw [← hpj] at HFS
           have HGP := hid u4.2.1
           have k4 := hid u4.1
           have HGE := hid u5.2.1
           have k5 := hid u5.1
           by_cases hlt2 : pj < fs.length
           · have HLT := hid (show (pj : Int) < (fs.length : Int) by omega)
             obtain ⟨fb, fc2, fr, hfe, hfbB, hfh, hfc, hfm, hfo⟩ := own_in HEO2.out (by omega)
             simp only [Value.slice.injEq] at hfe
             obtain ⟨rfl, _, rfl⟩ := hfe
             have hfl : fb < w.heap.size := hlt hfh
             have hfA : wA.heap[fb]? = some (.cells (ints .u8 fs ++ fr).toArray 5 (0, 0)) := (MA.out.bl.block fb hfl).trans hfh
             obtain ⟨fate, hfate⟩ : ∃ fate, fate = fateOf fs pj := ⟨_, rfl⟩
             have hfx : ((fate : Nat) : Int) = fs.getD pj 0 := by rw [hfate]; unfold fateOf; have := HFB8.out.get pj; omega
             have hf8 : fate < 256 := by have := HFB8.out.get pj; omega
             have u6 := up (show wA.cell? ⟨fb, pj, none⟩ = some (.int .u8 (fate : Int)) by rw [hfx]; exact cell_rows hfA pj hlt2) (by omega)
             have ipj : (pj : Int) < (fs.length : Int) := by omega
             have HRT := hid (rtorn_any w2.drew.drew gn cn _ _ rn (show w2.drew.drew.heap[gn]? = _ from HR2.out) HL2.out HCN.out HMN.out db 0 dcap HDL.out (by omega) (show db < w2.heap.size by have := MA.out.bl.size; have := HKp.out.size; omega) (fun jj hjj => (up (hAT.2.2 jj hjj) (by omega)).1) fate hf8)
             rw [if_pos hlt2, ← hfate] at HFS
             have HPL := hid u1.2
             have k1 := hid u1.1
             have HGM := hid u2.2
             have k2 := hid u2.1
             have HGL := hid u3.2
             have k3 := hid u3.1
             have HFB := hid u6.2
             have HGP2 := hid u4.2
             have HGE2 := hid u5.2
             have k6 := hid u6.1
             clear hmcell hpcell hms hat hdb hmob hpob hAT up lA u1 u2 u3 u4 u5 u6 hfh hfA hgl hmi hpj2 hpj hfate hfx nm np2 hlt2
             go_wp2
             refine rgA (fun w' => Below w2.heap.size w2 w') (Below.refl _ _).drew (fun hq0 => ?_)
             refine tkA 0 (.slice (some ⟨gp, 0, none⟩) place.length pc) rfl hq0 ?_
             go_frame
             refine tkA 1 (.int .i64 j) rfl hq0 ?_
             go_frame
             refine tkA 4 (.pointer (some ⟨G, 3, none⟩)) rfl hq0 ?_
             go_frame
             refine tkA 2 (.pointer (some ⟨gp, 0 + j, none⟩)) rfl hq0 ?_
             go_frame
             refine tqA 5 (.slice (some ⟨fb, 0, none⟩) fs.length fc) rfl (yA (by intro w hS; have hc := (hS.cell (p := ⟨G, 3, none⟩) HGE.out).trans k5.out; go_simp)) hq0 ?_
             go_frame
             refine tqA 3 (.int .i64 pj) rfl (yA (by intro w hS; have hc := (hS.cell (p := ⟨gp, j, none⟩) HGP.out).trans k4.out; go_simp)) hq0 ?_
             go_frame
             refine tkA 6 (.int .i64 (fs.length : Int)) rfl hq0 ?_
             go_frame
             refine tqA 7 (.bool true) rfl (yA (by intro w hS; (have hlt := HLT.out; go_simp; all_goals omega))) hq0 ?_
             go_frame
             refine wdA ?_
             have HK25 := hid hq0
             go_wp2
             refine rgA (fun w' => Kps gn w2 w') (kps_of (Below.refl _ _).drew.drew) (fun hq0 => ?_)
             refine tkA 0 (.slice (some ⟨gn, 0, none⟩) 256 cn) rfl hq0 ?_
             go_frame
             refine tkA 1 (.pointer (some ⟨Q.p, 0, none⟩)) rfl hq0 ?_
             go_frame
             refine tkA 5 (.slice (some ⟨gm, 0, none⟩) mine.length mc) rfl hq0 ?_
             go_frame
             refine tkA 6 (.int .i64 j) rfl hq0 ?_
             go_frame
             refine tkA 12 (.pointer (some ⟨G, 3, none⟩)) rfl hq0 ?_
             go_frame
             refine tkA 14 (.slice (some ⟨gp, 0, none⟩) place.length pc) rfl hq0 ?_
             go_frame
             refine tkA 15 (.int .i64 j) rfl hq0 ?_
             go_frame
             refine tkA 2 (.pointer (some ⟨Q.p, 0, none⟩)) rfl hq0 ?_
             go_frame
             refine tkA 7 (.pointer (some ⟨gm, 0 + j, none⟩)) rfl hq0 ?_
             go_frame
             refine tqA 13 (.slice (some ⟨fb, 0, none⟩) fs.length fc) rfl (yA (by intro w hS; have hc := Kps.cellK hS (⟨G, 3, none⟩ : Addr) HGE2.out k5.out; go_simp)) hq0 ?_
             go_frame
             refine tkA 16 (.pointer (some ⟨gp, 0 + j, none⟩)) rfl hq0 ?_
             go_frame
             refine tkA 3 (.pointer (some ⟨Q.p, 1, none⟩)) rfl hq0 ?_
             go_frame
             refine tqA 8 (.int .i64 mi) rfl (yA (by intro w hS; have hc := Kps.cellK hS (⟨gm, j, none⟩ : Addr) HGM.out k2.out; go_simp)) hq0 ?_
             go_frame
             refine tqA 17 (.int .i64 pj) rfl (yA (by intro w hS; have hc := Kps.cellK hS (⟨gp, j, none⟩ : Addr) HGP2.out k4.out; go_simp)) hq0 ?_
             go_frame
             refine tqA 4 (.slice (some ⟨g, 0, none⟩) Q.es.length cap) rfl (yA (by intro w hS; have hc := Kps.cellK hS (⟨Q.p, 1, none⟩ : Addr) HPL.out k1.out; go_simp)) hq0 ?_
             go_frame
             refine tkA 18 (.pointer (some ⟨fb, 0 + pj, none⟩)) rfl hq0 ?_
             go_frame
             refine tkA 9 (.pointer (some ⟨g, 0 + mi * 5, none⟩)) rfl hq0 ?_
             go_frame
             refine tqA 19 (.int .u8 (fate : Int)) rfl (yA (by intro w hS; have hc := Kps.cellK hS (⟨fb, pj, none⟩ : Addr) HFB.out k6.out; go_simp)) hq0 ?_
             go_frame
             refine tkA 10 (.pointer (some ⟨g, 0 + mi * 5 + 3, none⟩)) rfl hq0 ?_
             go_frame
             refine tqA 11 (.slice (some ⟨db, 0, none⟩) 256 dcap) rfl (yA (by intro w hS; have hc := Kps.cellK hS (⟨g, mi * 5 + 3, none⟩ : Addr) HGL.out k3.out; go_simp)) hq0 ?_
             go_frame
             refine rdA 20 rfl (fun K hK => ?_)
             go_simp
             go_at_call 109
             refine (HRT.out).mono ?_
             rintro e w3 ⟨rfl, hR3, hK3⟩
             have HR3 := hid hR3
             go_wp2_with fail
             refine hK.out _ _ (hq0.trans hK3) ?_
             clear hK K hq0
             intro hq0
             try go_frame
             refine tkA 21 (.slice (some ⟨gn, 0, none⟩) 256 cn) rfl hq0 ?_
             go_frame
             refine wdA ?_
             go_wp2
             go_roundw
             case rel => exact ⟨j + 1, by omega, by go_num, rfl, by rw [HFS.out]; exact HR3.out, HKp.out.trans hq0⟩
             case measure => simp [intOf]; omega
           · have HLT := hid (show fs.length ≤ pj by omega)
             rw [if_neg hlt2] at HFS
             clear hmcell hpcell hms hat hdb hmob hpob hAT up lA u1 u2 u3 u4 u5 hgl hmi hpj2 hpj nm np2 hlt2
             go_wp2
             refine rgA (fun w' => Below w2.heap.size w2 w') (Below.refl _ _).drew (fun hq0 => ?_)
             refine tkA 0 (.slice (some ⟨gp, 0, none⟩) place.length pc) rfl hq0 ?_
             go_frame
             refine tkA 1 (.int .i64 j) rfl hq0 ?_
             go_frame
             refine tkA 4 (.pointer (some ⟨G, 3, none⟩)) rfl hq0 ?_
             go_frame
             refine tkA 2 (.pointer (some ⟨gp, 0 + j, none⟩)) rfl hq0 ?_
             go_frame
             refine tqA 5 (.slice fp fs.length fc) rfl (yA (by intro w hS; have hc := (hS.cell (p := ⟨G, 3, none⟩) HGE.out).trans k5.out; go_simp)) hq0 ?_
             go_frame
             refine tqA 3 (.int .i64 pj) rfl (yA (by intro w hS; have hc := (hS.cell (p := ⟨gp, j, none⟩) HGP.out).trans k4.out; go_simp)) hq0 ?_
             go_frame
             refine tkA 6 (.int .i64 (fs.length : Int)) rfl hq0 ?_
             go_frame
             refine tqA 7 (.bool false) rfl (yA (by intro w hS; (have hlt := HLT.out; go_simp; all_goals omega))) hq0 ?_
             go_frame
             refine wdA ?_
             go_wp2
             go_roundw
             case rel => exact ⟨j + 1, by omega, by go_num, rfl, by rw [HFS.out]; exact HR2.out, HKp.out.trans (kps_of hq0)⟩
             case measure => simp [intOf]; omega
         · obtain rfl : j = mine.length := by omega
           clear hjl
           go_wp2
           go_roundw
           case rel => exact ⟨i + 1, [], [], by omega, by go_num, by rw [HON2.out]; rfl, ⟨HPC.out, by rw [HPG.out]; have h1 := HR2.out; rw [MA.out.s.len, List.take_length] at h1; have h2 := MA.out.n; rw [show (256 : Nat) = (pgI (play R.base (R.log.take i)).1 p).length from HPLN.out.symm] at h2 ⊢; exact h2.turn HGA.out h1 (by rw [HPLN.out]; exact fold_torn_len _ _ _ HPLN.out), OwnN.nil _ _, OwnN.nil _ _, (fun k hk => by cases hk), ⟨HKp.out.os.trans MA.out.bl.os, HKp.out.tape.trans MA.out.bl.tape, HKp.out.output.trans MA.out.bl.output, Nat.le_trans MA.out.bl.size HKp.out.size, fun k hk => (HKp.out.block k (Nat.lt_of_lt_of_le hk MA.out.bl.size) (by have := HGB.out; omega)).trans (MA.out.bl.block k hk)⟩⟩⟩
           case measure => simp [intOf]; omega
     | flipped q bit pat =>
       replace k0 : (wr.alloc (.cells (encX (.flipped q bit pat, dv)).toArray 143)).cell? ⟨wr.heap.size, 0, none⟩ = some (.int .i64 4) := k0
       replace k1 : (wr.alloc (.cells (encX (.flipped q bit pat, dv)).toArray 143)).cell? ⟨wr.heap.size, 1, none⟩ = some (.int .i64 q) := k1
       have k2 : (wr.alloc (.cells (encX (.flipped q bit pat, dv)).toArray 143)).cell? ⟨wr.heap.size, 2, none⟩ = some (.int .i64 bit) := by rw [cell_of_row _ _ _ _ _ _ HA.out]; rfl
       have k4 : (wr.alloc (.cells (encX (.flipped q bit pat, dv)).toArray 143)).cell? ⟨wr.heap.size, 4, none⟩ = some (.int .u32 pat) := by rw [cell_of_row _ _ _ _ _ _ HA.out]; rfl
       have hEO : q < n ∧ bit < 2048 ∧ pat < 4294967296 := by have := HOK.out.ev _ (show R.log.getD i .synced ∈ R.log by rw [List.getD_eq_getElem?_getD, List.getElem?_eq_getElem HIL.out]; exact List.getElem_mem HIL.out); rw [HEV.out] at this; exact this
       have HPG := hid (pg_flipped HOK.out.bl HOK.out.ev hp HIL.out HEV.out hEO.1 hEO.2.1)
       have HPS := hid (MA.out.s.flip HIL.out HEV.out)
       have HON2 := hid (show openN (R.log.take (i + 1)) = openN (R.log.take i) by rw [HMS.out, HEV.out, openN_snoc])
       have HGA := hid (show (wr.alloc (.cells (encX (.flipped q bit pat, dv)).toArray 143)).heap[gn]? = some (.cells (ints .u8 (pgI (play R.base (R.log.take i)).1 p) ++ rn).toArray 5 (0, 0)) from hold HGN.out)
       by_cases hq : q = p
       · subst hq
         have HTU := hid (rturned_any _ gn cn _ rn HGA.out HPLN.out HCN.out HMN.out bit hEO.2.1 pat hEO.2.2)
         rw [if_pos rfl] at HPG
         clear hEO
         go_wp2_with (first
           | refine wpList_load_mid rfl 143 _ rfl g (i * 5) rfl _ _ hr Tryz.underlying143 rfl hio ?_
           | (refine wpList_store_row rfl 143 _ _ rfl wr.heap.size _ rfl rfl 143 _ g1.out K1.out K2.out oo.out ?_; rw [setRow_alloc]; generalize wr.alloc (.cells (encX (.flipped q bit pat, dv)).toArray 143) = wA at *; clear g1 K1 K2 oo)
           | (go_at_call 110; refine HTU.out.mono ?_; rintro e w3 ⟨rfl, hR3, hK3⟩; have HR3 := hid hR3; have HK3 := hid hK3; clear hR3 hK3))
         go_roundw
         case rel => exact ⟨i + 1, mine, place, by omega, by go_num, by rw [HON2.out], ⟨HPS.out, by rw [HPG.out]; have h2 := MA.out.n; rw [show (256 : Nat) = (pgI (play R.base (R.log.take i)).1 q).length from HPLN.out.symm] at h2 ⊢; exact h2.turn HGA.out HR3.out (flipP_len _ _ _ _), MA.out.m.heap fun k e => by
           obtain ⟨_, cur, hh⟩ := ownsRow_block MA.out.m k e
           exact HK3.out.block k (hlt hh) (ne_ty hh HGA.out (by decide)), MA.out.q.heap fun k e => by
           obtain ⟨_, cur, hh⟩ := ownsRow_block MA.out.q k e
           exact HK3.out.block k (hlt hh) (ne_ty hh HGA.out (by decide)), MA.out.d, ⟨HK3.out.os.trans MA.out.bl.os, HK3.out.tape.trans MA.out.bl.tape, HK3.out.output.trans MA.out.bl.output, Nat.le_trans MA.out.bl.size HK3.out.size, fun k hk => (HK3.out.block k (Nat.lt_of_lt_of_le hk MA.out.bl.size) (by have := HGB.out; omega)).trans (MA.out.bl.block k hk)⟩⟩⟩
         case measure => simp [intOf]; omega
       · have hq1 : ¬ (q : Int) = (p : Int) := by omega
         have hqb : ((q : Int) == (p : Int)) = false := by simp; omega
         rw [if_neg hq] at HPG
         clear hEO
         go_wp2_with (first
           | refine wpList_load_mid rfl 143 _ rfl g (i * 5) rfl _ _ hr Tryz.underlying143 rfl hio ?_
           | (refine wpList_store_row rfl 143 _ _ rfl wr.heap.size _ rfl rfl 143 _ g1.out K1.out K2.out oo.out ?_; rw [setRow_alloc]))
         go_roundw
         case rel => exact ⟨i + 1, mine, place, by omega, by go_num, by rw [HON2.out], ⟨HPS.out, by rw [HPG.out]; exact MA.out.n, MA.out.m, MA.out.q, MA.out.d, MA.out.bl⟩⟩
         case measure => simp [intOf]; omega
   · obtain rfl : i = Q.es.length := by omega
     clear hlq
     obtain ⟨w2, hw2⟩ : ∃ w2, w2 = wr := ⟨_, rfl⟩
     subst hw2
     have hpok := play_ok HOK.out.bl (R.log.take Q.es.length) (fun e h => HOK.out.ev e (List.mem_of_mem_take h))
     rw [← HLL.out] at hM hpok
     have hpl := pgI_len hpok.1 hp
     have HRD2 := hid (HRD.out mine place hM.s)
     have hn256 : (pgI D.img p).length = 256 := by rw [List.take_length, HDD.out] at hpl; exact hpl
     have HM := hid hM
     obtain ⟨sn, cnn, hsn, _, _⟩ := hM.n.form
     rw [hpl] at hsn
     subst hsn
     have HN1 := hid (show Own w2 w.heap.size (.slice sn 256 cnn) (pgI D.img p) by have := hM.n; rw [List.take_length, HDD.out] at this; exact this)
     obtain ⟨ms, mc, hmv⟩ := hM.m.form
     obtain ⟨ps, pc, hpv⟩ := hM.q.form
     subst hmv hpv
     have iml : (mine.length : Int) ≤ 400000000000 := by
       have h1 := openN_le R.log
       have h2 : mine.length ≤ (play R.base (R.log.take R.log.length)).2.length := by
         rw [hM.s.len]; unfold mineOf
         exact Nat.le_trans (List.length_filter_le _ _) (by rw [List.length_zipIdx]; exact Nat.le_refl _)
       rw [openN_play, List.take_length] at h2
       rw [HLL.out] at h1
       omega
     by_cases hm0 : mine.length = 0
     · have im0 : ¬ (0 : Int) < (mine.length : Int) := by omega
       rw [if_pos hm0] at HRD2
       clear hM hpok hpl
       go_wp2
       go_ret2
       exact ⟨_, _, rfl, HN1.out, by rw [HRD2.out]; exact HN1.out, HM.out.bl⟩
     · have im0 : (0 : Int) < (mine.length : Int) := by omega
       rw [if_neg hm0] at HRD2
       obtain ⟨j, hj⟩ : ∃ j, j = mine.length - 1 := ⟨_, rfl⟩
       have hjl : j < mine.length := by omega
       have HJ := hid (show ((mine.length : Int)) - 1 = (j : Int) by omega)
       rw [← hj] at HRD2
       obtain ⟨gm, mc2, hme, hmcell, hmob⟩ := hM.m.at j hjl
       simp only [Value.slice.injEq] at hme
       obtain ⟨rfl, _, rfl⟩ := hme
       obtain ⟨mi, hmi⟩ : ∃ mi, mi = mine.getD j 0 := ⟨_, rfl⟩
       rw [← hmi] at hmcell HRD2
       have hms := hM.s.mi j hjl
       rw [← hmi] at hms
       rw [hms.2] at HRD2
       obtain ⟨g, cap, ee, hg, hc, hm, hr, ho⟩ := (HK.out.below hM.bl).at mi (by rw [← HLL.out]; omega)
       have HLV := hid ee
       rw [hlv] at ee
       simp only [Value.slice.injEq] at ee
       obtain ⟨hlp, _, hlc⟩ := ee
       subst hlp
       obtain ⟨db, dcap, hdb, hat⟩ := HK.out.wrote_at HOK.out g cap HLV.out mi p _ (by omega) hms.2
       have HDL := hid (ev_len HOK.out (by omega) hms.2).1
       have HAT := hid (hat w2 (fun k hk => hM.bl.block k hk) hM.bl.size)
       have HPL := hid (show Q.p < w2.heap.size from Nat.lt_of_lt_of_le HPW.out hM.bl.size)
       have k1 := hid (HC1.out w2 hM.bl)
       have HGM := hid (show gm < w2.heap.size from World.block_lt_of_cell? _ _ hmcell)
       have k2 := hid hmcell
       have k3 := hid HAT.out.1
       have HGL := hid (show g < w2.heap.size from World.block_lt_of_cell? _ _ HAT.out.1)
       have imi : (mi : Int) < (Q.es.length : Int) := by have := hms.1; rw [HLL.out] at this; omega
       have ij : (j : Int) < (mine.length : Int) := by omega
       have HRC := hid (fun (w' : World) (hb : Below w2.heap.size w2 w') => rcopied_any w' _ _ _ (HAT.out.2.1.below hb (Nat.le_refl _)) (fun h => by cases h) (by rw [HDL.out]; omega) 256 HDL.out)
       clear hM hpok hpl hmcell hms hat hmob hr ho hc hm hg hmi hj
       go_wp2
       refine rgA (fun w' => Below w2.heap.size w2 w') (Below.refl _ _).drew (fun hq0 => ?_)
       refine tkA 0 (.pointer (some ⟨Q.p, 0, none⟩)) rfl hq0 ?_
       go_frame
       refine tkA 4 (.slice (some ⟨gm, 0, none⟩) mine.length mc) rfl hq0 ?_
       go_frame
       refine tkA 5 (.slice (some ⟨gm, 0, none⟩) mine.length mc) rfl hq0 ?_
       go_frame
       refine tkA 1 (.pointer (some ⟨Q.p, 0, none⟩)) rfl hq0 ?_
       go_frame
       refine tkA 6 (.int .i64 (mine.length : Int)) rfl hq0 ?_
       go_frame
       refine tkA 2 (.pointer (some ⟨Q.p, 1, none⟩)) rfl hq0 ?_
       go_frame
       refine tqA 7 (.int .i64 j) rfl (yA (by intro w hS; (have hj := HJ.out; go_simp; all_goals exact wrap_i64_id _ (by omega) (by omega)))) hq0 ?_
       go_frame
       refine tqA 3 (.slice (some ⟨g, 0, none⟩) Q.es.length cap) rfl (yA (by intro w hS; have hc := (hS.cell (p := ⟨Q.p, 1, none⟩) HPL.out).trans k1.out; go_simp)) hq0 ?_
       go_frame
       refine tkA 8 (.pointer (some ⟨gm, 0 + j, none⟩)) rfl hq0 ?_
       go_frame
       refine tqA 9 (.int .i64 mi) rfl (yA (by intro w hS; have hc := (hS.cell (p := ⟨gm, j, none⟩) HGM.out).trans k2.out; go_simp)) hq0 ?_
       go_frame
       refine tkA 10 (.pointer (some ⟨g, 0 + mi * 5, none⟩)) rfl hq0 ?_
       go_frame
       refine tkA 11 (.pointer (some ⟨g, 0 + mi * 5 + 3, none⟩)) rfl hq0 ?_
       go_frame
       refine tqA 12 (.slice (some ⟨db, 0, none⟩) 256 dcap) rfl (yA (by intro w hS; have hc := (hS.cell (p := ⟨g, mi * 5 + 3, none⟩) HGL.out).trans k3.out; go_simp)) hq0 ?_
       go_frame
       refine rdA 13 rfl (fun K hK => ?_)
       go_simp
       go_at_call 76
       refine (HRC.out _ hq0).mono ?_
       rintro e w3 ⟨v3, rfl, hO3, hB3⟩
       have HO3 := hid hO3
       obtain ⟨s3, c3, hv3, _, _⟩ := hO3.form
       rw [HDL.out] at hv3
       subst hv3
       clear hO3
       go_wp2_with fail
       refine hK.out _ _ (hq0.trans (hB3.mono hq0.size)) ?_
       clear hK K hq0
       intro hq0
       try go_frame
       refine tkA 14 (.slice s3 256 c3) rfl hq0 ?_
       go_frame
       refine wdA ?_
       go_wp2
       go_ret2
       exact ⟨_, _, rfl, HN1.out.below hq0 (Nat.le_refl _), by rw [HRD2.out]; exact HO3.out.base_le HM.out.bl.size, HM.out.bl.trans (hq0.mono HM.out.bl.size)⟩
end
end Go.Proofs.YtjhocjjecfdphaaGreatDoor
