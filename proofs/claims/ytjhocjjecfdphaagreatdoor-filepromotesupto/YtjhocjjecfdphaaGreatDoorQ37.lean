import Derived.Test.YtjhocjjecfdphaaGreatDoorQ36
namespace Go.Proofs.YtjhocjjecfdphaaGreatDoor
set_option linter.unusedVariables false
set_option linter.unusedSimpArgs false
set_option maxRecDepth 100000
set_option maxHeartbeats 4000000
section
open Go.RowKit
attribute [local go_sem ↓] Go.wp_at_zero Go.wp_at_succ
def mrk (i : Nat) : Int := 101 + ((i % 100 : Nat) : Int)
def lentF (raw : List Int) (L : Nat) : List Int := raw ++ (List.range (L - raw.length)).map mrk
theorem lentF_len (raw : List Int) (L : Nat) (h : raw.length ≤ L) : (lentF raw L).length = L := by unfold lentF; rw [List.length_append, List.length_map, List.length_range]; omega
theorem lentF_lo (raw : List Int) (L i : Nat) (hi : i < raw.length) : (lentF raw L).getD i 0 = raw.getD i 0 := by
 unfold lentF; rw [List.getD_eq_getElem?_getD, List.getElem?_append_left hi, ← List.getD_eq_getElem?_getD]
theorem lentF_hi (raw : List Int) (L i : Nat) (h : raw.length ≤ i) (hi : i < L) : (lentF raw L).getD i 0 = mrk (i - raw.length) := by
 unfold lentF; rw [List.getD_eq_getElem?_getD, List.getElem?_append_right h, List.getElem?_map, List.getElem?_range (by omega)]; rfl
def mixF (T old : List Int) (i : Nat) : List Int := T.take i ++ old.drop i
theorem mixF_len (T old : List Int) (i : Nat) (h : T.length = old.length) (hi : i ≤ old.length) : (mixF T old i).length = old.length := by unfold mixF; rw [List.length_append, List.length_take, List.length_drop]; omega
theorem mixF_set (T old : List Int) (i : Nat) (h : T.length = old.length) (hi : i < old.length) : (mixF T old i).set i (T.getD i 0) = mixF T old (i + 1) := by
 unfold mixF
 have hl : (T.take i).length = i := by rw [List.length_take]; omega
 rw [List.set_append_right _ _ (by omega), hl, Nat.sub_self, List.drop_eq_getElem_cons hi, List.set_cons_zero, List.take_succ_eq_append_getElem (by omega), List.append_assoc]
 congr 2
 rw [List.getD_eq_getElem?_getD, List.getElem?_eq_getElem (by omega)]; rfl
theorem mixF_all (T old : List Int) (h : T.length = old.length) : mixF T old old.length = T := by unfold mixF; rw [List.drop_length, List.append_nil, ← h, List.take_length]
def WK (w : World) (pw : Nat) (Dv Fv Rv : Value) : Prop := w.heap[pw]? = some (.cells #[Dv, Fv, Rv] 59 (0, 0))
theorem WK.c2 {w : World} {pw : Nat} {Dv Fv Rv : Value} (h : WK w pw Dv Fv Rv) : w.cell? ⟨pw, 2, none⟩ = some Rv := by rw [cell_of_row _ _ _ _ _ _ h]; rfl
theorem WK.fz {w : World} {pw : Nat} {Dv Fv Rv : Value} (h : WK w pw Dv Fv Rv) (j : Nat) : w.frozen? ⟨pw, j, none⟩ = false := frozen_of_row _ _ _ _ _ h
theorem WK.below' {w w1 : World} {pw : Nat} {Dv Fv Rv : Value} (h : WK w pw Dv Fv Rv) (hb : Below w.heap.size w w1) : WK w1 pw Dv Fv Rv := (hb.block pw (hlt_ h)).trans h
theorem WK.set {w : World} {pw : Nat} {Dv Fv Rv : Value} (h : WK w pw Dv Fv Rv) (v : Value) : WK (w.setCell ⟨pw, 2, none⟩ v) pw Dv Fv v := by
 unfold WK; rw [heap_setCell_same _ _ _ _ _ _ h]; rfl
theorem sl_hB (w : World) (g L cap h : Nat) (h2 : h ≤ cap) : (Instr.slice 22 (.slice (some ⟨g, 0, none⟩) L cap) none (some (.int .i64 (h : Nat))) none).run Tryz.prog w = .ok (.slice (some ⟨g, 0, none⟩) h cap) w := by
 have hz : (sizeOf (Tryz.prog.elem 22)).run Tryz.prog w = .ok 1 w := by kernel_rfl
 rw [run_slice_h w 22 _ _ _ (by kernel_rfl) .i64 h (by omega) (by omega), hz]
 simp only [Result.andThen_ok, sliced, Int.toNat_natCast, Nat.sub_zero, Nat.zero_mul]
 simp
 intro _; rfl
theorem Own.row' {w : World} {base g cap : Nat} {zs : List Int} {rest : List Value} (hg : w.heap[g]? = some (.cells (ints .u8 zs ++ rest).toArray 5 (0, 0))) (hb : base ≤ g) (hc : zs.length ≤ cap) (hm : cap ≤ maxLen) (hs : zs.length + rest.length = cap) : Own w base (.slice (some ⟨g, 0, none⟩) zs.length cap) zs := by
 refine ⟨by rw [ints_len]; omega, Or.inr ⟨g, cap, _, rfl, hb, hg, hc, hm, ?_, ?_⟩⟩
 · simp [ints_len, hs]
 · rw [List.toList_toArray, Nat.mul_one, List.take_append_of_le_length (by rw [ints_len]; exact Nat.le_refl _), List.take_of_length_le (by rw [ints_len]; exact Nat.le_refl _)]
theorem own_in' {w : World} {base : Nat} {v : Value} {zs : List Int} (h : Own w base v zs) (hz : 0 < zs.length) : ∃ g cap rest, v = .slice (some ⟨g, 0, none⟩) zs.length cap ∧ base ≤ g ∧ w.heap[g]? = some (.cells (ints .u8 zs ++ rest).toArray 5 (0, 0)) ∧ zs.length ≤ cap ∧ cap ≤ maxLen ∧ zs.length + rest.length = cap := by
 rcases h.2 with ⟨_, h0⟩ | ⟨g, cap, cur, rfl, hg, hh, hc, hm, hs, ht⟩
 · omega
 · refine ⟨g, cap, cur.toList.drop zs.length, rfl, hg, ?_, hc, hm, ?_⟩
   · rw [hh]
     congr 2
     rw [← ht, Nat.mul_one, List.take_append_drop]
   · have e : cur.toList.length = cap := by rw [Array.length_toList, hs, Nat.mul_one]
     rw [List.length_drop, e]; omega
structure Lent (base : Nat) (pw : Nat) (Dv Fv Rv : Value) (raw : List Int) (w : World) (e : Ending) (w' : World) : Prop where
 it : ∃ R L rc, e = .returned (.slice (some ⟨R, 0, none⟩) raw.length rc) ∧ WK w' pw Dv Fv (.slice (some ⟨R, 0, none⟩) L rc) ∧ Own w' base (.slice (some ⟨R, 0, none⟩) L rc) (lentF raw L) ∧ raw.length + 100 ≤ L ∧ L ≤ 10000000 ∧ (Rv.ownBlock = some R ∨ w.heap.size ≤ R)
 os : w'.os = w.os
 tape : w'.tape = w.tape
 output : w'.output = w.output
 size : w.heap.size ≤ w'.heap.size
 block : ∀ k, k < w.heap.size → k ≠ pw → Rv.ownBlock ≠ some k → w'.heap[k]? = w.heap[k]?
theorem lent_any (w : World) (base : Nat) (hbw : base ≤ w.heap.size) (pw : Nat) (Dv Fv Rv : Value) (rm : List Int) (hW : WK w pw Dv Fv Rv) (hO : Own w base Rv rm) (hr : 1 ≤ rm.length ∧ rm.length ≤ 10000000) (raw : List Int) (hn : raw.length ≤ 1048576) (sp : Option Addr) (cap : Nat) (hS : Src w sp cap raw) (hne : ∀ a, 0 < raw.length → sp = some a → Rv.ownBlock ≠ some a.block ∧ a.block ≠ pw) :
   Calls Tryz.prog 63 #[.pointer (some ⟨pw, 0, none⟩), .slice sp raw.length cap] w fun e w' => Lent base pw Dv Fv Rv raw w e w' := by
 obtain ⟨R, rc, rest, hRv, hRb, hRh, hc1, hc2, hc3⟩ := own_in' hO (by omega)
 subst hRv
 have hpl : pw < w.heap.size := hlt_ hW
 have SL := sl_hB
 have hcap := hS.1
 have i4 : (raw.length : Int) ≤ (cap : Int) := by omega
 have inn : (raw.length : Int) ≤ 1048576 := by omega
 obtain ⟨hs1, hs2, b, oo, hs3, hs4, hs5⟩ := hS
 by_cases hbig : raw.length + 100 ≤ rm.length
 · obtain ⟨L, hL⟩ : ∃ L, L = rm.length := ⟨_, rfl⟩
   obtain ⟨old, hold0⟩ : ∃ old, old = rm := ⟨_, rfl⟩
   obtain ⟨w0, hw0⟩ : ∃ w0, w0 = w := ⟨_, rfl⟩
   rw [← hold0] at hRh
   rw [← hL] at hW hc1 hc3 hbig hne
   rw [← hw0] at hW hRh
   have hpR : pw ≠ R := ne_ty hW hRh (by decide)
   have c2 := hW.c2
   rw [hw0] at c2
   have HPL := hid (show pw < w0.heap.size ∧ pw ≠ R from ⟨by rw [hw0]; exact hpl, hpR⟩)
   have HW := hid hW
   have HT := hid (lentF_len raw L (by omega))
   have HOL := hid (show old.length = L by rw [hold0, hL])
   have HR0 := hid (show w0.heap[R]? = some (.cells (ints .u8 (mixF (lentF raw L) old 0) ++ rest).toArray 5 (0, 0)) from hRh)
   have HSR := hid (fun (h0 : 0 < raw.length) => (show ∃ b oo, sp = some ⟨b, oo, none⟩ ∧ b < w0.heap.size ∧ b ≠ R ∧ ∀ j, j < raw.length → w0.cell? ⟨b, oo + j, none⟩ = some (.int .u8 (raw.getD j 0)) from ⟨b, oo, hs4 h0, by rw [hw0]; exact hs3 h0, (fun e => (hne _ h0 (hs4 h0)).1 (by rw [← e]; rfl)), by rw [hw0]; exact hs5⟩))
   have HFIN := hid (fun (w1 : World) (hR1 : w1.heap[R]? = some (.cells (ints .u8 (lentF raw L) ++ rest).toArray 5 (0, 0))) (hK1 : Kps R w0 w1) => (show Lent base pw Dv Fv (.slice (some ⟨R, 0, none⟩) L rc) raw w (.returned (.slice (some ⟨R, 0, none⟩) raw.length rc)) w1 from by
     rw [hw0] at hK1
     have hl := lentF_len raw L (by omega)
     refine ⟨⟨R, L, rc, rfl, ?_, ?_, by omega, by omega, Or.inl rfl⟩, hK1.os, hK1.tape, hK1.output, hK1.size, fun k hk h1 h2 => hK1.block k hk (fun e => h2 (by rw [e]; rfl))⟩
     · rw [hw0] at hW; exact (hK1.block pw hpl hpR).trans hW
     · have := Own.row' (base := base) (cap := rc) hR1 hRb (by omega) hc2 (by omega)
       rw [hl] at this; exact this))
   have i1 : (raw.length : Int) + 100 ≤ (L : Int) := by omega
   have i2 : (L : Int) ≤ 10000000 := by omega
   have i3 : (L : Int) ≤ (rc : Int) := by omega
   rw [← hL]
   rw [← hw0] at c2 ⊢
   rw [← hw0] at HFIN
   clear hW hRh hO hs3 hs4 hs5 hne hold0 hL hw0 hpR hpl hbw
   go_enter Tryz.func63, Tryz.ntmps63
   go_wp2
   go_loopw [6] (fun iv w1 => ∃ i : Nat, i ≤ L ∧ iv = .int .i64 i ∧ w1.heap[R]? = some (.cells (ints .u8 (mixF (lentF raw L) old i) ++ rest).toArray 5 (0, 0)) ∧ Kps R w0 w1) (fun iv _ => L - (intOf iv).toNat)
   case atStart => exact ⟨0, by omega, rfl, HR0.out, Kps.refl _ _⟩
   case round =>
     clear HR0
     obtain ⟨w1, hw1⟩ : ∃ w1, w1 = wr := ⟨_, rfl⟩
     subst hw1
     obtain ⟨i, hi, rfl, hr, hK⟩ := hrel
     have hml := mixF_len (lentF raw L) old i (HT.out.trans HOL.out.symm) (by rw [HOL.out]; exact hi)
     rw [HOL.out] at hml
     have c2 : w1.cell? ⟨pw, 2, none⟩ = some (.slice (some ⟨R, 0, none⟩) L rc) := hK.cellK ⟨pw, 2, none⟩ HPL.out HW.out.c2
     by_cases hlt1 : i < L
     · have j1 : (i : Int) < (L : Int) := by omega
       have kR := hid (show w1.drew.cell? ⟨R, i, none⟩ = _ from cell_rows hr i (by rw [hml]; exact hlt1))
       have fR := hid (show w1.drew.frozen? ⟨R, i, none⟩ = false from frozen_of_row _ _ i _ _ hr)
       have kR1 := cell_rows hr i (by rw [hml]; exact hlt1)
       have fR1 := frozen_of_row _ _ i _ _ hr
       have HST := hid (fun x : Int => set_rows hr i (by rw [hml]; exact hlt1) x)
       have HMX := hid (mixF_set (lentF raw L) old i (HT.out.trans HOL.out.symm) (by rw [HOL.out]; exact hlt1))
       have HK := hid hK
       have HPW := hid (show pw < w1.heap.size ∧ pw ≠ R from ⟨Nat.lt_of_lt_of_le HPL.out.1 hK.size, HPL.out.2⟩)
       have k2 := hid c2
       by_cases hn2 : i < raw.length
       · have j2 : (i : Int) < (raw.length : Int) := by omega
         obtain ⟨b, oo, hsp, hbs, hb, hcell⟩ := HSR.out (by omega)
         subst hsp
         have HBR := hid (show b < w1.heap.size ∧ b ≠ R from ⟨Nat.lt_of_lt_of_le hbs hK.size, hb⟩)
         have k3 := hid (hK.cellK ⟨b, oo + i, none⟩ ⟨hbs, hb⟩ (hcell i hn2))
         have HLO := hid (lentF_lo raw L i hn2)
         clear hcell
         generalize raw.getD i 0 = x at *
         generalize (mixF (lentF raw L) old i).getD i 0 = y at *
         clear hr hK hml kR1 fR1
         go_wp2
         refine rgA (fun w' => Kps R w1 w') (kps_of (Below.refl _ _).drew) (fun hq0 => ?_)
         refine tkA 0 (.pointer (some ⟨pw, 0, none⟩)) rfl hq0 ?_
         go_frame
         refine tkA 4 (.int .i64 i) rfl hq0 ?_
         go_frame
         refine tkA 5 (.slice (some ⟨b, oo, none⟩) raw.length cap) rfl hq0 ?_
         go_frame
         refine tkA 6 (.int .i64 i) rfl hq0 ?_
         go_frame
         refine tkA 1 (.pointer (some ⟨pw, 0, none⟩)) rfl hq0 ?_
         go_frame
         refine tkA 7 (.pointer (some ⟨b, oo + i, none⟩)) rfl hq0 ?_
         go_frame
         refine tkA 2 (.pointer (some ⟨pw, 2, none⟩)) rfl hq0 ?_
         go_frame
         refine tqA 8 (.int .u8 x) rfl (yA (by intro w hS; have hc := Kps.cellK hS (⟨b, oo + i, none⟩ : Addr) HBR.out k3.out; go_simp)) hq0 ?_
         go_frame
         refine tqA 3 (.slice (some ⟨R, 0, none⟩) L rc) rfl (yA (by intro w hS; have hc := Kps.cellK hS (⟨pw, 2, none⟩ : Addr) HPW.out k2.out; go_simp)) hq0 ?_
         go_frame
         refine tkA 9 (.pointer (some ⟨R, 0 + i, none⟩)) rfl hq0 ?_
         go_frame
         refine rdA 10 rfl (fun K hK => ?_)
         have c2 := kR.out
         have fz := fR.out
         go_simp
         refine hK.out _ _ (((Kps.refl R w1).setAt i (.int .u8 x)).trans (kps_of (Below.refl _ _).drew)) ?_
         clear hK K hq0
         intro hq0
         try go_frame
         refine wdA ?_
         go_wp2
         go_roundw
         case rel => exact ⟨i + 1, by omega, by go_num, by rw [← HMX.out, HLO.out]; exact HST.out _, HK.out.trans hq0⟩
         case measure => simp [intOf]; omega
       · have j2 : ¬ (i : Int) < (raw.length : Int) := by omega
         have HHI := hid (lentF_hi raw L i (by omega) hlt1)
         obtain ⟨r, hrr⟩ : ∃ r, r = (i - raw.length) % 100 := ⟨_, rfl⟩
         have e1 : ((i : Int) - (raw.length : Int)).tmod 100 = (r : Int) := by rw [hrr, Int.tmod_eq_emod_of_nonneg (by omega)]; omega
         have r1 : (r : Int) < 100 := by omega
         have HM := hid (show mrk (i - raw.length) = 101 + (r : Int) by unfold mrk; rw [hrr])
         have cv : (IntKind.u8).wrap (101 + (r : Int)) = 101 + (r : Int) := by rw [IntKind.wrap_u8]; omega
         generalize (mixF (lentF raw L) old i).getD i 0 = y at *
         clear hr hK hml hrr kR fR
         go_wp2
         go_roundw
         case rel => exact ⟨i + 1, by omega, by go_num, by rw [← HMX.out, HHI.out, HM.out]; exact HST.out _, HK.out.setAt i _⟩
         case measure => simp [intOf]; omega
     · obtain rfl : i = L := by omega
       have HE := hid (show mixF (lentF raw i) old i = lentF raw i by have := mixF_all (lentF raw i) old (HT.out.trans HOL.out.symm); rw [HOL.out] at this; exact this)
       rw [HE.out] at hr
       have HRR := hid hr
       have HK := hid hK
       clear hlt1 hr hK hml
       have SL1 := SL w1 R i rc raw.length (by omega)
       go_wp2
       go_ret
       exact HFIN.out w1 HRR.out HK.out
 · have hsm : rm.length < raw.length + 100 := by omega
   obtain ⟨L, hL⟩ : ∃ L, L = 2 * raw.length + 300 := ⟨_, rfl⟩
   have c2 := hW.c2
   have f2 := hW.fz 2
   obtain ⟨i5, hi5, hz5, hs5', hy5⟩ := Tryz.info5
   have HI := hid hi5
   have K1 := hid (show i5.bytes * L ≤ 281474976710656 by rw [hy5]; omega)
   have K2 := hid (show L ≤ maxLen by unfold maxLen; omega)
   have j0 : (rm.length : Int) < (raw.length : Int) + 100 := by omega
   have jr : (rm.length : Int) ≤ 10000000 := by omega
   have HLE := hid (show 2 * (raw.length : Int) + 300 = (L : Int) by rw [hL]; push_cast; rfl)
   have HW := hid hW
   have HPLW := hid hpl
   have HSRW := hid (And.intro hs3 (And.intro hs4 hs5))
   have HNE := hid hne
   have HBW := hid hbw
   have iL1 := hid (show raw.length + 100 ≤ L ∧ L ≤ 10000000 by omega)
   clear hi5 hO hRh hne hW hs3 hs4 hs5 hL hbw
   go_enter Tryz.func63, Tryz.ntmps63
   go_wp2_with (first
     | (refine wpList_make_full _ rfl _ _ 22 rfl w.heap.size 5 i5 (.int .u8 0) 1 Tryz.underlying22 HI.out hz5 hs5' .i64 .i64 _ _ L rfl rfl (by exact HLE.out) (by exact HLE.out) K1.out K2.out (Nat.le_refl _) ?_; intro wm hOm hgm; have HBm := hid (grown_keeps hgm (fun k hk => by cases hk) (Nat.le_refl w.heap.size)); have HOm := hid (own_made hOm); have HWm := hid (HW.out.below' HBm.out); have c2m := HWm.out.c2; have f2m := HWm.out.fz 2; clear hgm hOm))
   obtain ⟨R', rc', rest', hv', hb', hh', hc', hm', hs'⟩ := own_in' HOm.out (by rw [List.length_replicate]; have := iL1.out; omega)
   rw [List.length_replicate] at hv' hc' hs'
   simp only [Value.slice.injEq, Option.some.injEq, Addr.mk.injEq, and_true, true_and] at hv'
   obtain ⟨rfl, rfl⟩ := hv'
   obtain ⟨R2, hR2⟩ : ∃ R2, R2 = w.heap.size := ⟨_, rfl⟩
   obtain ⟨old, hold0⟩ : ∃ old : List Int, old = List.replicate L 0 := ⟨_, rfl⟩
   obtain ⟨w0, hw0⟩ : ∃ w0, w0 = wm.setCell ⟨pw, 2, none⟩ (.slice (some ⟨w.heap.size, 0, none⟩) L L) := ⟨_, rfl⟩
   rw [← hw0]
   have hpl := HPLW.out
   have hW0 : WK w0 pw Dv Fv (.slice (some ⟨R2, 0, none⟩) L L) := by rw [hw0, hR2]; exact HWm.out.set _
   have hRh0 : w0.heap[R2]? = some (.cells (ints .u8 old ++ rest').toArray 5 (0, 0)) := by rw [hw0, heap_setCell_other _ _ _ _ (show R2 ≠ pw by omega), hold0, hR2]; exact hh'
   have hsz0 : w.heap.size ≤ w0.heap.size := by rw [hw0, World.size_setCell]; exact HBm.out.size
   have hk0 : ∀ k, k < w.heap.size → k ≠ pw → w0.heap[k]? = w.heap[k]? := fun k hk h1 => by rw [hw0, heap_setCell_other _ _ _ _ (show k ≠ pw from h1), HBm.out.block k hk]
   have hos0 : w0.os = w.os ∧ w0.tape = w.tape ∧ w0.output = w.output := by rw [hw0]; exact ⟨HBm.out.os, HBm.out.tape, HBm.out.output⟩
   have HPL := hid (show pw < w0.heap.size ∧ pw ≠ R2 from ⟨by omega, by omega⟩)
   have HW0 := hid hW0
   have HT := hid (lentF_len raw L (by have := iL1.out; omega))
   have HOL := hid (show old.length = L by rw [hold0, List.length_replicate])
   have HR0 := hid (show w0.heap[R2]? = some (.cells (ints .u8 (mixF (lentF raw L) old 0) ++ rest').toArray 5 (0, 0)) from hRh0)
   have HSR := hid (fun (h0 : 0 < raw.length) => (show ∃ b oo, sp = some ⟨b, oo, none⟩ ∧ b < w0.heap.size ∧ b ≠ R2 ∧ ∀ j, j < raw.length → w0.cell? ⟨b, oo + j, none⟩ = some (.int .u8 (raw.getD j 0)) from ⟨b, oo, HSRW.out.2.1 h0, by have := HSRW.out.1 h0; omega, by have := HSRW.out.1 h0; omega, fun j hj => by
     have hc := HSRW.out.2.2 j hj
     have hbp : b ≠ pw := (HNE.out _ h0 (HSRW.out.2.1 h0)).2
     rw [← hc]; unfold World.cell?; rw [show w0.heap[(⟨b, oo + j, none⟩ : Addr).block]? = w.heap[(⟨b, oo + j, none⟩ : Addr).block]? from hk0 b (HSRW.out.1 h0) hbp]⟩))
   have HFIN := hid (fun (w1 : World) (hR1 : w1.heap[R2]? = some (.cells (ints .u8 (lentF raw L) ++ rest').toArray 5 (0, 0))) (hK1 : Kps R2 w0 w1) => (show Lent base pw Dv Fv (.slice (some ⟨R, 0, none⟩) rm.length rc) raw w (.returned (.slice (some ⟨R2, 0, none⟩) raw.length L)) w1 from by
     have hl := lentF_len raw L (by have := iL1.out; omega)
     refine ⟨⟨R2, L, L, rfl, (hK1.block pw HPL.out.1 HPL.out.2).trans HW0.out, ?_, iL1.out.1, iL1.out.2, Or.inr (by omega)⟩, hK1.os.trans hos0.1, hK1.tape.trans hos0.2.1, hK1.output.trans hos0.2.2, Nat.le_trans hsz0 hK1.size, fun k hk h1 h2 => (hK1.block k (by omega) (by omega)).trans (hk0 k hk h1)⟩
     have := Own.row' (base := base) (cap := L) hR1 (by have := HBW.out; omega) (by omega) K2.out (by rw [hl]; exact hs')
     rw [hl] at this; exact this))
   have c2 := hW0.c2
   rw [← hR2]
   have i1 : (raw.length : Int) + 100 ≤ (L : Int) := by have := iL1.out; omega
   have i2 : (L : Int) ≤ 10000000 := by have := iL1.out; omega
   have i3 : (L : Int) ≤ (L : Int) := Int.le_refl _
   clear hW0 hRh0 hsz0 hk0 hos0 hw0 hold0 hh' hb' hm' hs' hc' hR2 HBm HOm HWm c2m f2m hpl HW
   go_loopw [6] (fun iv w1 => ∃ i : Nat, i ≤ L ∧ iv = .int .i64 i ∧ w1.heap[R2]? = some (.cells (ints .u8 (mixF (lentF raw L) old i) ++ rest').toArray 5 (0, 0)) ∧ Kps R2 w0 w1) (fun iv _ => L - (intOf iv).toNat)
   case atStart => exact ⟨0, by omega, rfl, HR0.out, Kps.refl _ _⟩
   case round =>
     clear HR0
     obtain ⟨w1, hw1⟩ : ∃ w1, w1 = wr := ⟨_, rfl⟩
     subst hw1
     obtain ⟨i, hi, rfl, hr, hK⟩ := hrel
     have hml := mixF_len (lentF raw L) old i (HT.out.trans HOL.out.symm) (by rw [HOL.out]; exact hi)
     rw [HOL.out] at hml
     have c2 : w1.cell? ⟨pw, 2, none⟩ = some (.slice (some ⟨R2, 0, none⟩) L L) := hK.cellK ⟨pw, 2, none⟩ HPL.out HW0.out.c2
     by_cases hlt1 : i < L
     · have j1 : (i : Int) < (L : Int) := by omega
       have kR := hid (show w1.drew.cell? ⟨R2, i, none⟩ = _ from cell_rows hr i (by rw [hml]; exact hlt1))
       have fR := hid (show w1.drew.frozen? ⟨R2, i, none⟩ = false from frozen_of_row _ _ i _ _ hr)
       have kR1 := cell_rows hr i (by rw [hml]; exact hlt1)
       have fR1 := frozen_of_row _ _ i _ _ hr
       have HST := hid (fun x : Int => set_rows hr i (by rw [hml]; exact hlt1) x)
       have HMX := hid (mixF_set (lentF raw L) old i (HT.out.trans HOL.out.symm) (by rw [HOL.out]; exact hlt1))
       have HK := hid hK
       have HPW := hid (show pw < w1.heap.size ∧ pw ≠ R2 from ⟨Nat.lt_of_lt_of_le HPL.out.1 hK.size, HPL.out.2⟩)
       have k2 := hid c2
       by_cases hn2 : i < raw.length
       · have j2 : (i : Int) < (raw.length : Int) := by omega
         obtain ⟨b, oo, hsp, hbs, hb, hcell⟩ := HSR.out (by omega)
         subst hsp
         have HBR := hid (show b < w1.heap.size ∧ b ≠ R2 from ⟨Nat.lt_of_lt_of_le hbs hK.size, hb⟩)
         have k3 := hid (hK.cellK ⟨b, oo + i, none⟩ ⟨hbs, hb⟩ (hcell i hn2))
         have HLO := hid (lentF_lo raw L i hn2)
         clear hcell
         generalize raw.getD i 0 = x at *
         generalize (mixF (lentF raw L) old i).getD i 0 = y at *
         clear hr hK hml kR1 fR1
         go_wp2
         refine rgA (fun w' => Kps R2 w1 w') (kps_of (Below.refl _ _).drew) (fun hq0 => ?_)
         refine tkA 0 (.pointer (some ⟨pw, 0, none⟩)) rfl hq0 ?_
         go_frame
         refine tkA 4 (.int .i64 i) rfl hq0 ?_
         go_frame
         refine tkA 5 (.slice (some ⟨b, oo, none⟩) raw.length cap) rfl hq0 ?_
         go_frame
         refine tkA 6 (.int .i64 i) rfl hq0 ?_
         go_frame
         refine tkA 1 (.pointer (some ⟨pw, 0, none⟩)) rfl hq0 ?_
         go_frame
         refine tkA 7 (.pointer (some ⟨b, oo + i, none⟩)) rfl hq0 ?_
         go_frame
         refine tkA 2 (.pointer (some ⟨pw, 2, none⟩)) rfl hq0 ?_
         go_frame
         refine tqA 8 (.int .u8 x) rfl (yA (by intro w hS; have hc := Kps.cellK hS (⟨b, oo + i, none⟩ : Addr) HBR.out k3.out; go_simp)) hq0 ?_
         go_frame
         refine tqA 3 (.slice (some ⟨R2, 0, none⟩) L L) rfl (yA (by intro w hS; have hc := Kps.cellK hS (⟨pw, 2, none⟩ : Addr) HPW.out k2.out; go_simp)) hq0 ?_
         go_frame
         refine tkA 9 (.pointer (some ⟨R2, 0 + i, none⟩)) rfl hq0 ?_
         go_frame
         refine rdA 10 rfl (fun K hK => ?_)
         have c2 := kR.out
         have fz := fR.out
         go_simp
         refine hK.out _ _ (((Kps.refl R2 w1).setAt i (.int .u8 x)).trans (kps_of (Below.refl _ _).drew)) ?_
         clear hK K hq0
         intro hq0
         try go_frame
         refine wdA ?_
         go_wp2
         go_roundw
         case rel => exact ⟨i + 1, by omega, by go_num, by rw [← HMX.out, HLO.out]; exact HST.out _, HK.out.trans hq0⟩
         case measure => simp [intOf]; omega
       · have j2 : ¬ (i : Int) < (raw.length : Int) := by omega
         have HHI := hid (lentF_hi raw L i (by omega) hlt1)
         obtain ⟨r, hrr⟩ : ∃ r, r = (i - raw.length) % 100 := ⟨_, rfl⟩
         have e1 : ((i : Int) - (raw.length : Int)).tmod 100 = (r : Int) := by rw [hrr, Int.tmod_eq_emod_of_nonneg (by omega)]; omega
         have r1 : (r : Int) < 100 := by omega
         have HM := hid (show mrk (i - raw.length) = 101 + (r : Int) by unfold mrk; rw [hrr])
         have cv : (IntKind.u8).wrap (101 + (r : Int)) = 101 + (r : Int) := by rw [IntKind.wrap_u8]; omega
         generalize (mixF (lentF raw L) old i).getD i 0 = y at *
         clear hr hK hml hrr kR fR
         go_wp2
         go_roundw
         case rel => exact ⟨i + 1, by omega, by go_num, by rw [← HMX.out, HHI.out, HM.out]; exact HST.out _, HK.out.setAt i _⟩
         case measure => simp [intOf]; omega
     · obtain rfl : i = L := by omega
       have HE := hid (show mixF (lentF raw i) old i = lentF raw i by have := mixF_all (lentF raw i) old (HT.out.trans HOL.out.symm); rw [HOL.out] at this; exact this)
       rw [HE.out] at hr
       have HRR := hid hr
       have HK := hid hK
       clear hlt1 hr hK hml
       have SL1 := SL w1 R2 i i raw.length (by omega)
       go_wp2
       go_ret
       exact HFIN.out w1 HRR.out HK.out
theorem kept_any (w : World) (pw : Nat) (Dv Fv : Value) (R L rc : Nat) (raw : List Int) (base : Nat) (hW : WK w pw Dv Fv (.slice (some ⟨R, 0, none⟩) L rc)) (hO : Own w base (.slice (some ⟨R, 0, none⟩) L rc) (lentF raw L)) (hn : raw.length + 100 ≤ L) (hL2 : L ≤ 10000000) (sp : Option Addr) (cap : Nat) (hS : Src w sp cap raw) :
   Calls Tryz.prog 64 #[.pointer (some ⟨pw, 0, none⟩), .slice sp raw.length cap] w fun e w' => e = .returned (.bool true) ∧ Below w.heap.size w w' := by
 have hT := lentF_len raw L (by omega)
 obtain ⟨R', rc', rest, hRv, hRb, hRh, hc1, hc2, hc3⟩ := own_in' hO (by omega)
 simp only [Value.slice.injEq, Option.some.injEq, Addr.mk.injEq, and_true] at hRv
 obtain ⟨rfl, -, rfl⟩ := hRv
 have hpl : pw < w.heap.size := hlt_ hW
 have hrl : R < w.heap.size := hlt_ hRh
 have c2 := hid hW.c2
 obtain ⟨hs1, hs2, b, oo, hs3, hs4, hs5⟩ := hS
 have HCR := hid (fun (i : Nat) (hi : i < L) => cell_rows hRh i (by rw [hT]; exact hi))
 have HS3 := hid hs3
 have HS4 := hid hs4
 have HS5 := hid hs5
 have i1 : (raw.length : Int) + 100 ≤ (L : Int) := by omega
 have i2 : (L : Int) ≤ 10000000 := by omega
 have i4 : (raw.length : Int) ≤ (cap : Int) := by omega
 have inn : (raw.length : Int) ≤ 10000000 := by omega
 have HNL := hid (And.intro hn hL2)
 clear hW hO hRh hs3 hs4 hs5 hT hc1 hc2 hc3 hs1 hs2 hn hL2 hRb
 go_enter Tryz.func64, Tryz.ntmps64
 go_wp2
 go_loopw [6] (fun iv w1 => ∃ i : Nat, i ≤ L ∧ iv = .int .i64 i ∧ Below w.heap.size w w1) (fun iv _ => L - (intOf iv).toNat)
 case atStart => exact ⟨0, by omega, rfl, Below.refl _ _⟩
 case round =>
   obtain ⟨w1, hw1⟩ : ∃ w1, w1 = wr := ⟨_, rfl⟩
   subst hw1
   obtain ⟨i, hi, rfl, hB⟩ := hrel
   have HB := hid hB
   have c21 : w1.cell? ⟨pw, 2, none⟩ = some (.slice (some ⟨R, 0, none⟩) L rc) := (hB.cell (p := ⟨pw, 2, none⟩) hpl).trans c2.out
   by_cases hlt1 : i < L
   · have j1 : (i : Int) < (L : Int) := by omega
     have k2 := hid c21
     have HPW := hid (show pw < w1.heap.size from Nat.lt_of_lt_of_le hpl hB.size)
     have HRL := hid (show R < w1.heap.size from Nat.lt_of_lt_of_le hrl hB.size)
     have kR0 : w1.cell? ⟨R, i, none⟩ = some (.int .u8 ((lentF raw L).getD i 0)) := (hB.cell (p := ⟨R, i, none⟩) hrl).trans (HCR.out i hlt1)
     by_cases hn2 : i < raw.length
     · have j2 : (i : Int) < (raw.length : Int) := by omega
       have j3 : ¬ (raw.length : Int) ≤ (i : Int) := by omega
       have hsp := HS4.out (by omega)
       have hbl := HS3.out (by omega)
       subst hsp
       have HBL := hid (show b < w1.heap.size from Nat.lt_of_lt_of_le hbl hB.size)
       rw [lentF_lo raw L i hn2] at kR0
       have k30 := (hB.cell (p := ⟨b, oo + i, none⟩) hbl).trans (HS5.out i hn2)
       generalize raw.getD i 0 = x at kR0 k30
       have kR := hid kR0
       have k3 := hid k30
       clear kR0 k30 hB hbl
       go_wp2
       refine rgA (fun w' => Below w1.heap.size w1 w') (Below.refl _ _).drew (fun hq0 => ?_)
       refine tkA 0 (.int .i64 i) rfl hq0 ?_
       go_frame
       refine tkA 1 (.int .i64 raw.length) rfl hq0 ?_
       go_frame
       refine tkA 2 (.bool true) rfl hq0 ?_
       go_frame
       refine tkA 3 (.bool true) rfl hq0 ?_
       go_frame
       refine tkA 4 (.pointer (some ⟨pw, 0, none⟩)) rfl hq0 ?_
       go_frame
       refine tkA 8 (.int .i64 i) rfl hq0 ?_
       go_frame
       refine tkA 11 (.slice (some ⟨b, oo, none⟩) raw.length cap) rfl hq0 ?_
       go_frame
       refine tkA 12 (.int .i64 i) rfl hq0 ?_
       go_frame
       refine tkA 5 (.pointer (some ⟨pw, 0, none⟩)) rfl hq0 ?_
       go_frame
       refine tkA 13 (.pointer (some ⟨b, oo + i, none⟩)) rfl hq0 ?_
       go_frame
       refine tkA 6 (.pointer (some ⟨pw, 2, none⟩)) rfl hq0 ?_
       go_frame
       refine tqA 14 (.int .u8 x) rfl (yA (by intro w hS; have hc := (hS.cell (p := ⟨b, oo + i, none⟩) HBL.out).trans k3.out; go_simp)) hq0 ?_
       go_frame
       refine tqA 7 (.slice (some ⟨R, 0, none⟩) L rc) rfl (yA (by intro w hS; have hc := (hS.cell (p := ⟨pw, 2, none⟩) HPW.out).trans k2.out; go_simp)) hq0 ?_
       go_frame
       refine tkA 9 (.pointer (some ⟨R, 0 + i, none⟩)) rfl hq0 ?_
       go_frame
       refine tqA 10 (.int .u8 x) rfl (yA (by intro w hS; have hc := (hS.cell (p := ⟨R, i, none⟩) HRL.out).trans kR.out; go_simp)) hq0 ?_
       go_frame
       refine tkA 15 (.bool false) rfl hq0 ?_
       go_frame
       refine tkA 16 (.bool false) rfl hq0 ?_
       go_frame
       refine tkA 17 (.bool false) rfl hq0 ?_
       go_frame
       refine tkA 18 (.int .i64 i) rfl hq0 ?_
       go_frame
       refine tkA 19 (.int .i64 raw.length) rfl hq0 ?_
       go_frame
       refine tkA 20 (.bool false) rfl hq0 ?_
       go_frame
       refine tkA 21 (.bool false) rfl hq0 ?_
       go_frame
       refine tqA 22 (undef) rfl (Or.inr ⟨by rfl, rfl⟩) hq0 ?_
       go_frame
       refine tqA 26 (undef) rfl (Or.inr ⟨by rfl, rfl⟩) hq0 ?_
       go_frame
       refine tqA 29 (undef) rfl (Or.inr ⟨by rfl, rfl⟩) hq0 ?_
       go_frame
       refine tqA 30 (undef) rfl (Or.inr ⟨by rfl, rfl⟩) hq0 ?_
       go_frame
       refine tqA 23 (undef) rfl (Or.inr ⟨by rfl, rfl⟩) hq0 ?_
       go_frame
       refine tqA 31 (undef) rfl (Or.inr ⟨by rfl, rfl⟩) hq0 ?_
       go_frame
       refine tqA 24 (undef) rfl (Or.inr ⟨by rfl, rfl⟩) hq0 ?_
       go_frame
       refine tqA 32 (undef) rfl (Or.inr ⟨by rfl, rfl⟩) hq0 ?_
       go_frame
       refine tqA 25 (undef) rfl (Or.inr ⟨by rfl, rfl⟩) hq0 ?_
       go_frame
       refine tqA 33 (undef) rfl (Or.inr ⟨by rfl, rfl⟩) hq0 ?_
       go_frame
       refine tqA 27 (undef) rfl (Or.inr ⟨by rfl, rfl⟩) hq0 ?_
       go_frame
       refine tqA 34 (undef) rfl (Or.inr ⟨by rfl, rfl⟩) hq0 ?_
       go_frame
       refine tqA 28 (undef) rfl (Or.inr ⟨by rfl, rfl⟩) hq0 ?_
       go_frame
       refine tqA 35 (undef) rfl (Or.inr ⟨by rfl, rfl⟩) hq0 ?_
       go_frame
       refine tkA 36 (.bool false) rfl hq0 ?_
       go_frame
       refine tkA 37 (.bool false) rfl hq0 ?_
       go_frame
       refine wdA ?_
       go_wp2
       go_roundw
       case rel => exact ⟨i + 1, by omega, by go_num, HB.out.trans (hq0.mono HB.out.size)⟩
       case measure => simp [intOf]; omega
     · have j2 : ¬ (i : Int) < (raw.length : Int) := by omega
       have j3 : (raw.length : Int) ≤ (i : Int) := by omega
       rw [lentF_hi raw L i (by omega) hlt1] at kR0
       obtain ⟨r, hrr⟩ : ∃ r, r = (i - raw.length) % 100 := ⟨_, rfl⟩
       have HSUB := hid (show (i : Int) - (raw.length : Int) = ((i - raw.length : Nat) : Int) by omega)
       have HREM := hid (show (((i - raw.length : Nat) : Int)).tmod 100 = (r : Int) by rw [hrr, Int.tmod_eq_emod_of_nonneg (by omega)]; omega)
       have r1 : (r : Int) < 100 := by omega
       have HCV := hid (show (IntKind.u8).wrap (101 + (r : Int)) = 101 + (r : Int) by rw [IntKind.wrap_u8]; omega)
       obtain ⟨x, hx⟩ : ∃ x, x = mrk (i - raw.length) := ⟨_, rfl⟩
       have HXE := hid (show x = 101 + (r : Int) by rw [hx, hrr]; rfl)
       rw [← hx] at kR0
       have kR := hid kR0
       clear kR0 hB hrr hx
       go_wp2
       refine rgA (fun w' => Below w1.heap.size w1 w') (Below.refl _ _).drew (fun hq0 => ?_)
       refine tkA 0 (.int .i64 i) rfl hq0 ?_
       go_frame
       refine tkA 1 (.int .i64 raw.length) rfl hq0 ?_
       go_frame
       refine tkA 2 (.bool false) rfl hq0 ?_
       go_frame
       refine tkA 3 (.bool false) rfl hq0 ?_
       go_frame
       refine tqA 4 (undef) rfl (Or.inr ⟨by rfl, rfl⟩) hq0 ?_
       go_frame
       refine tqA 8 (undef) rfl (Or.inr ⟨by rfl, rfl⟩) hq0 ?_
       go_frame
       refine tqA 11 (undef) rfl (Or.inr ⟨by rfl, rfl⟩) hq0 ?_
       go_frame
       refine tqA 12 (undef) rfl (Or.inr ⟨by rfl, rfl⟩) hq0 ?_
       go_frame
       refine tqA 5 (undef) rfl (Or.inr ⟨by rfl, rfl⟩) hq0 ?_
       go_frame
       refine tqA 13 (undef) rfl (Or.inr ⟨by rfl, rfl⟩) hq0 ?_
       go_frame
       refine tqA 6 (undef) rfl (Or.inr ⟨by rfl, rfl⟩) hq0 ?_
       go_frame
       refine tqA 14 (undef) rfl (Or.inr ⟨by rfl, rfl⟩) hq0 ?_
       go_frame
       refine tqA 7 (undef) rfl (Or.inr ⟨by rfl, rfl⟩) hq0 ?_
       go_frame
       refine tqA 9 (undef) rfl (Or.inr ⟨by rfl, rfl⟩) hq0 ?_
       go_frame
       refine tqA 10 (undef) rfl (Or.inr ⟨by rfl, rfl⟩) hq0 ?_
       go_frame
       refine tqA 15 (undef) rfl (Or.inr ⟨by rfl, rfl⟩) hq0 ?_
       go_frame
       refine tkA 16 (.bool false) rfl hq0 ?_
       go_frame
       refine tkA 17 (.bool false) rfl hq0 ?_
       go_frame
       refine tkA 18 (.int .i64 i) rfl hq0 ?_
       go_frame
       refine tkA 19 (.int .i64 raw.length) rfl hq0 ?_
       go_frame
       refine tkA 20 (.bool true) rfl hq0 ?_
       go_frame
       refine tkA 21 (.bool true) rfl hq0 ?_
       go_frame
       refine tkA 22 (.pointer (some ⟨pw, 0, none⟩)) rfl hq0 ?_
       go_frame
       refine tkA 26 (.int .i64 i) rfl hq0 ?_
       go_frame
       refine tkA 29 (.int .i64 i) rfl hq0 ?_
       go_frame
       refine tkA 30 (.int .i64 raw.length) rfl hq0 ?_
       go_frame
       refine tkA 23 (.pointer (some ⟨pw, 0, none⟩)) rfl hq0 ?_
       go_frame
       refine tqA 31 (.int .i64 (i - raw.length : Nat)) rfl (yA (by intro w hS; (have hsub := HSUB.out; go_simp; all_goals exact wrap_i64_id _ (by omega) (by omega)))) hq0 ?_
       go_frame
       refine tkA 24 (.pointer (some ⟨pw, 2, none⟩)) rfl hq0 ?_
       go_frame
       refine tqA 32 (.int .i64 (r : Nat)) rfl (yA (by intro w hS; (have hrm := HREM.out; go_simp; all_goals first | exact hrm | rfl))) hq0 ?_
       go_frame
       refine tqA 25 (.slice (some ⟨R, 0, none⟩) L rc) rfl (yA (by intro w hS; have hc := (hS.cell (p := ⟨pw, 2, none⟩) HPW.out).trans k2.out; go_simp)) hq0 ?_
       go_frame
       refine tqA 33 (.int .i64 (101 + (r : Int))) rfl (yA (by intro w hS; (go_simp; all_goals exact wrap_i64_id _ (by omega) (by omega)))) hq0 ?_
       go_frame
       refine tkA 27 (.pointer (some ⟨R, 0 + i, none⟩)) rfl hq0 ?_
       go_frame
       refine tqA 34 (.int .u8 (101 + (r : Int))) rfl (yA (by intro w hS; (have hcv := HCV.out; go_simp))) hq0 ?_
       go_frame
       refine tqA 28 (.int .u8 x) rfl (yA (by intro w hS; have hc := (hS.cell (p := ⟨R, i, none⟩) HRL.out).trans kR.out; go_simp)) hq0 ?_
       go_frame
       refine tqA 35 (.bool false) rfl (yA (by intro w hS; (have hxe := HXE.out; go_simp))) hq0 ?_
       go_frame
       refine tkA 36 (.bool false) rfl hq0 ?_
       go_frame
       refine tkA 37 (.bool false) rfl hq0 ?_
       go_frame
       refine wdA ?_
       go_wp2
       go_roundw
       case rel => exact ⟨i + 1, by omega, by go_num, HB.out.trans (hq0.mono HB.out.size)⟩
       case measure => simp [intOf]; omega
   · obtain rfl : i = L := by omega
     clear hlt1 hB
     go_wp2
     go_ret
     exact ⟨rfl, HB.out⟩
end
end Go.Proofs.YtjhocjjecfdphaaGreatDoor
