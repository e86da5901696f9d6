import Derived.Test.YtjhocjjecfdphaaGreatDoorQ49
namespace Go.Proofs.YtjhocjjecfdphaaGreatDoor
set_option linter.unusedVariables false
set_option linter.unusedSimpArgs false
set_option maxRecDepth 100000
set_option maxHeartbeats 4000000
section
open Go.RowKit
attribute [local go_sem ↓] Go.wp_at_zero Go.wp_at_succ
theorem wpList_new {P : Program} {t : TypeId} {Z : List Value} {m : Nat} (hz : ∀ (a : Act) (o : Oper) (w : World), o.op = .alloc t → (execOp a.eval o).run P w = .ok (.value (.pointer (some ⟨w.heap.size, 0, none⟩))) (w.alloc (.cells Z.toArray t))) (hZ : Z.length = m) (hi : (P.info? t).map (·.size) = some m)
   {ops : Array Oper} {rest : List Oper} {o1 o2 : Oper} {a : Act} {w : World} {Q : Exit → Act → World → Prop} (hg1 : o1.guard = none) (ho1 : o1.op = .alloc t) (hg2 : o2.guard = none) (x y : Operand) (ho2 : o2.op = .store t x y) (hd : o2.dst = none)
   (C : List Value) (hx : (a.put o1.dst (.pointer (some ⟨w.heap.size, 0, none⟩))).eval x = .pointer (some ⟨w.heap.size, 0, none⟩)) (hy : (a.put o1.dst (.pointer (some ⟨w.heap.size, 0, none⟩))).eval y = .agg C.toArray) (hC : C.length = m) (h1 : ∀ v ∈ C, v.oneCell' = true)
   (h : wpList P ops Q rest (a.put o1.dst (.pointer (some ⟨w.heap.size, 0, none⟩))) (w.alloc (.cells C.toArray t))) : wpList P ops Q (o1 :: o2 :: rest) a w := by
 refine wpList_plain hg1 fun K hK => ?_
 unfold Oper.wp
 rw [hz a o1 w ho1]
 refine hK _ _ ?_
 refine wpList_store_row hg2 t x y ho2 w.heap.size C.toArray hx hy t Z.toArray (hnew w _) (by rw [hi, List.size_toArray, hC]) (by rw [List.size_toArray, List.size_toArray, hZ, hC]) (all_oneCell_toArray h1) ?_
 rw [hd, setRow_alloc]
 exact h
def zO : List Value := [.int .i64 0, .int .i64 0, .int .i64 0, .bool false, .int .i64 0, .int .i64 0, .slice none 0 0, .int .u32 0]
theorem allocOp (a : Act) (o : Oper) (w : World) (ho : o.op = .alloc 37) : (execOp a.eval o).run Tryz.prog w = .ok (.value (.pointer (some ⟨w.heap.size, 0, none⟩))) (w.alloc (.cells zO.toArray 37)) := by
 unfold execOp
 rw [ho]
 kernel_rfl
def zA : List Value := zzA.toList
theorem allocAns' (a : Act) (o : Oper) (w : World) (ho : o.op = .alloc 43) : (execOp a.eval o).run Tryz.prog w = .ok (.value (.pointer (some ⟨w.heap.size, 0, none⟩))) (w.alloc (.cells zA.toArray 43)) := allocAns a o w ho
structure OL where
 o : OP
 sp : Option Addr
 cap : Nat
def OL.L (x : OL) : List Value := (x.o.C (.slice x.sp x.o.raw.length x.cap)).toList
theorem OL.len (x : OL) : x.L.length = 8 := rfl
theorem OL.one (x : OL) : ∀ v ∈ x.L, v.oneCell' = true := by
 intro v hv
 simp only [OL.L, OP.C, List.mem_cons, List.not_mem_nil, or_false] at hv
 rcases hv with rfl | rfl | rfl | rfl | rfl | rfl | rfl | rfl <;> rfl
theorem AN.one (a : AN) (s : Option Addr) (n c : Nat) : ∀ v ∈ (a.C (.slice s n c)).toList, v.oneCell' = true := by
 intro v hv
 simp only [AN.C, ansC, List.mem_cons, List.not_mem_nil, or_false] at hv
 rcases hv with rfl | rfl | rfl | rfl | rfl | rfl | rfl | rfl | rfl | rfl | rfl | rfl <;> rfl
def OpsIn (w : World) (s3 : Option Addr) (os : List OL) : Prop := ∃ bk of, (0 < os.length → s3 = some ⟨bk, of, none⟩ ∧ bk < w.heap.size) ∧ ∀ i x, os[i]? = some x → w.rangeAt bk (of + i * 8) x.L ∧ OpOk w x.o x.sp x.cap ∧ (∀ a, 0 < x.o.raw.length → x.sp = some a → a.block < w.heap.size)
theorem Bnd.mono {m m' : Nat} {A : AW} (h : Bnd m A) (hm : m ≤ m') : Bnd m' A := fun i D hD => by
 obtain ⟨a, b, c, d, e⟩ := h i D hD
 exact ⟨by omega, by omega, by omega, by omega, by omega⟩
theorem rng_fr {w w' : World} {k o : Nat} {xs : List Value} (h : w'.heap[k]? = w.heap[k]?) (hr : w.rangeAt k o xs) : w'.rangeAt k o xs := fun j v hv => (cell_fr h).trans (hr j v hv)
theorem sc_ov {w : World} {q : Nat} {s : SC} (h : w.heap[q]? = some (.cells s.C.toArray 27 (0, 0))) : w.cell? ⟨q, 4, none⟩ = some s.ov := by rw [cell_of_row _ _ _ _ _ _ h]; rfl
theorem size_script : (Tryz.prog.info? 27).map (·.size) = some 5 := by kernel_rfl
theorem Inv.not_op {base m : Nat} {w : World} {P : PL} {A B : AW} {rm : List Int} (h : Inv base m w P A B rm) {q : Nat} {cs : Array Value} {fr : Nat × Nat} (r : w.heap[q]? = some (.cells cs 37 fr)) : ∀ c, q ∉ (comp base m P A B rm c).fp := by
 have row : ∀ {t n : Nat} {v : Value} {xs : List Value} {e : Nat}, w.ownsRow base e t v n xs → e ≠ 37 → q ∉ v.ownBlock.toList := fun hr he hq => by
   obtain ⟨_, cur, hh⟩ := ownsRow_block hr q (by simpa using hq)
   exact ne_ty hh r he rfl
 have one : ∀ {k t : Nat} {xs : Array Value}, w.heap[k]? = some (.cells xs t (0, 0)) → t ≠ 37 → q ∉ [k] := fun {k t xs} hk he hq => by
   have e : q = k := by simpa using hq
   subst e; exact ne_ty hk r he rfl
 have dsk : ∀ i, i < 2 → q ∉ (cmD base (P.Fd i) (P.pd i) (A.d i)).fp := fun i hi hq => by
   cases hD : A.d i with
   | none => rw [hD] at hq; cases hq
   | some D => rw [hD] at hq; exact (h.atD i hi hD).not_in r (by decide) (by decide) (by decide) hq
 have rdk : ∀ i, i < 2 → q ∉ (cmR base (P.Fr i) (P.px i) m (B.d i)).fp := fun i hi hq => by
   cases hD : B.d i with
   | none => rw [hD] at hq; cases hq
   | some D => rw [hD] at hq; exact (h.atR i hi hD).not_in r (by decide) (by decide) (by decide) hq
 have fil : ∀ j, j < 3 → q ∉ (cmF (P.gf j) P.pd (A.f j)).fp := fun j hj hq => by
   cases hx : A.f j with
   | none => rw [hx] at hq; cases hq
   | some x => rw [hx] at hq; exact one (h.atF j hj hx) (by decide) hq
 have xfl : ∀ j, j < 3 → q ∉ (cmG (P.gx j) P.px (B.f j)).fp := fun j hj hq => by
   cases hx : B.f j with
   | none => rw [hx] at hq; cases hq
   | some x => rw [hx] at hq; exact one (h.atG j hj hx) (by decide) hq
 intro c
 rcases c with _ | _ | _ | _ | _ | _ | _ | _ | _ | _ | _ | _ | _ | _ | _ | _ | _ | k
 · exact one (h.sep.here 0) (by decide)
 · exact row (h.sep.here 1) (by decide)
 · exact row (h.sep.here 2) (by decide)
 · exact row (h.sep.here 3) (by decide)
 · exact one (h.sep.here 4) (by decide)
 · exact row (h.sep.here 5) (by decide)
 · exact row (h.sep.here 6) (by decide)
 · exact dsk 0 (by omega)
 · exact dsk 1 (by omega)
 · exact rdk 0 (by omega)
 · exact rdk 1 (by omega)
 · exact fil 0 (by omega)
 · exact fil 1 (by omega)
 · exact fil 2 (by omega)
 · exact xfl 0 (by omega)
 · exact xfl 1 (by omega)
 · exact xfl 2 (by omega)
 · exact fun hq => by cases hq
theorem pgm_fp {base m m' : Nat} {P : PL} {A B B' : AW} {rm : List Int} {Fr' gx'} {c : Nat} (hc : pgm c) : (comp base m' { P with Fr := Fr', gx := gx' } A B' rm c).fp = (comp base m P A B rm c).fp := by
 rcases hc with rfl | rfl | rfl | rfl | rfl | rfl | rfl | rfl | rfl <;> rfl
theorem upTo_any (W : World) (hG : Gl W) (s : SC) (hs : ScOk W s) (os : List OL) (s3 : Option Addr) (c3 : Nat) (hov : s.ov = .slice s3 os.length c3) (hos : OpsIn W s3 os) (hn : os.length ≤ 1048576) (lo hi : Int) :
   Calls Tryz.prog 5 #[.agg s.C.toArray, .int .i64 lo, .int .i64 hi] W fun e w' => e = .returned (.bool true) ∧ Below W.heap.size W w' := by
 obtain ⟨w1, hw1⟩ : ∃ w1, w1 = W.alloc (.cells s.C.toArray 27) := ⟨_, rfl⟩
 have HW1 := hid hw1
 have b1 : Below W.heap.size W w1 := by rw [hw1]; exact (Below.refl _ W).alloc (Nat.le_refl _) _
 have rO : w1.heap[W.heap.size]? = some (.cells s.C.toArray 27 (0, 0)) := by rw [hw1]; exact hnew W _
 have z1 : w1.heap.size = W.heap.size + 1 := by rw [hw1]; simp
 have hG1 : Gl w1 := hG.below b1 hG.1
 have hs1 := hs.below b1
 have LS := hid (show (Tryz.prog.info? 27).map (·.size) = some s.C.toArray.size by rw [size_script]; rfl)
 have HOV := hid hov
 have KX := hid (xBegin_any w1 w1.heap.size 0 (Nat.le_refl _) s hs1 s3 os.length c3 hov)
 clear hw1
 go_enter Tryz.func5, Tryz.ntmps5
 go_wp2_with (first
   | (refine wpList_box_sc rfl (.tmp 0) rfl s s3 os.length c3 HOV.out rfl ?_; rw [← HW1.out])
   | refine wpList_load_row rfl 27 _ rfl W.heap.size rfl 27 s.C.toArray (0, 0) _ rO Tryz.underlying27 rfl LS.out ?_
   | (refine KX.out.mono ?_; rintro e w2 ⟨P0, rfl, S2, b2⟩; refine Hid.out ?_))
 refine hid ?_
 clear KX
 have rO2 := hbel b2 rO (hlt_ rO)
 have KL := hid (lbegin_any w2 w1.heap.size 0 P0 s S2 (hG1.below b2 hG1.1) (by omega) (hs1.below b2) s3 os.length c3 hov)
 clear S2
 have cO2 := sc_ov rO2
 go_wp2_with (first
   | refine wpList_load_row rfl 27 _ rfl W.heap.size rfl 27 s.C.toArray (0, 0) _ rO2 Tryz.underlying27 rfl LS.out ?_
   | (refine KL.out.mono ?_; rintro e w3 ⟨P3, rm3, rfl, hx3, I3, b3⟩; refine Hid.out ?_))
 refine hid ?_
 clear KL cO2
 have rO3 := hbel b3 rO2 (hlt_ rO2)
 rw [← hx3]
 have B3 : Below w1.heap.size w1 w3 := b2.trans (b3.mono b2.size)
 clear b2 b3 rO2 hx3
 have hPw : ∃ pw xw, P3.pw = pw ∧ P3.xw = xw := ⟨_, _, rfl, rfl⟩
 obtain ⟨pw, xw, hpw, hxw⟩ := hPw
 rw [hpw, hxw]
 have HOS := hid hos
 have HB1 := hid b1
 have I0 : Hid (∃ P A rm, P.pw = pw ∧ P.xw = xw ∧ Inv w1.heap.size (6 * 0) w3 P A A rm ∧ Below w1.heap.size w1 w3) := hid ⟨P3, bgA s, rm3, hpw, hxw, I3, B3⟩
 clear hpw hxw I3 B3 rO3 hos b1
 clear rm3 P3
 go_wp2_with fail
 go_loopw [10, 11, 12, 13, 14] (fun iv _ _ _ _ wr => ∃ i : Nat, i ≤ os.length ∧ iv = .int .i64 i ∧ ∃ P A rm, P.pw = pw ∧ P.xw = xw ∧ Inv w1.heap.size (6 * i) wr P A A rm ∧ Below w1.heap.size w1 wr) (fun iv _ _ _ _ _ => os.length - (intOf iv).toNat)
 case atStart => exact ⟨0, by omega, rfl, I0.out⟩
 case round =>
   obtain ⟨i, hil, rfl, P, A, rm, rfl, rfl, hI, hB⟩ := hrel
   have rS : wr.heap[W.heap.size]? = some (.cells s.C.toArray 27 (0, 0)) := hbel hB rO (by omega)
   have cS := sc_ov rS
   rw [HOV.out] at cS
   by_cases hlt : i < os.length
   · have i1 : (i : Int) < (os.length : Int) := by omega
     obtain ⟨x, hxx⟩ : ∃ x, os[i]? = some x := ⟨_, List.getElem?_eq_getElem hlt⟩
     obtain ⟨bk, of, h3, hall⟩ := HOS.out
     obtain ⟨es3, lbk⟩ := h3 (by omega)
     obtain ⟨hrg, hok, hsb⟩ := hall i x hxx
     rw [es3] at cS
     clear hall h3 hxx
     have hW : Below W.heap.size W wr := HB1.out.trans (hB.mono (by omega))
     have hrg1 : wr.rangeAt bk (of + i * 8) x.L := rng_fr (hW.block bk lbk) hrg
     have hok1 : OpOk wr x.o x.sp x.cap := hok.below hW
     clear hrg
     have zB := hB.size
     obtain ⟨w4, hw4⟩ : ∃ w4, w4 = wr.alloc (.cells x.L.toArray 37) := ⟨_, rfl⟩
     have HW4 := hid hw4
     have b4 : Below wr.heap.size wr w4 := by rw [hw4]; exact al_bel _ _
     have z4 : w4.heap.size = wr.heap.size + 1 := by rw [hw4]; simp
     have r4 : w4.heap[wr.heap.size]? = some (.cells (x.o.C (.slice x.sp x.o.raw.length x.cap)) 37 (0, 0)) := by rw [hw4]; exact hnew wr _
     have I4 := hI.below b4
     have ok4 := hok1.below b4
     clear hw4
     have LO := hid (show (Tryz.prog.info? 37).map (·.size) = some x.L.length by rw [size_op]; rfl)
     have LO2 := hid (show (Tryz.prog.info? 37).map (·.size) = some (x.o.C (.slice x.sp x.o.raw.length x.cap)).size by rw [size_op]; rfl)
     have KS := hid (xStep_any w4 w1.heap.size (6 * i) (by omega) P A A rm I4 x.o x.sp x.cap ok4)
     go_wp2_with (first
       | refine wpList_load_mid rfl 37 _ rfl bk (of + i * 8) rfl x.L _ hrg1 Tryz.underlying37 rfl LO.out ?_
       | (refine wpList_new allocOp rfl size_op rfl rfl rfl _ _ rfl rfl x.L rfl rfl x.len x.one ?_; rw [← HW4.out])
       | refine wpList_load_row rfl 37 _ rfl wr.heap.size rfl 37 _ (0, 0) _ r4 Tryz.underlying37 rfl LO2.out ?_
       | (refine KS.out.mono ?_; rintro e w5 ⟨⟨v5, rfl, hO5⟩, Fr5, gx5, I5, b5, f5⟩; refine Hid.out ?_))
     refine hid ?_
     clear KS
     obtain ⟨s5, c5, rfl, hS5, -⟩ := id hO5.form
     have lt4 : ∀ c q, q ∈ (comp w1.heap.size (6 * i) P A A rm c).fp → q < wr.heap.size := fun c q hq => cm_lt hI.sep q c hq
     have r5 : w5.heap[wr.heap.size]? = some (.cells (x.o.C (.slice x.sp x.o.raw.length x.cap)) 37 (0, 0)) := (f5 _ (by omega) (fun c hq => by have := lt4 c _ hq; omega)).trans r4
     have hb6 : Bnd (6 * i + 6) A := hI.bnd.mono (by omega)
     have W5 : Below W.heap.size W w5 := hW.trans ((b4.mono (by omega)).trans (b5.mono (by omega)))
     have BB5 : Below w1.heap.size w1 w5 := hB.trans ((b4.mono (by omega)).trans b5)
     clear f5 I4 hI hB
     obtain ⟨w6, hw6⟩ : ∃ w6, w6 = w5.alloc (.cells ((stpF A x.o).2.C (.slice s5 (stpF A x.o).2.raw.length c5)).toList.toArray 43) := ⟨_, rfl⟩
     have HW6 := hid hw6
     have b6 : Below w5.heap.size w5 w6 := by rw [hw6]; exact al_bel _ _
     have z6 : w6.heap.size = w5.heap.size + 1 := by rw [hw6]; simp
     have r6 : w6.heap[w5.heap.size]? = some (.cells ((stpF A x.o).2.C (.slice s5 (stpF A x.o).2.raw.length c5)) 43 (0, 0)) := by rw [hw6]; exact hnew w5 _
     have z5 := b5.size
     have I6 := I5.below b6
     have op6 := hbel b6 r5 (hlt_ r5)
     have O6 := hO5.below b6 (by omega)
     have ok6 : OpOk w6 x.o x.sp x.cap := hok.below (W5.trans (b6.mono (by omega)))
     clear hok hok1 hrg1 I5 hO5 hS5 r5 r4 b4 b5 W5 hW
     go_wp2_with (first
       | (refine wpList_new allocAns' rfl size_ans rfl rfl rfl _ _ rfl rfl ((stpF A x.o).2.C (.slice s5 (stpF A x.o).2.raw.length c5)).toList rfl rfl rfl (AN.one _ _ _ _) ?_; rw [← HW6.out]))
     obtain ⟨fp, had, hp, hpt, hh⟩ : ∃ (fp : Option Addr) (had : Bool), ((fp = none ∧ had = false) ∨ (∃ a, fp = some a ∧ had = true)) ∧ ptrF gx5 (stpF A x.o).1 (plc x.o.fl 3) = .pointer fp ∧ had = ((stpF A x.o).1.f (plc x.o.fl 3)).isSome := by
       cases hX : (stpF A x.o).1.f (plc x.o.fl 3) with
       | none => exact ⟨none, false, Or.inl ⟨rfl, rfl⟩, by unfold ptrF; rw [hX]; rfl, rfl⟩
       | some y => exact ⟨some _, true, Or.inr ⟨_, rfl, rfl⟩, by unfold ptrF; rw [hX]; rfl, rfl⟩
     refine ureg10 w6 w1.heap.size (6 * i + 6) (by omega) { P with Fr := Fr5, gx := gx5 } A (stpF A x.o).1 rm I6 hb6 x.o rfl fp had hp hpt hh x.sp x.cap (fun a ha e => by have := hsb a ha e; omega) ok6 wr.heap.size op6 (fun c _ => I6.not_op op6 c) ?_
     rintro ga sg cg w7 _ _ _ _ _ _ _ _ _ _ _ _ _ _ _ _ hga rG hSg ⟨P7, rm7, hp7, hx7, I7⟩ b7 f7
     have r7 := (f7 _ (by omega) (fun c _ => I6.not_in r6 c)).trans r6
     have op7 := (f7 _ (by omega) (fun c _ => I6.not_op op6 c)).trans op6
     have O7 := O6.of_heap (w1 := w7) fun k e => f7 k (by obtain ⟨_, cur, hc⟩ := ownsRow_block O6 k e; exact hlt_ hc) (fun c hc hq => by
       rw [pgm_fp (m := 6 * i) (B := A) hc] at hq
       have h1 := lt4 c k hq
       have h2 := (ownsRow_block O6 k e).1
       omega)
     have B7 : Below w1.heap.size w1 w7 := BB5.trans ((b6.mono (by omega)).trans b7)
     have c0 : w7.cell? ⟨wr.heap.size, 0, none⟩ = some (.int .i64 x.o.kd) := by rw [cell_of_row _ _ _ _ _ _ op7]; rfl
     have KA := hid (sameA_any w7 (stpF A x.o).2 sg s5 cg c5 hSg (Own.srcN9 O7))
     have LA1 := hid (show (Tryz.prog.info? 43).map (·.size) = some ((stpF A x.o).2.C (.slice sg (stpF A x.o).2.raw.length cg)).size by rw [size_ans]; rfl)
     have LA2 := hid (show (Tryz.prog.info? 43).map (·.size) = some ((stpF A x.o).2.C (.slice s5 (stpF A x.o).2.raw.length c5)).size by rw [size_ans]; rfl)
     clear f7 b7 O7 O6 op7 op6 r6 I6 hb6 ok6 hSg b6 BB5
     by_cases c1 : lo ≤ x.o.kd
     · by_cases c2 : x.o.kd ≤ hi
       · go_wp2_with (first
           | refine wpList_load_row_w (by rfl) 43 (.tmp 13) (by rfl) ga (by rfl) 43 _ (0, 0) _ rG Tryz.underlying43 rfl LA1.out ?_
           | refine wpList_load_row_w (by rfl) 43 (.tmp 12) (by rfl) w5.heap.size (by rfl) 43 _ (0, 0) _ r7 Tryz.underlying43 rfl LA2.out ?_
           | (go_at_call 11; refine KA.out.mono ?_; rintro e w8 ⟨rfl, b8⟩))
         go_roundw
         case rel => exact ⟨i + 1, by omega, by go_num, P7, _, rm7, hp7, hx7, I7.below b8, B7.trans (b8.mono B7.size)⟩
         case measure => simp [intOf]; omega
       · go_wp2_with fail
         go_roundw
         case rel => exact ⟨i + 1, by omega, by go_num, P7, _, rm7, hp7, hx7, I7, B7⟩
         case measure => simp [intOf]; omega
     · go_wp2_with fail
       go_roundw
       case rel => exact ⟨i + 1, by omega, by go_num, P7, _, rm7, hp7, hx7, I7, B7⟩
       case measure => simp [intOf]; omega
   · have i1 : ¬ (i : Int) < (os.length : Int) := by omega
     go_wp2
     go_ret
     exact ⟨rfl, HB1.out.trans (hB.mono (by omega))⟩
theorem OpsIn.below {w w1 : World} {s3 : Option Addr} {os : List OL} (h : OpsIn w s3 os) (hb : Below w.heap.size w w1) : OpsIn w1 s3 os := by
 obtain ⟨bk, of, h1, h2⟩ := h
 refine ⟨bk, of, fun h0 => ⟨(h1 h0).1, Nat.lt_of_lt_of_le (h1 h0).2 hb.size⟩, fun i x hx => ?_⟩
 obtain ⟨a, b, c⟩ := h2 i x hx
 have h0 : 0 < os.length := Nat.lt_of_le_of_lt (Nat.zero_le _) (List.getElem?_eq_some_iff.1 hx).1
 exact ⟨rng_fr (hb.block bk (h1 h0).2) a, b.below hb, fun y hy e => Nat.lt_of_lt_of_le (c y hy e) hb.size⟩
theorem filePlays_any (W : World) (hG : Gl W) (s : SC) (hs : ScOk W s) (os : List OL) (s3 : Option Addr) (c3 : Nat) (hov : s.ov = .slice s3 os.length c3) (hos : OpsIn W s3 os) (hn : os.length ≤ 1048576) :
   Calls Tryz.prog 4 #[.agg s.C.toArray] W fun e w' => e = .returned (.bool true) ∧ Below W.heap.size W w' := by
 obtain ⟨w1, hw1⟩ : ∃ w1, w1 = W.alloc (.cells s.C.toArray 27) := ⟨_, rfl⟩
 have HW1 := hid hw1
 have b1 : Below W.heap.size W w1 := by rw [hw1]; exact (Below.refl _ W).alloc (Nat.le_refl _) _
 have rO : w1.heap[W.heap.size]? = some (.cells s.C.toArray 27 (0, 0)) := by rw [hw1]; exact hnew W _
 have LS := hid (show (Tryz.prog.info? 27).map (·.size) = some s.C.toArray.size by rw [size_script]; rfl)
 have HOV := hid hov
 have KU := hid (upTo_any w1 (hG.below b1 hG.1) s (hs.below b1) os s3 c3 hov (hos.below b1) hn)
 clear hw1
 go_enter Tryz.func4, Tryz.ntmps4
 go_wp2_with (first
   | (refine wpList_box_sc rfl (.tmp 0) rfl s s3 os.length c3 HOV.out rfl ?_; rw [← HW1.out])
   | refine wpList_load_row rfl 27 _ rfl W.heap.size rfl 27 s.C.toArray (0, 0) _ rO Tryz.underlying27 rfl LS.out ?_
   | (refine (KU.out _ _).mono ?_; rintro e w2 ⟨rfl, b2⟩))
 go_ret
 exact ⟨rfl, b1.trans (b2.mono b1.size)⟩
end
end Go.Proofs.YtjhocjjecfdphaaGreatDoor
