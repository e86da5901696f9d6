import Derived.Test.YtjhocjjecfdphaaGreatDoorQ16
import Derived.Test.YtjhocjjecfdphaaGreatDoorQ23
import Derived.Test.YtjhocjjecfdphaaGreatDoorQ28
namespace Go.Proofs.YtjhocjjecfdphaaGreatDoor
set_option linter.unusedVariables false
set_option linter.unusedSimpArgs false
set_option maxRecDepth 100000
set_option maxHeartbeats 4000000
section
open Go.RowKit
attribute [local go_sem ↓] Go.wp_at_zero Go.wp_at_succ
def XK (w : World) (g p : Nat) (s : Sup) (nx ep : Int) : Prop := w.heap[g]? = some (.cells (fcells p s nx ep) 67 (0, 0))
theorem RD.not_in {w : World} {base : Nat} {F : List Nat} {p m : Nat} {D : DS} (h : RD w base F p m D) {g : Nat} {c : Array Value} {t : TypeId} {f : Nat × Nat} (hg : w.heap[g]? = some (.cells c t f)) (h1 : t ≠ 134) (h2 : t ≠ 5) (h3 : t ≠ 143) : g ∉ F := by
 obtain ⟨Q, R, rfl, rfl, hk, _⟩ := h
 intro e
 rcases (Q.mem g).1 e with e | e | e | ⟨x, hx, e⟩
 · rw [e] at hg; exact ne_ty hg hk.cell h1 rfl
 · obtain ⟨_, cur, hh⟩ := ownsRow_block hk.bs _ e; exact ne_ty hg hh h2 rfl
 · obtain ⟨_, cur, hh⟩ := ownsRow_block hk.lg _ e; exact ne_ty hg hh h3 rfl
 · obtain ⟨_, cur, hh⟩ := ownsRow_block (hk.dt x hx) _ e; exact ne_ty hg hh h2 rfl
theorem RD.drew {w : World} {base : Nat} {F : List Nat} {p m : Nat} {D : DS} (h : RD w base F p m D) : RD w.drew base F p m D := h.of_heap fun _ _ => rfl
theorem RD.setCellN {w : World} {base : Nat} {F : List Nat} {p m : Nat} {D : DS} (h : RD w base F p m D) {g : Nat} (hg : g ∉ F) (j : Nat) (v : Value) : RD (w.setCell ⟨g, j, none⟩ v) base F p m D :=
 h.of_heap fun k hk => heap_setCell_other w ⟨g, j, none⟩ k v (fun e => hg (by rw [← show k = g from e]; exact hk))
theorem XK.below {w w1 : World} {g p : Nat} {s : Sup} {nx ep : Int} (h : XK w g p s nx ep) (hb : Below w.heap.size w w1) : XK w1 g p s nx ep := (hb.block g (hlt_ h)).trans h
theorem XK.not {w : World} {g p : Nat} {s : Sup} {nx ep : Int} (h : XK w g p s nx ep) {base : Nat} {F : List Nat} {q m : Nat} {D : DS} (hd : RD w base F q m D) : g ∉ F := hd.not_in h (by decide) (by decide) (by decide)
theorem XK.other {w w1 : World} {g p : Nat} {s : Sup} {nx ep : Int} (h : XK w g p s nx ep) {base : Nat} {F : List Nat} {q m : Nat} {D : DS} (hd : RD w base F q m D) (hf : Fr F w w1) : XK w1 g p s nx ep := hf.keep h (h.not hd)
theorem XK.cell {w : World} {g p : Nat} {s : Sup} {nx ep : Int} (h : XK w g p s nx ep) (j : Nat) : w.cell? ⟨g, j, none⟩ = (fcells p s nx ep)[j]? := cell_of_row _ _ _ _ _ _ h
theorem XK.c0 {w : World} {g p : Nat} {s : Sup} {nx ep : Int} (h : XK w g p s nx ep) : w.cell? ⟨g, 0, none⟩ = some (.pointer (some ⟨p, 0, none⟩)) := h.cell 0
theorem XK.c6 {w : World} {g p : Nat} {s : Sup} {nx ep : Int} (h : XK w g p s nx ep) : w.cell? ⟨g, 6, none⟩ = some (.int .i64 nx) := h.cell 6
theorem XK.c7 {w : World} {g p : Nat} {s : Sup} {nx ep : Int} (h : XK w g p s nx ep) : w.cell? ⟨g, 7, none⟩ = some (.int .i64 ep) := h.cell 7
theorem XK.drew {w : World} {g p : Nat} {s : Sup} {nx ep : Int} (h : XK w g p s nx ep) : XK w.drew g p s nx ep := h
theorem XK.set {w : World} {g p : Nat} {s : Sup} {nx ep : Int} (h : XK w g p s nx ep) (x : Int) : XK (w.setCell ⟨g, 6, none⟩ (.int .i64 x)) g p s x ep := by
 unfold XK
 rw [heap_setCell_same _ _ _ _ _ _ h]; rfl
theorem XK.setAny {w : World} {g p : Nat} {s : Sup} {nx ep : Int} (h : XK w g p s nx ep) (j : Nat) (v : Value) : (w.setCell ⟨g, j, none⟩ v).heap[g]? = some (.cells ((fcells p s nx ep).setIfInBounds j v) 67 (0, 0)) := heap_setCell_same _ _ _ _ _ _ h
theorem XK.fz {w : World} {g p : Nat} {s : Sup} {nx ep : Int} (h : XK w g p s nx ep) (j : Nat) : w.frozen? ⟨g, j, none⟩ = false := frozen_of_row _ _ _ _ _ h
theorem XK.setSup {w : World} {g p : Nat} {s : Sup} {nx ep : Int} (h : XK w g p s nx ep) (s2 : Sup) : XK (w.setCells g 1 (supC s2).toList) g p s2 nx ep := by
 have h1 := heap_setCell_same w g 1 _ _ (.int .i64 s2.wd) h
 have h2 := heap_setCell_same _ g 2 _ _ (.int .i64 s2.ge) h1
 have h3 := heap_setCell_same _ g 3 _ _ (.int .i64 s2.ma) h2
 have h4 := heap_setCell_same _ g 4 _ _ (.int .i64 s2.hd) h3
 have h5 := heap_setCell_same _ g 5 _ _ (.int .i64 s2.pg) h4
 exact h5
theorem XK.there {w : World} {g p : Nat} {s : Sup} {nx ep : Int} (h : XK w g p s nx ep) : w.there g 1 5 := fun j hj => by
 refine ⟨?_, h.fz _⟩
 rw [h.cell]
 rcases j with _ | _ | _ | _ | _ | j
 all_goals first | rfl | omega
def RNF (base : Nat) (F : List Nat) (p g : Nat) (w : World) (m : Nat) (D' : DS) (s : Sup) (nx ep : Int) (w' : World) : Prop := ∃ F', RD w' base F' p m D' ∧ XK w' g p s nx ep ∧ Fr (g :: F) w w' ∧ Gr w F F'
theorem Gl.fr {w w1 : World} {F : List Nat} {base : Nat} (h : Gl w) (hf : Fr F w w1) (hF : ∀ k ∈ F, base ≤ k) (hb : 0 < base) : Gl w1 :=
 ⟨Nat.lt_of_lt_of_le h.1 hf.size, fun j hj => by rw [← h.2 j hj]; unfold World.cell?; rw [show w1.heap[(⟨0, j, none⟩ : Addr).block]? = w.heap[(⟨0, j, none⟩ : Addr).block]? from hf.block 0 h.1 (fun e => by have := hF 0 e; omega)]⟩
theorem xLive_any (w : World) (base : Nat) (F : List Nat) (p m : Nat) (D : DS) (h : RD w base F p m D) (g : Nat) (s : Sup) (nx ep : Int) (hf : XK w g p s nx ep) :
   Calls Tryz.prog 38 #[.pointer (some ⟨g, 0, none⟩)] w fun e w' => e = .returned (.int .i64 (liveF D ep)) ∧ w = w' := by
 have c0 := hf.c0
 have c7 := hf.c7
 have HE := hid (rEpoch_any w base F p m D h)
 have HP := hid (rPower_any w base F p m D h)
 clear h hf
 by_cases he : D.epoch = ep
 · have HL := hid (show liveF D ep = if D.power = true then 0 else 2 by unfold liveF; rw [if_neg (fun q => q he)])
   have he2 : (D.epoch != ep) = false := by simpa using he
   clear he
   cases hp : D.power with
   | true =>
     rw [hp] at HL HP
     go_enter Tryz.func38, Tryz.ntmps38
     go_wp2_with (first | (go_at_call 44; refine HE.out.mono ?_; rintro e w0 ⟨rfl, rfl⟩) | (go_at_call 30; refine HP.out.mono ?_; rintro e w0 ⟨rfl, rfl⟩))
     go_ret
     exact ⟨by rw [HL.out]; rfl, rfl⟩
   | false =>
     rw [hp] at HL HP
     go_enter Tryz.func38, Tryz.ntmps38
     go_wp2_with (first | (go_at_call 44; refine HE.out.mono ?_; rintro e w0 ⟨rfl, rfl⟩) | (go_at_call 30; refine HP.out.mono ?_; rintro e w0 ⟨rfl, rfl⟩))
     go_ret
     exact ⟨by rw [HL.out]; rfl, rfl⟩
 · have HL := hid (show liveF D ep = 3 by unfold liveF; rw [if_pos he])
   have he2 : (D.epoch != ep) = true := by simpa using he
   clear he
   go_enter Tryz.func38, Tryz.ntmps38
   go_wp2_with (first | (go_at_call 44; refine HE.out.mono ?_; rintro e w0 ⟨rfl, rfl⟩))
   go_ret
   exact ⟨by rw [HL.out]; rfl, rfl⟩
theorem xForget_any (w : World) (base : Nat) (F : List Nat) (p m : Nat) (D : DS) (h : RD w base F p m D) (g : Nat) (s : Sup) (nx ep : Int) (hf : XK w g p s nx ep) :
   Calls Tryz.prog 39 #[.pointer (some ⟨g, 0, none⟩)] w fun e w' => e = .returned (.tuple #[]) ∧ RD w' base F p m D ∧ XK w' g p s s.ma ep ∧ Fr (g :: F) w w' := by
 have c3 : w.cell? ⟨g, 3, none⟩ = some (.int .i64 s.ma) := hf.cell 3
 have c6 : w.cell? ⟨g, 6, none⟩ = some (.int .i64 nx) := hf.cell 6
 have f6 := hf.fz 6
 have HD := hid (h.setCellN (hf.not h) 6 (.int .i64 s.ma))
 have HF := hid (hf.set s.ma)
 clear h hf
 go_enter Tryz.func39, Tryz.ntmps39
 go_wp2
 go_end0
 exact ⟨rfl, HD.out, HF.out, ((Fr.refl F w).wide g).setG 6 _⟩
theorem xslots_any (w : World) (base : Nat) (F : List Nat) (p m : Nat) (hm : m + 1 < 400000000000) (hbw : base ≤ w.heap.size) (D : DS) (h : RD w base F p m D) (hpw : D.power = true) :
   Calls Tryz.prog 31 #[.pointer (some ⟨p, 0, none⟩)] w fun e w' => ∃ a b ca cb, e = .returned (.tuple #[.slice a 256 ca, .slice b 256 cb]) ∧ Src w' a ca (D.readOf 0) ∧ Src w' b cb (D.readOf 1) ∧ RD w' base F p (m + 2) { D with reads := D.reads + 2 } ∧ Fr F w w' := by
 have hnp := h.ok.np
 have f0 := readOf_fine h.ok 0 (by omega)
 have f1 := readOf_fine h.ok 1 (by omega)
 have HR0 := hid (rRead_any w base F p m (by omega) hbw D h hpw 0 (by omega) 0 rfl)
 have HR1 := hid (fun (w1 : World) (hb : base ≤ w1.heap.size) (hD : RD w1 base F p (m + 1) { D with reads := D.reads + 1 }) => rRead_any w1 base F p (m + 1) (by omega) hb { D with reads := D.reads + 1 } hD hpw 1 (by show 1 < D.np; omega) 1 rfl)
 have HLT := hid h.lt
 have HBW := hid hbw
 clear h hnp
 go_enter Tryz.func31, Tryz.ntmps31
 go_wp2_with fail
 refine HR0.out.mono ?_
 rintro e w1 ⟨v1, rfl, hO1, hD1, hF1⟩
 have HO1 := hid hO1
 obtain ⟨a, ca, hv1, _, _⟩ := hO1.form
 rw [f0.1] at hv1
 subst hv1
 have HD1 := hid hD1
 have HF1 := hid hF1
 clear hO1 hD1 hF1 HR0
 go_wp2_with fail
 refine (HR1.out w1 (Nat.le_trans HBW.out HF1.out.size) HD1.out).mono ?_
 rintro e w2 ⟨v2, rfl, hO2, hD2, hF2⟩
 have HO2 := hid hO2
 obtain ⟨b, cb, hv2, _, _⟩ := hO2.form
 rw [show (({ D with reads := D.reads + 1 } : DS).readOf 1).length = 256 from f1.1] at hv2
 subst hv2
 have HD2 := hid hD2
 have HF2 := hid hF2
 clear hO2 hD2 hF2 HR1
 go_wp2
 go_ret2
 refine ⟨_, _, _, _, rfl, ?_, ?_, ?_, HF1.out.trans HF2.out (Gr.refl _ _)⟩
 · have h1 : Own w2 w.heap.size (.slice a 256 ca) (D.readOf 0) := HO1.out.of_heap fun k e => HF2.out.block k (HO1.out.block k e).2 (fun q => by have := (HLT.out k q).2; have := (HO1.out.block k e).1; omega)
   obtain ⟨sp, cap, e, hS, _⟩ := h1.form
   simp only [Value.slice.injEq] at e
   obtain ⟨rfl, _, rfl⟩ := e
   exact hS
 · obtain ⟨sp, cap, e, hS, _⟩ := HO2.out.form
   simp only [Value.slice.injEq] at e
   obtain ⟨rfl, _, rfl⟩ := e
   exact hS
 · rw [show D.reads + 2 = D.reads + 1 + 1 by omega]; exact HD2.out
theorem xAppend_no (w : World) (base : Nat) (F : List Nat) (p m : Nat) (D : DS) (h : RD w base F p m D) (g : Nat) (s : Sup) (q : Nat) (ep : Int) (hf : XK w g p s q ep) (kd : Int) (sp : Option Addr) (l cap : Nat) (x : Int)
   (hx : (liveF D ep = x ∧ x ≠ 0) ∨ (liveF D ep = 0 ∧ (kd < 1 ∨ 3 < kd) ∧ x = 50) ∨ (liveF D ep = 0 ∧ 1 ≤ kd ∧ kd ≤ 3 ∧ 246 < (l : Int) ∧ x = 51) ∨ (liveF D ep = 0 ∧ 1 ≤ kd ∧ kd ≤ 3 ∧ (l : Int) ≤ 246 ∧ (D.np : Int) ≤ (q : Int) ∧ x = 5)) :
   Calls Tryz.prog 40 #[.pointer (some ⟨g, 0, none⟩), .int .i64 kd, .slice sp l cap] w fun e w' => e = .returned (.tuple #[.int .i64 0, .int .i64 x]) ∧ w = w' := by
 have HL := hid (xLive_any w base F p m D h g s q ep hf)
 have HP := hid (rPages_any w base F p m D h)
 have c0 := hf.c0
 have c6 := hf.c6
 clear h hf
 rcases hx with ⟨hl, hx⟩ | ⟨hl, hk, rfl⟩ | ⟨hl, k1, k3, h2, rfl⟩ | ⟨hl, k1, k3, h2, hn, rfl⟩
 · rw [hl] at HL
   have hz : (x != 0) = true := by simpa using hx
   clear hx hl
   go_enter Tryz.func40, Tryz.ntmps40
   go_wp2_with (first | (go_at_call 38; refine HL.out.mono ?_; rintro e w1 ⟨rfl, rfl⟩))
   go_ret2
   exact ⟨rfl, rfl⟩
 · rw [hl] at HL
   clear hl
   by_cases c : kd < 1
   · clear hk
     go_enter Tryz.func40, Tryz.ntmps40
     go_wp2_with (first | (go_at_call 38; refine HL.out.mono ?_; rintro e w1 ⟨rfl, rfl⟩))
     go_ret2
     exact ⟨rfl, rfl⟩
   · have c2 : 3 < kd := by omega
     clear hk
     go_enter Tryz.func40, Tryz.ntmps40
     go_wp2_with (first | (go_at_call 38; refine HL.out.mono ?_; rintro e w1 ⟨rfl, rfl⟩))
     go_ret2
     exact ⟨rfl, rfl⟩
 · rw [hl] at HL
   clear hl
   go_enter Tryz.func40, Tryz.ntmps40
   go_wp2_with (first | (go_at_call 38; refine HL.out.mono ?_; rintro e w1 ⟨rfl, rfl⟩))
   go_ret2
   exact ⟨rfl, rfl⟩
 · rw [hl] at HL
   clear hl
   go_enter Tryz.func40, Tryz.ntmps40
   go_wp2_with (first | (go_at_call 38; refine HL.out.mono ?_; rintro e w1 ⟨rfl, rfl⟩) | (go_at_call 33; refine HP.out.mono ?_; rintro e w1 ⟨rfl, rfl⟩))
   go_ret2
   exact ⟨rfl, rfl⟩
theorem xAppend_in (w : World) (hG : Gl w) (base : Nat) (F : List Nat) (p m : Nat) (hm : m < 400000000000) (D : DS) (h : RD w base F p m D) (hbw : base ≤ w.heap.size) (g : Nat) (s : Sup) (ep : Int) (q : Nat) (hf : XK w g p s q ep) (hlv : liveF D ep = 0) (hq : 2 ≤ q ∧ q < D.np) (kd : Int) (hk : kindOk kd = true) (l : List Int) (h8 : Byts l) (hl : l.length ≤ 246) (sp : Option Addr) (cap : Nat) (hS : Src w sp cap l) :
   Calls Tryz.prog 40 #[.pointer (some ⟨g, 0, none⟩), .int .i64 kd, .slice sp l.length cap] w fun e w' => (D.armed ≠ 1 → e = .returned (.tuple #[.int .i64 q, .int .i64 0]) ∧ RNF base F p g w (m + 1) (D.wr ⟨q, pageP kd q l⟩) s (q + 1 : Nat) ep w') ∧ (D.armed = 1 → e = .returned (.tuple #[.int .i64 0, .int .i64 2]) ∧ RNF base F p g w (m + 1) (D.wr ⟨q, pageP kd q l⟩) s q ep w') := by
 have hnp := h.ok.np
 have hpw := (live_0 hlv).2
 obtain ⟨k1, k3⟩ := (kindOk_iff kd).1 hk
 have HL := hid (xLive_any w base F p m D h g s q ep hf)
 rw [hlv] at HL
 have HP := hid (rPages_any w base F p m D h)
 have HD := hid h
 have HF := hid hf
 have hll : (l.length : Int) ≤ 246 := by omega
 have iq : (q : Int) < (D.np : Int) := by omega
 have iq2 : (q : Int) < 4096 := by omega
 have c0 := hf.c0
 have c6 := hf.c6
 have HPG := hid (qPage_any w hG kd q ⟨k1, k3⟩ ⟨by omega, by omega⟩ l h8 hl sp cap hS)
 have HQN := hid hq
 have HP8 := hid (pageP_byts kd q l ⟨by omega, by omega⟩ hl h8)
 have HPL := hid (pageP_len kd q l hl)
 clear h hf hS hnp hl h8 hk hlv hq
 go_enter Tryz.func40, Tryz.ntmps40
 go_wp2_with (first | (go_at_call 38; refine HL.out.mono ?_; rintro e w1 ⟨rfl, rfl⟩) | (go_at_call 33; refine HP.out.mono ?_; rintro e w1 ⟨rfl, rfl⟩) | (go_at_call 88; refine HPG.out.mono ?_; rintro e w1 ⟨u1, rfl, hO1, hb1⟩; have HB1 := hid hb1; have HD1 := hid (HD.out.below hb1); have HK1 := hid (HF.out.below hb1); obtain ⟨su, cu, hu, hSu, hnu⟩ := hO1.form; rw [HPL.out] at hu; subst hu; have HSU := hid hSu; have HNU := hid hnu; clear hb1 hO1 hSu hnu c0 c6))
 have HWR := hid (rWrite_any w1.drew base F p m hm (Nat.le_trans hbw HB1.out.size) D HD1.out.drew hpw q HQN.out.2 (pageP kd q l) HPL.out HP8.out su cu (HSU.out.below (Below.refl _ w1).drew (Nat.le_refl _)) HNU.out)
 clear HSU HNU HP8 HPL HL HP HPG
 refine rgA (fun w' => XK w' g p s q ep) HK1.out.drew (fun hq0 => ?_)
 refine tkA 0 (.pointer (some ⟨g, 0, none⟩)) rfl hq0 ?_
 go_frame
 refine tkA 4 (.pointer (some ⟨g, 0, none⟩)) rfl hq0 ?_
 go_frame
 refine tkA 8 (.slice su 256 cu) rfl hq0 ?_
 go_frame
 refine tkA 1 (.pointer (some ⟨g, 0, none⟩)) rfl hq0 ?_
 go_frame
 refine tkA 5 (.pointer (some ⟨g, 0, none⟩)) rfl hq0 ?_
 go_frame
 refine tkA 2 (.pointer (some ⟨g, 0, none⟩)) rfl hq0 ?_
 go_frame
 refine tkA 6 (.pointer (some ⟨g, 6, none⟩)) rfl hq0 ?_
 go_frame
 refine tqA 3 (.pointer (some ⟨p, 0, none⟩)) rfl (yA (by intro w hS; have hc := XK.c0 hS; go_simp)) hq0 ?_
 go_frame
 refine tqA 7 (.int .i64 (q : Int)) rfl (yA (by intro w hS; have hc := XK.c6 hS; go_simp)) hq0 ?_
 go_frame
 refine rdA 9 rfl (fun K hK => ?_)
 go_simp
 go_at_call 35
 refine (HWR.out).mono ?_
 rintro e w3 ⟨rfl, hN⟩
 go_wp2_with fail
 refine hK.out _ _ (XK.other (show XK w1.drew g p s q ep from hq0) HD1.out.drew hN.choose_spec.2.1) ?_
 clear hK K hq0
 intro hq0
 try go_frame
 refine tkA 10 (.int .i64 D.actE) rfl hq0 ?_
 go_frame
 refine wdA ?_
 obtain ⟨F3, q1, q2, q3⟩ := hN
 have HK3 := hid (show XK w3 g p s q ep from hq0)
 have hfw : Fr F w w3 := (Fr.of_below HB1.out).drew.trans q2 (Gr.refl _ _)
 have hgr : Gr w F F3 := fun k hk => (q3 k hk).imp id (fun x => Nat.le_trans HB1.out.size x)
 have HFW := hid hfw
 have HGR := hid hgr
 have HD3 := hid q1
 clear q1 q2 q3 hfw hgr hq0 HWR HD1 HK1
 by_cases ha : D.armed = 1
 · rw [actE_2 ha]
   go_wp2
   go_ret2
   exact ⟨fun x => absurd ha x, fun _ => ⟨rfl, F3, HD3.out, HK3.out, HFW.out.wide g, HGR.out⟩⟩
 · rw [actE_0 ha]
   have c63 : w3.cell? ⟨g, 6, none⟩ = some (.int .i64 (q : Int)) := HK3.out.cell 6
   have f63 := HK3.out.fz 6
   have HS6 := hid (fun v : Value => (HK3.out.setAny 6 v))
   go_wp2
   go_ret2
   refine ⟨fun _ => ⟨?_, F3, HD3.out.setCellN (HK3.out.not HD3.out) 6 _, ?_, (HFW.out.wide g).setG 6 _, HGR.out⟩, fun x => absurd x ha⟩
   · go_num
   · have := HK3.out.set (q + 1 : Nat); push_cast at this ⊢; exact this
theorem xAppend_any (w : World) (hG : Gl w) (base : Nat) (F : List Nat) (p m : Nat) (hm : m < 400000000000) (D : DS) (h : RD w base F p m D) (hbw : base ≤ w.heap.size) (g : Nat) (s : Sup) (ep : Int) (q : Nat) (hf : XK w g p s q ep) (hq : 2 ≤ q ∧ q ≤ D.np) (kd : Int) (l : List Int) (h8 : Byts l) (sp : Option Addr) (cap : Nat) (hS : Src w sp cap l) :
   Calls Tryz.prog 40 #[.pointer (some ⟨g, 0, none⟩), .int .i64 kd, .slice sp l.length cap] w fun e w' => e = .returned (.tuple #[.int .i64 (appF D q ep kd l).2.2.1, .int .i64 (appF D q ep kd l).2.2.2]) ∧ RNF base F p g w (m + 1) (appF D q ep kd l).1 s (appF D q ep kd l).2.1 ep w' := by
 have stay : RNF base F p g w (m + 1) D s q ep w := ⟨F, h.more (Nat.le_succ _), hf, Fr.refl _ _, Gr.refl _ _⟩
 have no : ∀ x, ((liveF D ep = x ∧ x ≠ 0) ∨ (liveF D ep = 0 ∧ (kd < 1 ∨ 3 < kd) ∧ x = 50) ∨ (liveF D ep = 0 ∧ 1 ≤ kd ∧ kd ≤ 3 ∧ 246 < ((l.length : Nat) : Int) ∧ x = 51) ∨ (liveF D ep = 0 ∧ 1 ≤ kd ∧ kd ≤ 3 ∧ ((l.length : Nat) : Int) ≤ 246 ∧ (D.np : Int) ≤ (q : Int) ∧ x = 5)) → Calls Tryz.prog 40 #[.pointer (some ⟨g, 0, none⟩), .int .i64 kd, .slice sp l.length cap] w fun e w' => e = .returned (.tuple #[.int .i64 0, .int .i64 x]) ∧ RNF base F p g w (m + 1) D s q ep w' := fun x hx => by
   refine (xAppend_no w base F p m D h g s q ep hf kd sp l.length cap x hx).mono ?_
   rintro e w' ⟨rfl, rfl⟩
   exact ⟨rfl, stay⟩
 unfold appF
 by_cases hlv : liveF D ep = 0
 · rw [if_neg (fun c => c hlv)]
   by_cases hk : kindOk kd = true
   · rw [if_neg (by rw [hk]; decide)]
     have hki := (kindOk_iff kd).1 hk
     by_cases hl : 246 < l.length
     · rw [if_pos hl]; exact no 51 (Or.inr (Or.inr (Or.inl ⟨hlv, hki.1, hki.2, by omega, rfl⟩)))
     · rw [if_neg hl]
       by_cases hn : (D.np : Int) ≤ q
       · rw [if_pos hn]; exact no 5 (Or.inr (Or.inr (Or.inr ⟨hlv, hki.1, hki.2, by omega, hn, rfl⟩)))
       · rw [if_neg hn]
         refine (xAppend_in w hG base F p m hm D h hbw g s ep q hf hlv ⟨hq.1, by omega⟩ kd hk l h8 (by omega) sp cap hS).mono ?_
         rintro e w' ⟨h1, h2⟩
         by_cases ha : D.armed = 1
         · rw [if_pos ha]; obtain ⟨rfl, h3⟩ := h2 ha; exact ⟨rfl, h3⟩
         · rw [if_neg ha]; obtain ⟨rfl, h3⟩ := h1 ha; exact ⟨rfl, h3⟩
   · have hk' : kindOk kd = false := by simpa using hk
     rw [if_pos hk']
     have hki : kd < 1 ∨ 3 < kd := by
       by_cases c : kd < 1
       · exact Or.inl c
       · by_cases c2 : 3 < kd
         · exact Or.inr c2
         · exact absurd ((kindOk_iff kd).2 ⟨by omega, by omega⟩) hk
     exact no 50 (Or.inr (Or.inl ⟨hlv, hki, rfl⟩))
 · rw [if_pos hlv]; exact no _ (Or.inl ⟨rfl, hlv⟩)
theorem xRead_no (w : World) (base : Nat) (F : List Nat) (p m : Nat) (D : DS) (h : RD w base F p m D) (g : Nat) (s : Sup) (nx ep : Int) (hf : XK w g p s nx ep) (q : Int) (x : Int) (hx : (liveF D ep = x ∧ x ≠ 0) ∨ (liveF D ep = 0 ∧ ¬ (2 ≤ q ∧ q < nx) ∧ x = 41)) :
   Calls Tryz.prog 41 #[.pointer (some ⟨g, 0, none⟩), .int .i64 q] w fun e w' => e = .returned (.tuple #[.int .i64 0, .slice none 0 0, .int .i64 x]) ∧ w = w' := by
 have HL := hid (xLive_any w base F p m D h g s nx ep hf)
 have c6 := hf.c6
 clear h hf
 rcases hx with ⟨hl, hx⟩ | ⟨hl, hq, rfl⟩
 · rw [hl] at HL
   have hz : (x != 0) = true := by simpa using hx
   clear hx hl
   go_enter Tryz.func41, Tryz.ntmps41
   go_wp2_with (first | (go_at_call 38; refine HL.out.mono ?_; rintro e w1 ⟨rfl, rfl⟩))
   go_ret3
   exact ⟨rfl, rfl⟩
 · rw [hl] at HL
   clear hl
   by_cases c : q < 2
   · clear hq
     go_enter Tryz.func41, Tryz.ntmps41
     go_wp2_with (first | (go_at_call 38; refine HL.out.mono ?_; rintro e w1 ⟨rfl, rfl⟩))
     go_ret3
     exact ⟨rfl, rfl⟩
   · have c2 : nx ≤ q := by omega
     clear hq
     go_enter Tryz.func41, Tryz.ntmps41
     go_wp2_with (first | (go_at_call 38; refine HL.out.mono ?_; rintro e w1 ⟨rfl, rfl⟩))
     go_ret3
     exact ⟨rfl, rfl⟩
theorem xRead_in (w : World) (hG : Gl w) (base : Nat) (hb0 : 0 < base) (F : List Nat) (p m : Nat) (hm : m < 400000000000) (hbw : base ≤ w.heap.size) (D : DS) (h : RD w base F p m D) (g : Nat) (s : Sup) (nx ep : Int) (hf : XK w g p s nx ep) (hlv : liveF D ep = 0) (q : Nat) (hq : 2 ≤ q ∧ (q : Int) < nx ∧ q < D.np) (kd : Int) (l : List Int) (x : Int) (hu : unpackF q (D.readOf q) = (kd, l, x)) (K : Int) (L : List Int) (Y : Int) (hres : (x = 0 ∧ K = kd ∧ L = l ∧ Y = 0) ∨ (x ≠ 0 ∧ K = 0 ∧ L = [] ∧ Y = 4)) :
   Calls Tryz.prog 41 #[.pointer (some ⟨g, 0, none⟩), .int .i64 q] w fun e w' => ∃ v, e = .returned (.tuple #[.int .i64 K, v, .int .i64 Y]) ∧ Own w' w.heap.size v L ∧ RD w' base F p (m + 1) { D with reads := D.reads + 1 } ∧ XK w' g p s nx ep ∧ Fr F w w' := by
 have HL := hid (xLive_any w base F p m D h g s nx ep hf)
 rw [hlv] at HL
 have hpw := (live_0 hlv).2
 have fine := readOf_fine h.ok q hq.2.2
 have HRD := hid (rRead_any w base F p m hm hbw D h hpw q hq.2.2 q rfl)
 have c0 := hf.c0
 have c6 := hf.c6
 have i2 : 2 ≤ (q : Int) := by omega
 have i3 : (q : Int) < nx := hq.2.1
 have HF := hid hf
 have HD := hid h
 have HUP := hid (fun (w1 : World) (hg : Gl w1) (a : Option Addr) (c : Nat) (hS : Src w1 a c (D.readOf q)) => (show Calls Tryz.prog 89 #[.int .i64 (q : Int), .slice a 256 c] w1 fun e w' => ∃ v, e = .returned (.tuple #[.int .i64 kd, v, .int .i64 x]) ∧ Own w' w1.heap.size v l ∧ Below w1.heap.size w1 w' from by
   have := qUnpack_any w1 hg q (D.readOf q) fine.2 a c hS
   rw [fine.1, hu] at this
   exact this))
 have HFN := hid fine
 have HGL := hid (fun (w1 : World) (hf1 : Fr F w w1) => hG.fr hf1 (fun k hk => (h.lt k hk).1) hb0)
 have HRS := hid hres
 clear h hf hlv hq hu fine hG hres hpw
 rcases HRS.out with ⟨hx, hK, hL, hY⟩ | ⟨hx, hK, hL, hY⟩
 · subst hx hK hL hY
   clear HRS
   go_enter Tryz.func41, Tryz.ntmps41
   go_wp2_with (first | (go_at_call 38; refine HL.out.mono ?_; rintro e w1 ⟨rfl, rfl⟩) | (go_at_call 50; refine HRD.out.mono ?_; rintro e w2 ⟨v2, rfl, hO2, hD2, hF2⟩; obtain ⟨a, c, hv, hS2, _⟩ := hO2.form; rw [HFN.out.1] at hv; subst hv; have HS2 := hid hS2; have HD2 := hid hD2; have HF2 := hid hF2; clear hO2 hS2 hD2 hF2) | (go_at_call 89; refine (HUP.out w2 (HGL.out w2 HF2.out) a c HS2.out).mono ?_; rintro e w3 ⟨v, rfl, hO3, hb3⟩; have HO3 := hid hO3; have HB3 := hid hb3; obtain ⟨spv, cv, hv, _, _⟩ := hO3.form; subst hv; clear hO3 hb3))
   have HE := hid (show RD w3 base F p (m + 1) { D with reads := D.reads + 1 } ∧ XK w3 g p s nx ep ∧ Fr F w w3 from ⟨HD2.out.below HB3.out, (HF.out.other HD.out HF2.out).below HB3.out, HF2.out.tail (F' := F) HB3.out⟩)
   go_ret3
   exact ⟨_, rfl, HO3.out.base HF2.out.size, HE.out⟩
 · have hz : (x != 0) = true := by simpa using hx
   subst hK hL hY
   clear HRS hx
   go_enter Tryz.func41, Tryz.ntmps41
   go_wp2_with (first | (go_at_call 38; refine HL.out.mono ?_; rintro e w1 ⟨rfl, rfl⟩) | (go_at_call 50; refine HRD.out.mono ?_; rintro e w2 ⟨v2, rfl, hO2, hD2, hF2⟩; obtain ⟨a, c, hv, hS2, _⟩ := hO2.form; rw [HFN.out.1] at hv; subst hv; have HS2 := hid hS2; have HD2 := hid hD2; have HF2 := hid hF2; clear hO2 hS2 hD2 hF2) | (go_at_call 89; refine (HUP.out w2 (HGL.out w2 HF2.out) a c HS2.out).mono ?_; rintro e w3 ⟨v, rfl, hO3, hb3⟩; have HO3 := hid hO3; have HB3 := hid hb3; obtain ⟨spv, cv, hv, _, _⟩ := hO3.form; subst hv; clear hO3 hb3))
   have HE := hid (show RD w3 base F p (m + 1) { D with reads := D.reads + 1 } ∧ XK w3 g p s nx ep ∧ Fr F w w3 from ⟨HD2.out.below HB3.out, (HF.out.other HD.out HF2.out).below HB3.out, HF2.out.tail (F' := F) HB3.out⟩)
   go_ret3
   exact ⟨_, rfl, Own.nil _ _, HE.out⟩
theorem xRead_any (w : World) (hG : Gl w) (base : Nat) (hb0 : 0 < base) (F : List Nat) (p m : Nat) (hm : m < 400000000000) (hbw : base ≤ w.heap.size) (D : DS) (h : RD w base F p m D) (g : Nat) (s : Sup) (nx ep : Int) (hf : XK w g p s nx ep) (hnx : nx ≤ D.np) (q : Int) :
   Calls Tryz.prog 41 #[.pointer (some ⟨g, 0, none⟩), .int .i64 q] w fun e w' => ∃ v, e = .returned (.tuple #[.int .i64 (frdF D nx ep q).2.1, v, .int .i64 (frdF D nx ep q).2.2.2]) ∧ Own w' w.heap.size v (frdF D nx ep q).2.2.1 ∧ RD w' base F p (m + 1) (frdF D nx ep q).1 ∧ XK w' g p s nx ep ∧ Fr F w w' := by
 unfold frdF
 by_cases hlv : liveF D ep = 0
 · rw [if_neg (fun c => c hlv)]
   by_cases hq : 2 ≤ q ∧ q < nx
   · rw [if_neg (fun c => c hq)]
     obtain ⟨k, rfl⟩ : ∃ k : Nat, q = (k : Int) := ⟨q.toNat, by omega⟩
     rw [Int.toNat_natCast]
     by_cases hu : (unpackF k (D.readOf k)).2.2 = 0
     · rw [if_neg (fun c => c hu)]
       exact xRead_in w hG base hb0 F p m hm hbw D h g s nx ep hf hlv k ⟨by omega, hq.2, by omega⟩ _ _ _ rfl _ _ _ (Or.inl ⟨hu, rfl, rfl, rfl⟩)
     · rw [if_pos hu]
       exact xRead_in w hG base hb0 F p m hm hbw D h g s nx ep hf hlv k ⟨by omega, hq.2, by omega⟩ _ _ _ rfl _ _ _ (Or.inr ⟨hu, rfl, rfl, rfl⟩)
   · rw [if_pos hq]
     refine (xRead_no w base F p m D h g s nx ep hf q 41 (Or.inr ⟨hlv, hq, rfl⟩)).mono ?_
     rintro e w' ⟨rfl, rfl⟩
     exact ⟨_, rfl, Own.nil _ _, h.more (Nat.le_succ _), hf, Fr.refl _ _⟩
 · rw [if_pos hlv]
   refine (xRead_no w base F p m D h g s nx ep hf q _ (Or.inl ⟨rfl, hlv⟩)).mono ?_
   rintro e w' ⟨rfl, rfl⟩
   exact ⟨_, rfl, Own.nil _ _, h.more (Nat.le_succ _), hf, Fr.refl _ _⟩
end
end Go.Proofs.YtjhocjjecfdphaaGreatDoor
