import Derived.Test.YtjhocjjecfdphaaGreatDoorQ38
namespace Go.Proofs.YtjhocjjecfdphaaGreatDoor
set_option linter.unusedVariables false
set_option linter.unusedSimpArgs false
set_option maxRecDepth 100000
set_option maxHeartbeats 4000000
section
open Go.RowKit
attribute [local go_sem ↓] Go.wp_at_zero Go.wp_at_succ
def plc (i : Int) (n : Nat) : Nat := (i % (n : Int)).toNat
theorem plc_lt (i : Int) (n : Nat) (h : 0 < n) : plc i n < n := by unfold plc; have := Int.emod_lt_of_pos i (show (0 : Int) < n by omega); have := Int.emod_nonneg i (show (n : Int) ≠ 0 by omega); omega
theorem tmod_neg (k n : Nat) : (-(k : Int)).tmod (n : Int) = -(((k % n : Nat)) : Int) := by rw [Int.neg_tmod, Int.tmod_eq_emod_of_nonneg (by omega)]; rfl
theorem tmod_pos (k n : Nat) : ((k : Int)).tmod (n : Int) = (((k % n : Nat)) : Int) := by rw [Int.tmod_eq_emod_of_nonneg (by omega)]; rfl
theorem int_cases (i : Int) : (∃ k : Nat, i = (k : Int)) ∨ ∃ k : Nat, i = -(k : Int) := by
 by_cases h : 0 ≤ i
 · exact Or.inl ⟨i.toNat, by omega⟩
 · exact Or.inr ⟨(-i).toNat, by omega⟩
theorem plc_neg (i : Int) (n : Nat) (hn : n = 2 ∨ n = 3) (h : i.tmod n < 0) : i.tmod n + n = (plc i n : Nat) := by
 unfold plc
 rcases int_cases i with ⟨k, rfl⟩ | ⟨k, rfl⟩
 · rw [tmod_pos] at h; omega
 · rw [tmod_neg] at h ⊢; rcases hn with rfl | rfl <;> omega
theorem plc_pos (i : Int) (n : Nat) (hn : n = 2 ∨ n = 3) (h : ¬ i.tmod n < 0) : i.tmod n = (plc i n : Nat) := by
 unfold plc
 rcases int_cases i with ⟨k, rfl⟩ | ⟨k, rfl⟩
 · rw [tmod_pos]; rcases hn with rfl | rfl <;> omega
 · rw [tmod_neg] at h ⊢; rcases hn with rfl | rfl <;> omega
theorem plc_rng (i : Int) (n : Nat) (hn : n = 2 ∨ n = 3) : -3 < i.tmod n ∧ i.tmod n < 3 := by
 rcases int_cases i with ⟨k, rfl⟩ | ⟨k, rfl⟩
 · rw [tmod_pos]; rcases hn with rfl | rfl <;> omega
 · rw [tmod_neg]; rcases hn with rfl | rfl <;> omega
theorem lplace_any (w : World) (i : Int) (n : Nat) (hn : n = 2 ∨ n = 3) (z : Int) (hz : z = (n : Int)) :
   Calls Tryz.prog 10 #[.int .i64 i, .int .i64 z] w fun e w' => e = .returned (.int .i64 (plc i n : Nat)) ∧ w = w' := by
 subst hz
 have hr := plc_rng i n hn
 have HN := hid (plc_neg i n hn)
 have HP := hid (plc_pos i n hn)
 have n1 : 2 ≤ (n : Int) := by omega
 have n2 : (n : Int) ≤ 3 := by omega
 obtain ⟨t, ht⟩ : ∃ t, t = i.tmod n := ⟨_, rfl⟩
 rw [← ht] at hr HN HP
 replace ht := ht.symm
 obtain ⟨r1, r2⟩ := hr
 clear hn
 by_cases c : t < 0
 · go_enter Tryz.func10, Tryz.ntmps10
   go_wp2
   go_ret
   exact ⟨by rw [← HN.out c]; go_num, rfl⟩
 · go_enter Tryz.func10, Tryz.ntmps10
   go_wp2
   go_ret
   exact ⟨by rw [← HP.out c]; rfl, rfl⟩
theorem xplace_any (w : World) (i : Int) (n : Nat) (hn : n = 2 ∨ n = 3) (z : Int) (hz : z = (n : Int)) :
   Calls Tryz.prog 14 #[.int .i64 i, .int .i64 z] w fun e w' => e = .returned (.int .i64 (plc i n : Nat)) ∧ w = w' := by
 subst hz
 have hr := plc_rng i n hn
 have HN := hid (plc_neg i n hn)
 have HP := hid (plc_pos i n hn)
 have n1 : 2 ≤ (n : Int) := by omega
 have n2 : (n : Int) ≤ 3 := by omega
 obtain ⟨t, ht⟩ : ∃ t, t = i.tmod n := ⟨_, rfl⟩
 rw [← ht] at hr HN HP
 replace ht := ht.symm
 obtain ⟨r1, r2⟩ := hr
 clear hn
 by_cases c : t < 0
 · go_enter Tryz.func14, Tryz.ntmps14
   go_wp2
   go_ret
   exact ⟨by rw [← HN.out c]; go_num, rfl⟩
 · go_enter Tryz.func14, Tryz.ntmps14
   go_wp2
   go_ret
   exact ⟨by rw [← HP.out c]; rfl, rfl⟩
def mdF (pages : Int) (img : List Int) : Option DS :=
 if 0 < img.length then (if img.length % 256 = 0 ∧ 3 ≤ img.length / 256 ∧ img.length / 256 ≤ 4096 then some (newD img) else none)
 else (if 3 ≤ pages ∧ pages ≤ 4096 then some (newD (List.replicate (256 * pages.toNat) 0)) else none)
theorem box_start (n : Int) (sp : Option Addr) (l c : Nat) (w : World) : (Instr.box 24 (.agg #[.int .i64 n, .slice sp l c])).run Tryz.prog w = .ok (.pointer (some ⟨w.heap.size, 0, none⟩)) (w.alloc (.cells #[.int .i64 n, .slice sp l c] 24)) := by kernel_rfl
theorem wpList_box_start {w : World} {ops : Array Oper} {rest : List Oper} {o : Oper} {a : Act} {Q : Exit → Act → World → Prop} (hg : o.guard = none) (x : Operand) (ho : o.op = .box 24 x) (n : Int) (sp : Option Addr) (l c : Nat) (hx : a.eval x = .agg #[.int .i64 n, .slice sp l c])
   (h : wpList Tryz.prog ops Q rest (a.put o.dst (.pointer (some ⟨w.heap.size, 0, none⟩))) (w.alloc (.cells #[.int .i64 n, .slice sp l c] 24))) : wpList Tryz.prog ops Q (o :: rest) a w := by
 refine wpList_plain hg fun K hK => ?_
 unfold Oper.wp execOp
 simp only [ho, hx, Sem.run_bind, box_start, Result.andThen_ok, Sem.run_pure]
 exact hK _ _ h
def MadeD (B : Nat) (w : World) (r : Option DS) (e : Ending) : Prop := match r with
 | none => e = .returned (.pointer none)
 | some D => ∃ p F, e = .returned (.pointer (some ⟨p, 0, none⟩)) ∧ DA w B F p D
def MadeR (B m : Nat) (w : World) (r : Option DS) (e : Ending) : Prop := match r with
 | none => e = .returned (.pointer none)
 | some D => ∃ p F, e = .returned (.pointer (some ⟨p, 0, none⟩)) ∧ RD w B F p m D
theorem Load_all (w : World) (img : List Int) (hb : Bts img) (h0 : 0 < img.length) (hl : img.length ≤ 1048576) (v : Value) (B : Nat) (hO : Own w B v img) :
   Calls Tryz.prog 27 #[v] w fun e w' => ∃ q x, e = .returned (.tuple #[q, .int .i64 x]) ∧ Below w.heap.size w w' ∧ MadeD w.heap.size w' (mdF 0 img) (.returned q) := by
 obtain ⟨sp, cap, rfl, hS, hn⟩ := hO.form
 unfold mdF
 rw [if_pos h0]
 by_cases c0 : img.length % 256 = 0
 · by_cases c1 : 3 ≤ img.length / 256 ∧ img.length / 256 ≤ 4096
   · rw [if_pos ⟨c0, c1⟩]
     refine (Load_any w img (img.length / 256) c1.1 c1.2 (by omega) hb sp cap hS hn).mono ?_
     rintro e w' ⟨p, F, rfl, h1, h2⟩
     exact ⟨_, _, rfl, h2, p, F, rfl, h1⟩
   · rw [if_neg (fun c => c1 c.2)]
     refine (Load_pages w sp img.length cap c0 (by omega) (by omega)).mono ?_
     rintro e w' ⟨rfl, rfl⟩
     exact ⟨_, _, rfl, Below.refl _ _, rfl⟩
 · rw [if_neg (fun c => c0 c.1)]
   refine (Load_size w sp img.length cap c0 (by omega)).mono ?_
   rintro e w' ⟨rfl, rfl⟩
   exact ⟨_, _, rfl, Below.refl _ _, rfl⟩
theorem rLoad_all (w : World) (img : List Int) (hb : Bts img) (h0 : 0 < img.length) (hl : img.length ≤ 1048576) (sp : Option Addr) (cap m : Nat) (hS : Src w sp cap img) (hn : sp = none → cap = 0) :
   Calls Tryz.prog 25 #[.slice sp img.length cap] w fun e w' => ∃ q x, e = .returned (.tuple #[q, .int .i64 x]) ∧ Below w.heap.size w w' ∧ MadeR w.heap.size m w' (mdF 0 img) (.returned q) := by
 unfold mdF
 rw [if_pos h0]
 by_cases c0 : img.length % 256 = 0
 · by_cases c1 : 3 ≤ img.length / 256 ∧ img.length / 256 ≤ 4096
   · rw [if_pos ⟨c0, c1⟩]
     refine (rLoad_any w img (img.length / 256) c1.1 c1.2 (by omega) hb sp cap hS hn m).mono ?_
     rintro e w' ⟨p, F, rfl, h1, h2⟩
     exact ⟨_, _, rfl, h2, p, F, rfl, h1⟩
   · rw [if_neg (fun c => c1 c.2)]
     refine (rLoad_pages w sp img.length cap c0 (by omega) (by omega)).mono ?_
     rintro e w' ⟨rfl, rfl⟩
     exact ⟨_, _, rfl, Below.refl _ _, rfl⟩
 · rw [if_neg (fun c => c0 c.1)]
   refine (rLoad_size w sp img.length cap c0 (by omega)).mono ?_
   rintro e w' ⟨rfl, rfl⟩
   exact ⟨_, _, rfl, Below.refl _ _, rfl⟩
theorem New_all (w : World) (n : Int) :
   Calls Tryz.prog 29 #[.int .i64 n] w fun e w' => ∃ q x, e = .returned (.tuple #[q, .int .i64 x]) ∧ Below w.heap.size w w' ∧ MadeD w.heap.size w' (mdF n []) (.returned q) := by
 unfold mdF
 rw [if_neg (by simp)]
 by_cases c : 3 ≤ n ∧ n ≤ 4096
 · rw [if_pos c]
   obtain ⟨k, rfl⟩ : ∃ k : Nat, n = (k : Int) := ⟨n.toNat, by omega⟩
   rw [Int.toNat_natCast]
   refine (New_ok w k (by omega) (by omega)).mono ?_
   rintro e w' ⟨p, F, rfl, h1, h2⟩
   exact ⟨_, _, rfl, h2, p, F, rfl, h1⟩
 · rw [if_neg c]
   refine (New_no w n (by omega)).mono ?_
   rintro e w' ⟨rfl, rfl⟩
   exact ⟨_, _, rfl, Below.refl _ _, rfl⟩
theorem rNew_all (w : World) (n : Int) (m : Nat) :
   Calls Tryz.prog 26 #[.int .i64 n] w fun e w' => ∃ q x, e = .returned (.tuple #[q, .int .i64 x]) ∧ Below w.heap.size w w' ∧ MadeR w.heap.size m w' (mdF n []) (.returned q) := by
 unfold mdF
 rw [if_neg (by simp)]
 by_cases c : 3 ≤ n ∧ n ≤ 4096
 · rw [if_pos c]
   obtain ⟨k, rfl⟩ : ∃ k : Nat, n = (k : Int) := ⟨n.toNat, by omega⟩
   rw [Int.toNat_natCast]
   refine (rNew_any w k (by omega) (by omega) m).mono ?_
   rintro e w' ⟨p, F, rfl, h1, h2⟩
   exact ⟨_, _, rfl, h2, p, F, rfl, h1⟩
 · rw [if_neg c]
   refine (rNew_no w n (by omega)).mono ?_
   rintro e w' ⟨rfl, rfl⟩
   exact ⟨_, _, rfl, Below.refl _ _, rfl⟩
theorem mdF_img (n : Int) {img : List Int} (h : 0 < img.length) : mdF n img = mdF 0 img := by unfold mdF; rw [if_pos h, if_pos h]
theorem MadeD.base {B B' : Nat} {w : World} {r : Option DS} {e : Ending} (h : MadeD B w r e) (hb : B' ≤ B) : MadeD B' w r e := by
 cases r with
 | none => exact h
 | some D =>
   obtain ⟨p, F, h1, P, e1, e2, hk, hok⟩ := h
   refine ⟨p, F, h1, P, e1, e2, ⟨hk.cell, hk.im, hk.gl, hk.gm, ⟨hk.opn.1, ?_⟩, hk.mp, hk.new, Nat.le_trans hb hk.bp, Nat.le_trans hb hk.bg, Nat.le_trans hb hk.bm⟩, hok⟩
   rcases hk.opn.2 with q | ⟨g, cap, cur, q1, q2, q3⟩
   · exact Or.inl q
   · exact Or.inr ⟨g, cap, cur, q1, Nat.le_trans hb q2, q3⟩
theorem MadeR.base {B B' m : Nat} {w : World} {r : Option DS} {e : Ending} (h : MadeR B m w r e) (hb : B' ≤ B) : MadeR B' m w r e := by
 cases r with
 | none => exact h
 | some D =>
   obtain ⟨p, F, h1, Q, R, e1, e2, hk, hd⟩ := h
   have lo : ∀ {t k n : Nat} {v : Value} {cs : List Value}, w.ownsRow B t k v n cs → w.ownsRow B' t k v n cs := fun {t k n v cs} ho => by
     refine ⟨ho.1, ?_⟩
     rcases ho.2 with q | ⟨g, cap, cur, q1, q2, q3⟩
     · exact Or.inl q
     · exact Or.inr ⟨g, cap, cur, q1, Nat.le_trans hb q2, q3⟩
   exact ⟨p, F, h1, Q, R, e1, e2, ⟨hk.cell, lo hk.bs, lo hk.lg, hk.ln, fun x hx => lo (hk.dt x hx), Nat.le_trans hb hk.bp⟩, hd⟩
theorem lmade_any (w : World) (n : Int) (img : List Int) (hb : Bts img) (hl : img.length ≤ 1048576) (sp : Option Addr) (cap : Nat) (hS : Src w sp cap img) :
   Calls Tryz.prog 13 #[.agg #[.int .i64 n, .slice sp img.length cap]] w fun e w' => MadeD w.heap.size w' (mdF n img) e ∧ Below w.heap.size w w' := by
 have b1 := below_new w (.cells #[.int .i64 n, .slice sp img.length cap] 24)
 have r1 := hnew w (.cells #[.int .i64 n, .slice sp img.length cap] 24)
 have c0 : (w.alloc (.cells #[.int .i64 n, .slice sp img.length cap] 24)).cell? ⟨w.heap.size, 0, none⟩ = some (.int .i64 n) := by rw [cell_of_row _ _ _ _ _ _ r1]; rfl
 have c1 : (w.alloc (.cells #[.int .i64 n, .slice sp img.length cap] 24)).cell? ⟨w.heap.size, 1, none⟩ = some (.slice sp img.length cap) := by rw [cell_of_row _ _ _ _ _ _ r1]; rfl
 have HB1 := hid b1
 by_cases h0 : 0 < img.length
 · have j0 : (0 : Int) < (img.length : Int) := by omega
   rw [mdF_img n h0]
   have HC := hid (copied_any _ img sp cap (hS.below b1 (Nat.le_refl _)) (by omega))
   have HL := hid (fun (w2 : World) (v : Value) (B : Nat) (hO : Own w2 B v img) => Load_all w2 img hb h0 hl v B hO)
   generalize hw1 : w.alloc (.cells #[.int .i64 n, .slice sp img.length cap] 24) = w1 at *
   have W1 := hid hw1
   clear b1 r1 hS
   go_enter Tryz.func13, Tryz.ntmps13
   go_wp2_with (first
     | (refine wpList_box_start rfl (.tmp 0) rfl n sp img.length cap rfl ?_; rw [W1.out])
     | (go_at_call 28; refine HC.out.mono ?_; rintro e w2 ⟨v, rfl, hO2, hB2⟩; have HO2 := hid hO2; have HB2 := hid hB2; obtain ⟨sv, cv, hv, _, _⟩ := hO2.form; subst hv; clear hO2 hB2)
     | (go_at_call 27; refine (HL.out w2 _ _ HO2.out).mono ?_; rintro e w3 ⟨q, x, rfl, hB3, hM⟩; have HB3 := hid hB3; have HM := hid hM; clear hB3 hM))
   go_ret
   have hB := HB1.out.trans ((HB2.out.trans (HB3.out.mono HB2.out.size)).mono HB1.out.size)
   exact ⟨HM.out.base (Nat.le_trans HB1.out.size HB2.out.size), hB⟩
 · have hi : img = [] := List.eq_nil_of_length_eq_zero (by omega)
   subst hi
   have HN := hid (New_all (w.alloc (.cells #[.int .i64 n, .slice sp ([] : List Int).length cap] 24)) n)
   generalize hw1 : w.alloc (.cells #[.int .i64 n, .slice sp ([] : List Int).length cap] 24) = w1 at *
   have W1 := hid hw1
   clear b1 r1 hS
   simp only [List.length_nil] at *
   go_enter Tryz.func13, Tryz.ntmps13
   go_wp2_with (first
     | (refine wpList_box_start rfl (.tmp 0) rfl n sp 0 cap rfl ?_; rw [W1.out])
     | (go_at_call 29; refine HN.out.mono ?_; rintro e w3 ⟨q, x, rfl, hB3, hM⟩; have HB3 := hid hB3; have HM := hid hM; clear hB3 hM))
   go_ret
   exact ⟨HM.out.base HB1.out.size, HB1.out.trans (HB3.out.mono HB1.out.size)⟩
theorem xmade_any (w : World) (n : Int) (img : List Int) (hb : Bts img) (hl : img.length ≤ 1048576) (sp : Option Addr) (cap m : Nat) (hS : Src w sp cap img) (hnil : sp = none → cap = 0) :
   Calls Tryz.prog 12 #[.agg #[.int .i64 n, .slice sp img.length cap]] w fun e w' => MadeR w.heap.size m w' (mdF n img) e ∧ Below w.heap.size w w' := by
 have b1 := below_new w (.cells #[.int .i64 n, .slice sp img.length cap] 24)
 have r1 := hnew w (.cells #[.int .i64 n, .slice sp img.length cap] 24)
 have c0 : (w.alloc (.cells #[.int .i64 n, .slice sp img.length cap] 24)).cell? ⟨w.heap.size, 0, none⟩ = some (.int .i64 n) := by rw [cell_of_row _ _ _ _ _ _ r1]; rfl
 have c1 : (w.alloc (.cells #[.int .i64 n, .slice sp img.length cap] 24)).cell? ⟨w.heap.size, 1, none⟩ = some (.slice sp img.length cap) := by rw [cell_of_row _ _ _ _ _ _ r1]; rfl
 have HB1 := hid b1
 by_cases h0 : 0 < img.length
 · have j0 : (0 : Int) < (img.length : Int) := by omega
   rw [mdF_img n h0]
   have HL := hid (rLoad_all _ img hb h0 hl sp cap m (hS.below b1 (Nat.le_refl _)) hnil)
   generalize hw1 : w.alloc (.cells #[.int .i64 n, .slice sp img.length cap] 24) = w1 at *
   have W1 := hid hw1
   clear b1 r1 hS
   go_enter Tryz.func12, Tryz.ntmps12
   go_wp2_with (first
     | (refine wpList_box_start rfl (.tmp 0) rfl n sp img.length cap rfl ?_; rw [W1.out])
     | (go_at_call 25; refine HL.out.mono ?_; rintro e w3 ⟨q, x, rfl, hB3, hM⟩; have HB3 := hid hB3; have HM := hid hM; clear hB3 hM))
   go_ret
   exact ⟨HM.out.base HB1.out.size, HB1.out.trans (HB3.out.mono HB1.out.size)⟩
 · have hi : img = [] := List.eq_nil_of_length_eq_zero (by omega)
   subst hi
   have HN := hid (rNew_all (w.alloc (.cells #[.int .i64 n, .slice sp ([] : List Int).length cap] 24)) n m)
   generalize hw1 : w.alloc (.cells #[.int .i64 n, .slice sp ([] : List Int).length cap] 24) = w1 at *
   have W1 := hid hw1
   clear b1 r1 hS
   simp only [List.length_nil] at *
   go_enter Tryz.func12, Tryz.ntmps12
   go_wp2_with (first
     | (refine wpList_box_start rfl (.tmp 0) rfl n sp 0 cap rfl ?_; rw [W1.out])
     | (go_at_call 26; refine HN.out.mono ?_; rintro e w3 ⟨q, x, rfl, hB3, hM⟩; have HB3 := hid hB3; have HM := hid hM; clear hB3 hM))
   go_ret
   exact ⟨HM.out.base HB1.out.size, HB1.out.trans (HB3.out.mono HB1.out.size)⟩
theorem box_ans (e n : Int) (sp : Option Addr) (l c : Nat) (s : Sup) (c1 c2 c3 c4 : Int) (w : World) : (Instr.box 43 (.agg (ansC e n (.slice sp l c) s c1 c2 c3 c4))).run Tryz.prog w = .ok (.pointer (some ⟨w.heap.size, 0, none⟩)) (w.alloc (.cells (ansC e n (.slice sp l c) s c1 c2 c3 c4) 43)) := by kernel_rfl
theorem wpList_box_ans {w : World} {ops : Array Oper} {rest : List Oper} {o : Oper} {a : Act} {Q : Exit → Act → World → Prop} (hg : o.guard = none) (x : Operand) (ho : o.op = .box 43 x) (e n : Int) (sp : Option Addr) (l c : Nat) (s : Sup) (c1 c2 c3 c4 : Int) (hx : a.eval x = .agg (ansC e n (.slice sp l c) s c1 c2 c3 c4))
   (h : wpList Tryz.prog ops Q rest (a.put o.dst (.pointer (some ⟨w.heap.size, 0, none⟩))) (w.alloc (.cells (ansC e n (.slice sp l c) s c1 c2 c3 c4) 43))) : wpList Tryz.prog ops Q (o :: rest) a w := by
 refine wpList_plain hg fun K hK => ?_
 unfold Oper.wp execOp
 simp only [ho, hx, Sem.run_bind, box_ans, Result.andThen_ok, Sem.run_pure]
 exact hK _ _ h
theorem guardN2 : Tryz.prog.eqGuardType Tryz.prog.depth 41 = false := by kernel_rfl
theorem eqCnt2 (a b c d : Int) (w : World) : (Op.equalIn 10000 41 (.agg (cnt4 a b c d)) (.agg (cnt4 a b c d))).run Tryz.prog w = .ok true w := by
 unfold cnt4
 go_simp
theorem ans_range3 {w : World} {g : Nat} {e n : Int} {rv : Value} {s : Sup} {c1 c2 c3 c4 : Int} (h : w.heap[g]? = some (.cells (ansC e n rv s c1 c2 c3 c4) 43 (0, 0))) : w.rangeAt g 3 (supL s) := fun j v hv => by
 rw [cell_of_row _ _ _ _ _ _ h]
 rcases j with _ | _ | _ | _ | _ | j <;> first | exact hv | (simp [supL] at hv)
theorem ans_range8 {w : World} {g : Nat} {e n : Int} {rv : Value} {s : Sup} {c1 c2 c3 c4 : Int} (h : w.heap[g]? = some (.cells (ansC e n rv s c1 c2 c3 c4) 43 (0, 0))) : w.rangeAt g 8 (cnt4 c1 c2 c3 c4).toList := fun j v hv => by
 rw [cell_of_row _ _ _ _ _ _ h]
 rcases j with _ | _ | _ | _ | j <;> first | exact hv | (simp [cnt4] at hv)
theorem ans_cell {w : World} {g : Nat} {e n : Int} {rv : Value} {s : Sup} {c1 c2 c3 c4 : Int} (h : w.heap[g]? = some (.cells (ansC e n rv s c1 c2 c3 c4) 43 (0, 0))) (j : Nat) : w.cell? ⟨g, j, none⟩ = (ansC e n rv s c1 c2 c3 c4)[j]? := cell_of_row _ _ _ _ _ _ h
theorem sameA_any (w : World) (a : AN) (s1 s2 : Option Addr) (p1 p2 : Nat) (h1 : Src w s1 p1 a.raw) (h2 : Src w s2 p2 a.raw) :
   Calls Tryz.prog 11 #[.agg (a.C (.slice s1 a.raw.length p1)), .agg (a.C (.slice s2 a.raw.length p2))] w fun e w' => e = .returned (.bool true) ∧ Below w.heap.size w w' := by
 obtain ⟨w2, hw2⟩ : ∃ w2, w2 = (w.alloc (.cells (a.C (.slice s1 a.raw.length p1)) 43)).alloc (.cells (a.C (.slice s2 a.raw.length p2)) 43) := ⟨_, rfl⟩
 have W2 := hid hw2
 have b2 : Below w.heap.size w w2 := by rw [hw2]; exact ((Below.refl _ w).alloc (Nat.le_refl _) _).alloc (by simp) _
 have q1 : w2.heap[w.heap.size]? = some (.cells (ansC a.e a.n (.slice s1 a.raw.length p1) a.s a.c1 a.c2 a.c3 a.c4) 43 (0, 0)) := by rw [hw2]; exact hold (hnew w _)
 have q2 : w2.heap[w.heap.size + 1]? = some (.cells (ansC a.e a.n (.slice s2 a.raw.length p2) a.s a.c1 a.c2 a.c3 a.c4) 43 (0, 0)) := by
   have h3 : ((w.alloc (.cells (a.C (.slice s1 a.raw.length p1)) 43)).alloc (.cells (a.C (.slice s2 a.raw.length p2)) 43)).heap[w.heap.size + 1]? = some (.cells (a.C (.slice s2 a.raw.length p2)) 43 (0, 0)) := by have := hnew (w.alloc (.cells (a.C (.slice s1 a.raw.length p1)) 43)) (.cells (a.C (.slice s2 a.raw.length p2)) 43); simpa using this
   rw [hw2]; exact h3
 have HSB := hid (same_any w2 a.raw a.raw s1 s2 p1 p2 (h1.below b2 (Nat.le_refl _)) (h2.below b2 (Nat.le_refl _)))
 have x0 : w2.cell? ⟨w.heap.size, 0, none⟩ = some (.int .i64 a.e) := ans_cell q1 0
 have x1 : w2.cell? ⟨w.heap.size, 1, none⟩ = some (.int .i64 a.n) := ans_cell q1 1
 have x2 : w2.cell? ⟨w.heap.size, 2, none⟩ = some (.slice s1 a.raw.length p1) := ans_cell q1 2
 have y0 : w2.cell? ⟨w.heap.size + 1, 0, none⟩ = some (.int .i64 a.e) := ans_cell q2 0
 have y1 : w2.cell? ⟨w.heap.size + 1, 1, none⟩ = some (.int .i64 a.n) := ans_cell q2 1
 have y2 : w2.cell? ⟨w.heap.size + 1, 2, none⟩ = some (.slice s2 a.raw.length p2) := ans_cell q2 2
 have Q1 := hid q1
 have Q2 := hid q2
 have HB2 := hid b2
 have eS : ∀ w : World, (Op.equalIn 10000 39 (.agg (supL a.s).toArray) (.agg (supL a.s).toArray)).run Tryz.prog w = .ok true w := fun w => by
   have := eqSup a.s a.s w
   rw [show decide (a.s = a.s) = true from decide_eq_true rfl] at this
   exact this
 have eC : ∀ w : World, (Op.equalIn 10000 41 (.agg (cnt4 a.c1 a.c2 a.c3 a.c4).toList.toArray) (.agg (cnt4 a.c1 a.c2 a.c3 a.c4).toList.toArray)).run Tryz.prog w = .ok true w := fun w => eqCnt2 a.c1 a.c2 a.c3 a.c4 w
 have HDR := hid (show decide (a.raw = a.raw) = true by simp)
 have gS := guardU
 have gC := guardN2
 have hsz : (w.alloc (.cells (a.C (.slice s1 a.raw.length p1)) 43)).heap.size = w.heap.size + 1 := by simp
 clear h1 h2 b2 q1 q2 hw2
 go_enter Tryz.func11, Tryz.ntmps11
 go_wp2_with (first
   | refine wpList_box_ans rfl (.tmp 0) rfl a.e a.n s1 a.raw.length p1 a.s a.c1 a.c2 a.c3 a.c4 rfl ?_
   | (refine wpList_box_ans rfl (.tmp 1) rfl a.e a.n s2 a.raw.length p2 a.s a.c1 a.c2 a.c3 a.c4 rfl ?_; rw [show (w.alloc (.cells (ansC a.e a.n (.slice s1 a.raw.length p1) a.s a.c1 a.c2 a.c3 a.c4) 43)).alloc (.cells (ansC a.e a.n (.slice s2 a.raw.length p2) a.s a.c1 a.c2 a.c3 a.c4) 43) = w2 from W2.out.symm])
   | refine wpList_load_mid_w (by rfl) 39 (.tmp 18) (by rfl) w.heap.size 3 (by rfl) (supL a.s) _ (ans_range3 Q1.out) Tryz.underlying39 rfl (by rw [size_super]; rfl) ?_
   | refine wpList_load_mid_w (by rfl) 39 (.tmp 20) (by rfl) (w.heap.size + 1) 3 (by rfl) (supL a.s) _ (ans_range3 Q2.out) Tryz.underlying39 rfl (by rw [size_super]; rfl) ?_
   | refine wpList_load_mid_w (by rfl) 41 (.tmp 25) (by rfl) w.heap.size 8 (by rfl) (cnt4 a.c1 a.c2 a.c3 a.c4).toList _ (ans_range8 Q1.out) Tryz.underlying41 rfl (by kernel_rfl) ?_
   | refine wpList_load_mid_w (by rfl) 41 (.tmp 27) (by rfl) (w.heap.size + 1) 8 (by rfl) (cnt4 a.c1 a.c2 a.c3 a.c4).toList _ (ans_range8 Q2.out) Tryz.underlying41 rfl (by kernel_rfl) ?_
   | (go_at_call 24; refine HSB.out.mono ?_; rintro e w3 ⟨rfl, hB3⟩; rw [HDR.out]; have HB3 := hid hB3; clear hB3))
 go_ret
 exact ⟨rfl, HB2.out.trans (HB3.out.mono HB2.out.size)⟩
end
section
open Go.RowKit
def Pgn (n : Nat) (D : DS) : Prop := D.img.length = 256 * n ∧ ∀ o ∈ D.ops, OwOk n o
theorem Pgn.of {D : DS} (h : DsOk D) : Pgn D.np D := ⟨h.np.2.2.1, h.np.2.2.2⟩
theorem Pgn.np {n : Nat} {D : DS} (h : Pgn n D) : D.np = n := by unfold DS.np; rw [h.1]; omega
theorem Pgn.acted {n : Nat} {D : DS} (h : Pgn n D) : Pgn n D.acted := by
 have e := acted_same D
 exact ⟨by rw [e.1]; exact h.1, by rw [e.2.1]; exact h.2⟩
theorem Pgn.wr {n : Nat} {D : DS} (h : Pgn n D) {o : OW} (ho : OwOk n o) : Pgn n (D.wr o) := by
 unfold DS.wr
 refine Pgn.acted ⟨h.1, fun x hx => ?_⟩
 rcases List.mem_append.1 (show x ∈ D.ops ++ [o] from hx) with q | q
 · exact h.2 x q
 · rw [List.mem_singleton.1 q]; exact ho
theorem Pgn.sy {n : Nat} {D : DS} (h : Pgn n D) : Pgn n (sy D).1 := by
 unfold Go.Proofs.YtjhocjjecfdphaaGreatDoor.sy
 split
 · exact h.acted
 · exact ⟨layTo_len h.1 h.2 _ (Nat.le_refl _), fun o ho => by cases ho⟩
theorem Pgn.synF {n : Nat} {D : DS} (h : Pgn n D) : Pgn n (synF D).1 := by
 unfold Go.Proofs.YtjhocjjecfdphaaGreatDoor.synF
 split
 · exact h
 · exact h.sy
theorem Pgn.wrtF {n : Nat} {D : DS} (h : Pgn n D) (q : Int) (data : List Int) (hb : Bts data) : Pgn n (wrtF D q data).1 := by
 unfold Go.Proofs.YtjhocjjecfdphaaGreatDoor.wrtF
 split
 · exact h
 · split
   · exact h
   · rename_i c
     split
     · exact h
     · rename_i c2
       rw [h.np] at c
       exact h.wr ⟨by show q.toNat < n; omega, Classical.not_not.1 c2, hb⟩
theorem Pgn.flpF {n : Nat} {D : DS} (h : Pgn n D) (q bit : Int) (pat : Nat) : Pgn n (flpF D q bit pat).1 := by
 unfold Go.Proofs.YtjhocjjecfdphaaGreatDoor.flpF
 split
 · exact h
 · split
   · exact h
   · exact ⟨(flipTo_len _ _ _ _ _).trans h.1, h.2⟩
theorem Pgn.rdaF {n : Nat} {D : DS} (h : Pgn n D) (q : Int) : Pgn n (rdaF D q).1 := by
 unfold Go.Proofs.YtjhocjjecfdphaaGreatDoor.rdaF
 split
 · exact h
 · split
   · exact h
   · exact h
theorem Pgn.arm {n : Nat} {D : DS} (h : Pgn n D) (k : Int) : Pgn n (D.arm k) := by
 unfold DS.arm
 split
 · exact h
 · exact h
theorem Pgn.crashed {n : Nat} {D : DS} (h : Pgn n D) (fs : List Int) : Pgn n (D.crashed fs) := ⟨crashTo_len fs h.1 h.2 _ (Nat.le_refl _), fun o ho => by cases ho⟩
theorem Pgn.dskF {n : Nat} {D : DS} (h : Pgn n D) (o : OP) (hb : Bts o.raw) : Pgn n (dskF D o).1 := by
 unfold Go.Proofs.YtjhocjjecfdphaaGreatDoor.dskF
 by_cases c10 : o.kd = 10
 · rw [if_pos c10]; exact h
 rw [if_neg c10]
 by_cases c11 : o.kd = 11
 · rw [if_pos c11]; exact h
 rw [if_neg c11]
 by_cases c12 : o.kd = 12
 · rw [if_pos c12]; exact h
 rw [if_neg c12]
 by_cases c13 : o.kd = 13
 · rw [if_pos c13]; exact h
 rw [if_neg c13]
 by_cases c14 : o.kd = 14
 · rw [if_pos c14]; exact h
 rw [if_neg c14]
 by_cases c15 : o.kd = 15
 · rw [if_pos c15]; exact h.synF
 rw [if_neg c15]
 by_cases c16 : o.kd = 16
 · rw [if_pos c16]; exact h.wrtF _ _ hb
 rw [if_neg c16]
 by_cases c17 : o.kd = 17
 · rw [if_pos c17]; exact h.arm _
 rw [if_neg c17]
 by_cases c18 : o.kd = 18
 · rw [if_pos c18]; exact h.crashed _
 rw [if_neg c18]
 by_cases c19 : o.kd = 19
 · rw [if_pos c19]; exact h.flpF _ _ _
 rw [if_neg c19]
 by_cases c20 : o.kd = 20
 · rw [if_pos c20]; exact h
 rw [if_neg c20]
 by_cases c21 : o.kd = 21
 · rw [if_pos c21]; exact h.rdaF _
 rw [if_neg c21]
 exact h
theorem page_ok {n : Nat} {nx kd : Int} {l : List Int} (h2 : 2 ≤ nx) (hn : nx < (n : Int)) (h4 : n ≤ 4096) (hk : kindOk kd = true) (hl : l.length ≤ 246) (h8 : Byts l) : OwOk n ⟨nx.toNat, pageP kd nx l⟩ := by
 have hki := (kindOk_iff kd).1 hk
 exact ⟨by show nx.toNat < n; omega, pageP_len kd nx l hl, pageP_byts kd nx l ⟨by omega, by omega⟩ hl h8⟩
theorem Pgn.appF {n : Nat} {D : DS} (h : Pgn n D) (h4 : n ≤ 4096) (nx ep kd : Int) (h2 : 2 ≤ nx) (l : List Int) (h8 : Byts l) : Pgn n (appF D nx ep kd l).1 := by
 unfold Go.Proofs.YtjhocjjecfdphaaGreatDoor.appF
 split
 · exact h
 · split
   · exact h
   · rename_i ck
     split
     · exact h
     · split
       · exact h
       · rename_i cl cn
         rw [h.np] at cn
         have ho := page_ok (n := n) (kd := kd) h2 (by omega) h4 (by simpa using ck) (by omega) h8
         split
         · exact h.wr ho
         · exact h.wr ho
theorem Pgn.frdF {n : Nat} {D : DS} (h : Pgn n D) (nx ep q : Int) : Pgn n (frdF D nx ep q).1 := by
 unfold Go.Proofs.YtjhocjjecfdphaaGreatDoor.frdF
 repeat' split
 all_goals exact h
theorem sec_ok {n : Nat} (h3 : 3 ≤ n) {s : Sup} (hv : validS s = true) : OwOk n ⟨(s.ge % 2).toNat, secP s⟩ := ⟨by show (s.ge % 2).toNat < n; omega, secP_len s, secP_byts hv⟩
theorem Pgn.pubF {n : Nat} {D : DS} (h : Pgn n D) (h3 : 3 ≤ n) {s : Sup} {nx : Int} (hf : FiOk D s nx) (ep hd : Int) : Pgn n (pubF D s nx ep hd).1 := by
 unfold Go.Proofs.YtjhocjjecfdphaaGreatDoor.pubF
 have hvi := (validS_iff s).1 hf.va
 split
 · exact h
 · split
   · exact h
   · rename_i ch
     split
     · exact h
     · rename_i cg
       have hv : validS (⟨s.wd, s.ge + 1, nx, hd, s.pg⟩ : Sup) = true := by
         have hh : hd = 0 ∨ (2 ≤ hd ∧ hd < nx) := by
           by_cases c : hd = 0
           · exact Or.inl c
           · exact Or.inr (Classical.not_not.1 fun c2 => ch ⟨c, c2⟩)
         have := hf.lo; have := hf.hi; have := hf.pg
         exact (validS_iff _).2 (by simp only; omega)
       show Pgn n (runS D [.sync, .lay ⟨s.wd, s.ge + 1, nx, hd, s.pg⟩ 0 0, .sync]).1
       rw [run_pub]
       split
       · split
         · exact (h.sy.wr (sec_ok h3 hv)).sy
         · exact h.sy.wr (sec_ok h3 hv)
       · exact h.sy
theorem Pgn.fmtStep {n : Nat} {D : DS} (h : Pgn n D) (h3 : 3 ≤ n) (h4 : n ≤ 4096) (wd : Int) (hw : 1 ≤ wd ∧ wd ≤ 32) (k : Nat) (hk : k = 0 ∨ k = 1) : Pgn n (fmtStep n wd D k).1 := by
 have hv : validS (fS n wd (k : Int)) = true := fS_valid h3 h4 hw ⟨by omega, by omega⟩
 have ho : OwOk n ⟨k, secP (fS n wd (k : Int))⟩ := ⟨by show k < n; omega, secP_len _, secP_byts hv⟩
 unfold Go.Proofs.YtjhocjjecfdphaaGreatDoor.fmtStep
 split
 · exact (h.wr ho).sy
 · exact h.wr ho
theorem Pgn.fmtF {n : Nat} {D : DS} (h : Pgn n D) (h3 : 3 ≤ n) (h4 : n ≤ 4096) (wd : Int) : Pgn n (fmtF D wd).1 := by
 unfold Go.Proofs.YtjhocjjecfdphaaGreatDoor.fmtF
 split
 · exact h
 · split
   · exact h
   · rename_i cw
     have hw := Classical.not_not.1 cw
     have h' : Pgn n { D with reads := D.reads + 2 } := h
     rw [h.np]
     split
     · exact h
     · split
       · exact (h'.fmtStep h3 h4 wd hw 0 (Or.inl rfl)).fmtStep h3 h4 wd hw 1 (Or.inr rfl)
       · exact h'.fmtStep h3 h4 wd hw 0 (Or.inl rfl)
theorem Pgn.opnF {n : Nat} {D : DS} (h : Pgn n D) : Pgn n (opnF D).1 := by
 unfold Go.Proofs.YtjhocjjecfdphaaGreatDoor.opnF
 repeat' split
 all_goals exact h
theorem FiOk.to {D D' : DS} {s : Sup} {nx : Int} (h : FiOk D s nx) (hn : D'.np = D.np) : FiOk D' s nx := ⟨h.va, by rw [hn]; exact h.pg, h.lo, by rw [hn]; exact h.hi⟩
theorem unSuper_valid {r : List Int} (h : (unSuperF r).2 = 0) : validS (unSuperF r).1 = true := by
 unfold unSuperF at h ⊢
 split at h
 · exact absurd h (by decide)
 · rename_i c1
   split at h
   · exact absurd h (by decide)
   · rename_i c2
     split at h
     · exact absurd h (by decide)
     · rename_i c3
       rw [if_neg c1, if_neg c2, if_neg c3]
       cases hv : validS (readS (r.take 64)) with
       | true => rfl
       | false => exact absurd (Or.inl hv) c3
theorem choose_valid {a b : List Int} (h : (chooseF a b).2 = 0) : validS (chooseF a b).1 = true := by
 unfold chooseF at h ⊢
 by_cases c : (unSuperF a).2 = 0 ∧ (unSuperF b).2 = 0
 · rw [if_pos c] at h ⊢
   unfold newerF at h ⊢
   split
   · rename_i d; rw [if_pos d] at h; exact absurd h (by decide)
   · rename_i d
     rw [if_neg d] at h
     split
     · exact unSuper_valid c.1
     · rename_i d2
       rw [if_neg d2] at h
       split
       · exact unSuper_valid c.2
       · rename_i d3; rw [if_neg d3] at h; exact absurd h (by decide)
 · rw [if_neg c] at h
   repeat' split at h
   all_goals exact absurd h (by decide)
theorem opn_fi {D : DS} (hok : DsOk D) (h : (opnF D).2 = 0) : FiOk (opnF D).1 (chooseF (D.readOf 0) (D.readOf 1)).1 (chooseF (D.readOf 0) (D.readOf 1)).1.ma := by
 have hn : (opnF D).1.np = D.np := (Pgn.of hok).opnF.np
 unfold opnF at h
 split at h
 · exact absurd (show (2 : Int) = 0 from h) (by decide)
 · split at h
   · rename_i c; exact absurd h c
   · rename_i c
     have hv := choose_valid (Classical.not_not.1 c)
     have hvi := (validS_iff _).1 hv
     split at h
     · exact absurd (show (4 : Int) = 0 from h) (by decide)
     · rename_i c2
       have hpg := Classical.not_not.1 c2
       exact ⟨hv, by rw [hn]; exact hpg, Int.le_refl _, by rw [hn]; omega⟩
theorem fil_fi {D : DS} (hok : DsOk D) {s : Sup} {nx : Int} (hf : FiOk D s nx) (ep : Int) (o : OP) (hb : Bts o.raw) : (filF D s nx ep o).1.np = D.np ∧ FiOk (filF D s nx ep o).1 (filF D s nx ep o).2.1 (filF D s nx ep o).2.2.1 := by
 have hnp := hok.np
 have hP := Pgn.of hok
 have hvi := (validS_iff s).1 hf.va
 have hlo := hf.lo
 have hhi := hf.hi
 unfold filF
 split
 · exact ⟨rfl, hf⟩
 · split
   · exact ⟨rfl, hf⟩
   · split
     · exact ⟨rfl, hf⟩
     · split
       · exact ⟨rfl, hf.va, hf.pg, Int.le_refl _, by show s.ma ≤ (D.np : Int); omega⟩
       · split
         · have hA := hP.appF hnp.2.1 nx ep o.n (by omega) o.raw hb
           refine ⟨hA.np, hf.va, by show s.pg = _; rw [hA.np]; exact hf.pg, ?_, ?_⟩
           · show s.ma ≤ (appF D nx ep o.n o.raw).2.1
             unfold appF; repeat' split
             all_goals simp only
             all_goals omega
           · show (appF D nx ep o.n o.raw).2.1 ≤ _
             rw [hA.np]
             unfold appF; repeat' split
             all_goals simp only
             all_goals omega
         · split
           · have hA := hP.frdF nx ep o.n
             exact ⟨hA.np, hf.to hA.np⟩
           · split
             · have hA := hP.pubF hnp.1 hf ep o.n
               refine ⟨hA.np, ?_, ?_, ?_, by rw [hA.np]; exact hhi⟩
               · show validS (pubF D s nx ep o.n).2.1 = true
                 unfold pubF
                 split
                 · exact hf.va
                 · split
                   · exact hf.va
                   · rename_i ch
                     split
                     · exact hf.va
                     · rename_i cg
                       have hv : validS (⟨s.wd, s.ge + 1, nx, o.n, s.pg⟩ : Sup) = true := by
                         have hh : o.n = 0 ∨ (2 ≤ o.n ∧ o.n < nx) := by
                           by_cases c : o.n = 0
                           · exact Or.inl c
                           · exact Or.inr (Classical.not_not.1 fun c2 => ch ⟨c, c2⟩)
                         have := hf.pg
                         exact (validS_iff _).2 (by simp only; omega)
                       simp only
                       split
                       · exact hv
                       · exact hf.va
               · show (pubF D s nx ep o.n).2.1.pg = _
                 rw [hA.np, ← hf.pg]
                 unfold pubF
                 repeat' split
                 all_goals rfl
               · show (pubF D s nx ep o.n).2.1.ma ≤ nx
                 unfold pubF
                 repeat' split
                 all_goals first | exact hlo | exact Int.le_refl _
             · exact ⟨rfl, hf⟩
end
end Go.Proofs.YtjhocjjecfdphaaGreatDoor
