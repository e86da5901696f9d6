import Derived.Test.YtjhocjjecfdphaaGreatDoorQ12
import Derived.Laws.EntriesVeiled
import Derived.Shelf.Abstract
namespace Go.Proofs.YtjhocjjecfdphaaGreatDoor
set_option linter.unusedVariables false
set_option linter.unusedSimpArgs false
set_option maxRecDepth 100000
set_option maxHeartbeats 4000000
section
open Go.RowKit
open Go.RowKit
attribute [local go_sem ↓] Go.wp_at_zero Go.wp_at_succ
open Go.RowKit
attribute [local go_sem ↓] Go.wp_at_zero Go.wp_at_succ
open Go.RowKit
attribute [local go_sem ↓] Go.wp_at_zero Go.wp_at_succ
def pgO (img : List Int) (q : Nat) : List Int := (img.drop (q * 256)).take 256
theorem pgO_len {img : List Int} {n q : Nat} (h : img.length = 256 * n) (hq : q < n) : (pgO img q).length = 256 := by
 unfold pgO; rw [List.length_take, List.length_drop]; omega
theorem pgO_byts {img : List Int} (h : Bts img) (q : Nat) : Byts (pgO img q) := fun x hx => h x (List.mem_of_mem_drop (List.mem_of_mem_take hx))
def secP (s : Sup) : List Int := secS s ++ List.replicate 192 0
theorem secP_len (s : Sup) : (secP s).length = 256 := by rw [secP, List.length_append, secS_len, List.length_replicate]
theorem secP_byts {s : Sup} (h : validS s = true) : Byts (secP s) := byts_app (secS_byts s h) (rep_byts _)
def Blank (L0 L1 : List Int) : Prop := ∃ Y Z : List Int, Y.length = 192 ∧ Z.length = 192 ∧ L1 = zz 64 ++ Z ∧ (L0 = zz 64 ++ Y ∨ ∃ s, validS s = true ∧ s.ge = 0 ∧ L0 = secS s ++ Y)
theorem Nx.pre {base : Nat} {F : List Nat} {p : Nat} {w w1 w2 : World} {D : DS} (hb : Below w.heap.size w w1) (h : Nx base F p w1 D w2) : Nx base F p w D w2 := by
 obtain ⟨F', h1, h2, h3⟩ := h
 exact ⟨F', h1, (Fr.of_below hb).trans h2 (Gr.refl _ _), fun k hk => (h3 k hk).imp id (fun q => Nat.le_trans hb.size q)⟩
theorem Nx.post {base : Nat} {F : List Nat} {p : Nat} {w w1 w2 : World} {D : DS} (h : Nx base F p w D w1) (hb : Below w1.heap.size w1 w2) : Nx base F p w D w2 := by
 obtain ⟨F', h1, h2, h3⟩ := h
 exact ⟨F', h1.below hb, h2.tail (F' := F) hb, h3⟩
theorem Nx.seq {base : Nat} {F F' : List Nat} {p : Nat} {w w1 w2 : World} {D : DS} (h2 : Fr F w w1) (h3 : Gr w F F') (h : Nx base F' p w1 D w2) : Nx base F p w D w2 := by
 obtain ⟨F2, q1, q2, q3⟩ := h
 exact ⟨F2, q1, h2.trans q2 h3, h3.trans q3 h2.size⟩
theorem DA.not_in {w : World} {base : Nat} {F : List Nat} {p : Nat} {D : DS} (h : DA w base F p D) {b : Nat} {cs : Array Value} {t : TypeId} {fr : Nat × Nat} (hb : w.heap[b]? = some (.cells cs t fr)) (h1 : t ≠ 127) (h2 : t ≠ 5) (h3 : t ≠ 151) : b ∉ F := by
 obtain ⟨P, rfl, rfl, hk, _⟩ := h
 intro e
 rcases (P.mem b).1 e with rfl | rfl | rfl | q
 · exact ne_ty hb hk.cell h1 rfl
 · exact ne_ty hb hk.im h2 rfl
 · obtain ⟨es, clock, hm, _⟩ := hk.mp
   rw [hb] at hm; cases hm
 · obtain ⟨_, cur, hh⟩ := ownsRow_block hk.opn _ q; exact ne_ty hb hh h3 rfl
theorem Fr.keep {F : List Nat} {w w1 : World} (h : Fr F w w1) {b : Nat} {o : Obj} (hb : w.heap[b]? = some o) (hn : b ∉ F) : w1.heap[b]? = some o := (h.block b (hlt_ hb) hn).trans hb
theorem inTurn_any (w : World) (g n : Nat) (hn : n ≤ 100) (fn : Nat → Nat) (first cap : Nat → Array Value) (I : Nat → World → Prop) (E : Int → World → Prop)
   (hent : ∀ k, k < n → ∀ (args : Array Value) (w1 : World), (callFunc (fn k) args).run Tryz.prog w1 = .ok (.enter (fn k) args) w1)
   (h0 : I 0 w)
   (hcell : ∀ k w1, k < n → I k w1 → w1.cell? ⟨g, k, none⟩ = some (.func (.func (fn k)) (first k) (cap k)))
   (hcall : ∀ k w1, k < n → I k w1 → Calls Tryz.prog (fn k) (first k ++ cap k) w1 fun e w2 => ∃ x, e = .returned (.int .i64 x) ∧ (x = 0 → I (k + 1) w2) ∧ (x ≠ 0 → E x w2)) :
   Calls Tryz.prog 54 #[.slice (some ⟨g, 0, none⟩) n n] w fun e w2 => ∃ x, e = .returned (.int .i64 x) ∧ (x = 0 → I n w2) ∧ (x ≠ 0 → E x w2) := by
 have i0 : (n : Int) ≤ 100 := by omega
 go_enter Tryz.func54, Tryz.ntmps54
 go_wp2
 go_loopw [4, 5, 8] (fun _ _ iv wr => ∃ k : Nat, k ≤ n ∧ iv = .int .i64 k ∧ I k wr) (fun _ _ iv _ => n - (intOf iv).toNat)
 case atStart => exact ⟨0, by omega, rfl, h0⟩
 case round =>
   obtain ⟨k, hk, rfl, hI⟩ := hrel
   by_cases hlt : k < n
   · have i1 : (k : Int) < (n : Int) := by omega
     have c := hcell k wr hlt hI
     have HC := hid (hcall k wr hlt hI)
     have he := hent k hlt
     clear hcell hcall h0 hent
     generalize fn k = f at *
     generalize first k = fi at *
     generalize cap k = ca at *
     · go_wp2_with (refine HC.out.mono ?_; rintro e w2 ⟨x, rfl, hx0, hx1⟩; by_cases hx : x = 0)
       · subst hx
         go_wp2
         go_roundw
         case rel => exact ⟨k + 1, by omega, by go_num, hx0 rfl⟩
         case measure => simp [intOf]; omega
       · have i2 : (x != 0) = true := by simpa using hx
         go_wp2
         go_ret
         exact ⟨_, rfl, fun q => absurd q hx, fun _ => hx1 hx⟩
   · obtain rfl : k = n := by omega
     go_wp2
     go_ret
     exact ⟨_, rfl, fun _ => hI, fun q => absurd rfl q⟩
theorem readOf_fine {D : DS} (hok : DsOk D) (q : Nat) (hq : q < D.np) : (D.readOf q).length = 256 ∧ Byts (D.readOf q) := by
 obtain ⟨_, _, hn, hop⟩ := hok.np
 unfold DS.readOf
 cases h : lastOf D.ops q with
 | none => exact ⟨pgO_len hn hq, pgO_byts hok.bts q⟩
 | some i =>
   have := hop _ (getD_memW D.ops i (lastOf_lt h))
   exact ⟨this.2.1, this.2.2⟩
theorem Read_same (w : World) (base : Nat) (F : List Nat) (p : Nat) (D : DS) (h : DA w base F p D) (hpw : D.power = true) (q : Nat) (hq : q < D.np) (hr : D.reads < 4000000000000000000) (z : Int) (hz : z = (q : Int)) :
   Calls Tryz.prog 75 #[.pointer (some ⟨p, 0, none⟩), .int .i64 z] w fun e w' => ∃ g c, e = .returned (.tuple #[.slice (some ⟨g, 0, none⟩) 256 c, .int .i64 0]) ∧ Own w' w.heap.size (.slice (some ⟨g, 0, none⟩) 256 c) (D.readOf q) ∧ Src w' (some ⟨g, 0, none⟩) c (D.readOf q) ∧ w.heap.size ≤ g ∧ DA w' base F p { D with reads := D.reads + 1 } ∧ Fr F w w' := by
 obtain ⟨P, rfl, rfl, hk, hok⟩ := h
 subst hz
 refine (Read_in w base P D hk hok hpw q hq hr).mono ?_
 rintro e w' ⟨v, rfl, h1, h2, h3⟩
 obtain ⟨hl, h8⟩ := readOf_fine hok q hq
 obtain ⟨g, c, rest, rfl, q1, q2, q3, q4, q5⟩ := own_in h1 (by omega)
 have hS : Src w' (some ⟨g, 0, none⟩) c (D.readOf q) := In.src (rest := rest) q2 c q3 q4
 rw [hl] at h1 ⊢
 exact ⟨g, c, rfl, h1, hS, q1, ⟨P, rfl, rfl, h2, ⟨hok.n, hok.bts, hok.ops, by show 0 ≤ D.reads + 1 ∧ D.reads + 1 ≤ _; have := hok.reads; omega, hok.writes, hok.syncs, hok.epoch, hok.armed⟩⟩, h3⟩
theorem Src.other {w w1 : World} {F : List Nat} {g c : Nat} {zs : List Int} (h : Src w (some ⟨g, 0, none⟩) c zs) (hf : Fr F w w1) (hg : g ∉ F) (hl : 0 < zs.length) : Src w1 (some ⟨g, 0, none⟩) c zs := by
 obtain ⟨h1, h2, b, o, h3, h4, h5⟩ := h
 have e := h4 hl
 simp only [Option.some.injEq, Addr.mk.injEq] at e
 obtain ⟨rfl, rfl, _⟩ := e
 refine ⟨h1, h2, g, 0, fun _ => Nat.lt_of_lt_of_le (h3 hl) hf.size, fun _ => rfl, fun j hj => ?_⟩
 rw [← h5 j hj]
 unfold World.cell?
 simp only
 rw [hf.block g (h3 hl) hg]
theorem laying_any (w : World) (p : Nat) (s : Sup) :
   Calls Tryz.prog 55 #[.pointer (some ⟨p, 0, none⟩), .agg (supC s)] w fun e w' => ∃ a b, e = .returned (.func (.func 93) #[] #[.pointer (some ⟨b, 0, none⟩), .pointer (some ⟨a, 0, none⟩)]) ∧ w'.heap[a]? = some (.cells #[.pointer (some ⟨p, 0, none⟩)] 60 (0, 0)) ∧ w'.heap[b]? = some (.cells (supC s) 39 (0, 0)) ∧ w.heap.size ≤ a ∧ w.heap.size ≤ b ∧ Below w.heap.size w w' := by
 have hmf : ∀ (fn : Fn) (first cap : Array Value) (w : World), (Instr.makeFunc fn first cap).run Tryz.prog w = .ok (.func fn first cap) w := fun _ _ _ _ => rfl
 go_enter Tryz.func55, Tryz.ntmps55
 go_wp2
 go_ret
 refine ⟨w.heap.size, w.heap.size + 1, rfl, ?_, ?_, Nat.le_refl _, by omega, ?_⟩
 · exact ((below_new (w.alloc (.cells #[.pointer (some ⟨p, 0, none⟩)] 60)) _).block _ (by simp)).trans (hnew w _)
 · have := hnew (w.alloc (.cells #[.pointer (some ⟨p, 0, none⟩)] 60)) (.cells (supC s) 39)
   simpa using this
 · exact (below_new w _).trans ((below_new _ _).mono (by simp))
theorem cell_sup1 {w : World} {b : Nat} {s : Sup} {t : TypeId} (h : w.heap[b]? = some (.cells (supC s) t (0, 0))) : w.cell? ⟨b, 1, none⟩ = some (.int .i64 s.ge) := by simp [World.cell?, h, supC]
theorem laying1_any (w : World) (base : Nat) (F : List Nat) (p : Nat) (D : DS) (h : DA w base F p D) (hbw : base ≤ w.heap.size) (hpw : D.power = true) (s : Sup) (hv : validS s = true) (hops : D.ops.length < 400000000000) (hwr : D.writes < 4000000000000000000) (a b : Nat) (ha : w.heap[a]? = some (.cells #[.pointer (some ⟨p, 0, none⟩)] 60 (0, 0))) (hb : w.heap[b]? = some (.cells (supC s) 39 (0, 0))) (q : Nat) (hq : s.ge % 2 = (q : Int)) :
   Calls Tryz.prog 93 #[.pointer (some ⟨b, 0, none⟩), .pointer (some ⟨a, 0, none⟩)] w fun e w' => e = .returned (.int .i64 D.actE) ∧ Nx base F p w (D.wr ⟨q, secP s⟩) w' := by
 have hvv := (validS_iff s).1 hv
 have hq2 : q < 2 := by omega
 have hnp := h.ok.np
 have hP := hid (packSuper_ok w s hv)
 have hm : s.ge.tmod 2 = (q : Int) := by rw [Int.tmod_eq_emod_of_nonneg (by omega)]; exact hq
 have i2 : 0 ≤ s.ge ∧ s.ge ≤ 1099511627776 := ⟨hvv.2.2.1, hvv.2.2.2.1⟩
 have ra := hid ha
 have rb := hid hb
 have HW := hid (fun (w1 : World) (g : Nat) (hB : Below w.heap.size w w1) (hr : w1.heap[g]? = some (.cells (ints .u8 (secS s ++ List.replicate 192 0)).toArray 5 (0, 0))) => Write_any w1 base F p D (h.below hB) (Nat.le_trans hbw hB.size) hpw q (by omega) (secP s) (secP_len s) (secP_byts hv) (some ⟨g, 0, none⟩) 256 (src_row (tl := []) (by rw [List.append_nil]; exact hr) 256 (by rw [secP_len]; omega) (by simp [maxLen])) hops hwr)
 clear hvv hv hnp hops hwr h hpw hbw
 go_enter Tryz.func93, Tryz.ntmps93
 go_wp2_with (first
   | (refine wpList_load_row_w rfl 39 (.tmp 0) rfl b rfl 39 (supC s) (0, 0) _ rb.out Tryz.underlying39 rfl (supN s) ?_)
   | (go_at_call 94; refine hP.out.mono ?_; rintro e w1 ⟨g, rfl, hg, hr, hB⟩; have ca := cell_of_one ((hB.block a (hlt_ ra.out)).trans ra.out); have cb := cell_sup1 ((hB.block b (hlt_ rb.out)).trans rb.out))
   | (go_at_call 71; refine (HW.out w1 g hB hr).mono ?_; rintro e w2 ⟨rfl, hN⟩))
 go_ret
 exact ⟨rfl, hN.pre hB⟩
theorem Fr.setRowN {F : List Nat} {a b : World} (h : Fr F a b) {g : Nat} (hg : a.heap.size ≤ g) (cs : Array Value) : Fr F a (b.setRow g cs) :=
 ⟨h.os, h.tape, h.output, by rw [size_setRow]; exact h.size, fun k hk hn => (setRow_other _ _ _ _ (by omega)).trans (h.block k hk hn)⟩
theorem DA.of_heap {w w1 : World} {base : Nat} {F : List Nat} {p : Nat} {D : DS} (h : DA w base F p D) (hk : ∀ k ∈ F, w1.heap[k]? = w.heap[k]?) : DA w1 base F p D := by
 obtain ⟨P, rfl, rfl, hd, hok⟩ := h
 exact ⟨P, rfl, rfl, hd.of_heap hk, hok⟩
theorem DA.setRowN {w : World} {base : Nat} {F : List Nat} {p : Nat} {D : DS} (h : DA w base F p D) {g : Nat} (hg : g ∉ F) (cs : Array Value) : DA (w.setRow g cs) base F p D :=
 h.of_heap fun k hk => setRow_other _ _ _ _ (fun e => hg (e ▸ hk))
theorem fchoose_any (w : World) (base : Nat) (F : List Nat) (p : Nat) (D : DS) (h : DA w base F p D) (hpw : D.power = true) (hr : D.reads < 3999999999999999999) :
   Calls Tryz.prog 52 #[.pointer (some ⟨p, 0, none⟩)] w fun e w' => e = .returned (.tuple #[.agg (supC (chooseF (D.readOf 0) (D.readOf 1)).1), .int .i64 (chooseF (D.readOf 0) (D.readOf 1)).2]) ∧ DA w' base F p { D with reads := D.reads + 2 } ∧ Fr F w w' := by
 have hnp := h.ok.np
 have r0 := hnew w (.cells (supC sup0) 39)
 have b0 := below_new w (.cells (supC sup0) 39)
 have h0 := h.below b0
 have f0 := readOf_fine h.ok 0 (by omega)
 have f1 := readOf_fine h.ok 1 (by omega)
 have HR0 := hid (Read_same (w.alloc (.cells (supC sup0) 39)) base F p D h0 hpw 0 (by omega) (by omega) 0 rfl)
 have HR1 := hid (fun (w1 : World) (hD : DA w1 base F p { D with reads := D.reads + 1 }) => Read_same w1 base F p { D with reads := D.reads + 1 } hD hpw 1 (by show 1 < D.np; omega) (by show D.reads + 1 < _; omega) 1 rfl)
 have HLT := hid h.lt
 have HF0 := hid f0
 have HF1 := hid f1
 have R0 := hid r0
 have B0 := hid b0
 clear h h0 hnp f0 f1 r0 b0
 go_enter Tryz.func52, Tryz.ntmps52
 go_wp2_with fail
 rw [zero_super]
 refine HR0.out.mono ?_
 rintro e w1 ⟨g, c, rfl, hO1, hS1, hg1, hD1, hF1⟩
 have HS1 := hid hS1
 have HD1 := hid hD1
 have HFF1 := hid hF1
 clear hO1 hS1 hD1 hF1 HR0
 go_wp2_with fail
 refine (HR1.out w1 HD1.out).mono ?_
 rintro e w2 ⟨g2, c2, rfl, hO2, hS2, hg2, hD2, hF2⟩
 have HS2 := hid hS2
 have HD2 := hid hD2
 have HFF2 := hid hF2
 clear hO2 hS2 hD2 hF2 HR1
 go_wp2_with fail
 have hgF : g ∉ F := fun e => by have := (HLT.out g e).2; have := B0.out.size; omega
 have hC := choose_any w2 (D.readOf 0) (D.readOf 1) HF0.out.2 HF1.out.2 (some ⟨g, 0, none⟩) (some ⟨g2, 0, none⟩) c c2 (HS1.out.other HFF2.out hgF (by rw [HF0.out.1]; omega)) HS2.out
 rw [HF0.out.1, HF1.out.1] at hC
 refine hC.mono ?_
 rintro e w3 ⟨rfl, hB3⟩
 have hNF : w.heap.size ∉ F := fun e => by have := (HLT.out _ e).2; omega
 have r3 : w3.heap[w.heap.size]? = some (.cells (supC sup0) 39 (0, 0)) := by
   have q := HFF2.out.keep (HFF1.out.keep R0.out hNF) hNF
   exact (hB3.block _ (hlt_ q)).trans q
 have F3 : Fr F w w3 := (((Fr.of_below (F := F) B0.out).trans HFF1.out (Gr.refl _ _)).trans HFF2.out (Gr.refl _ _)).trans (Fr.of_below hB3) (Gr.refl _ _)
 have D3 := HD2.out.below hB3
 have HF3 := hid F3
 have HD3 := hid D3
 have R3 := hid r3
 clear hC hB3 F3 D3 r3 HFF2 HD2 HS2 HS1 HFF1 HD1 HF0 HF1 hgF R0 B0 HLT
 generalize hS1 : (chooseF (D.readOf 0) (D.readOf 1)).1 = S at *
 generalize hE1 : (chooseF (D.readOf 0) (D.readOf 1)).2 = E at *
 go_wp2_with (first | (refine wpList_store_row (by rfl) 39 (.tmp 2) (.tmp 28) (by rfl) w.heap.size (supC S) (by rfl) (by rfl) 39 (supC sup0) (by exact R3.out) (supN _) (supS _ _) (supO _) ?_))
 exact bodyPost_ret (v := .tuple #[.agg (supC S), .int .i64 E]) (results_c2 Tryz.results52 _ _ w.heap.size 39 _ _ _ rfl (setRow_heap _ _ _ _ _ _ R3.out) Tryz.underlying39 rfl (by rw [size_super]; rfl)) rfl ⟨by rw [hS1, hE1], (by have := HD3.out.setRowN hNF (supC S); simpa [Int.add_assoc] using this), HF3.out.setRowN (Nat.le_refl _) _⟩
inductive St where
 | sync
 | lay (s : Sup) (a b : Nat)
def St.fn : St → Nat
 | .sync => 56
 | .lay _ _ _ => 93
def St.first (p : Nat) : St → Array Value
 | .sync => #[.pointer (some ⟨p, 0, none⟩)]
 | .lay _ _ _ => #[]
def St.cap : St → Array Value
 | .sync => #[]
 | .lay _ a b => #[.pointer (some ⟨b, 0, none⟩), .pointer (some ⟨a, 0, none⟩)]
def St.there (w : World) (p : Nat) : St → Prop
 | .sync => True
 | .lay s a b => validS s = true ∧ w.heap[a]? = some (.cells #[.pointer (some ⟨p, 0, none⟩)] 60 (0, 0)) ∧ w.heap[b]? = some (.cells (supC s) 39 (0, 0))
def sy (D : DS) : DS × Int := if D.armed = 1 then (D.acted, 2) else (D.synced, 0)
def St.go : St → DS → DS × Int
 | .sync, D => sy D
 | .lay s _ _, D => (D.wr ⟨(s.ge % 2).toNat, secP s⟩, D.actE)
def runS (D : DS) : List St → DS × Int
 | [] => (D, 0)
 | x :: r => if (x.go D).2 = 0 then runS (x.go D).1 r else x.go D
structure Bud (D : DS) (k : Nat) : Prop where
 pw : D.power = true
 ops : D.ops.length + k < 400000000000
 writes : D.writes + k < 4000000000000000000
 syncs : D.syncs + k < 4000000000000000000
theorem acted_pw {D : DS} (h : D.armed ≠ 1) : D.acted.power = D.power := by
 unfold DS.acted; split
 · rfl
 · first | rfl | (rw [if_neg h])
theorem St.bud {D : DS} {k : Nat} (h : Bud D (k + 1)) (x : St) (h0 : (x.go D).2 = 0) : Bud (x.go D).1 k := by
 obtain ⟨h1, h2, h3, h4⟩ := h
 cases x with
 | sync =>
   show Bud (sy D).1 k
   change (sy D).2 = 0 at h0
   unfold sy at h0 ⊢
   by_cases c : D.armed = 1
   · rw [if_pos c] at h0; exact absurd (show (2 : Int) = 0 from h0) (by decide)
   · rw [if_neg c]
     obtain ⟨e1, e2, e3, e4, e5, e6⟩ := acted_same D
     exact ⟨(acted_pw c).trans h1, by show ([] : List OW).length + k < _; simp; omega, by show D.acted.writes + k < _; rw [e5]; omega, by show D.syncs + 1 + k < _; omega⟩
 | lay s a b =>
   change D.actE = 0 at h0
   have c : D.armed ≠ 1 := by intro c; unfold DS.actE at h0; rw [if_pos c] at h0; exact absurd h0 (by decide)
   have e := acted_same { D.pushed ⟨(s.ge % 2).toNat, secP s⟩ with writes := D.writes + 1 }
   obtain ⟨e1, e2, e3, e4, e5, e6⟩ := e
   show Bud (D.wr ⟨(s.ge % 2).toNat, secP s⟩) k
   refine ⟨?_, ?_, ?_, ?_⟩
   · unfold DS.wr; rw [acted_pw (by exact c)]; exact h1
   · unfold DS.wr; rw [e2]; simp [DS.pushed]; omega
   · unfold DS.wr; rw [e5]; show D.writes + 1 + k < _; omega
   · unfold DS.wr; rw [e6]; show D.syncs + k < _; omega
theorem St.call {w : World} {base : Nat} {F : List Nat} {p : Nat} {D : DS} (h : DA w base F p D) (hbw : base ≤ w.heap.size) {k : Nat} (hb : Bud D (k + 1)) (x : St) (ht : x.there w p) :
   Calls Tryz.prog x.fn (x.first p ++ x.cap) w fun e w' => e = .returned (.int .i64 (x.go D).2) ∧ Nx base F p w (x.go D).1 w' := by
 obtain ⟨h1, h2, h3, h4⟩ := hb
 cases x with
 | sync =>
   show Calls Tryz.prog 56 #[.pointer (some ⟨p, 0, none⟩)] w fun e w' => e = .returned (.int .i64 (sy D).2) ∧ Nx base F p w (sy D).1 w'
   unfold sy
   by_cases c : D.armed = 1
   · rw [if_pos c]; exact Sync_last w base F p D h h1 c
   · rw [if_neg c]; exact Sync_any w base F p D h h1 c (by omega)
 | lay s a b =>
   obtain ⟨hv, ha, hb⟩ := ht
   have hvv := (validS_iff s).1 hv
   exact laying1_any w base F p D h hbw h1 s hv (by omega) (by omega) a b ha hb (s.ge % 2).toNat (by omega)
theorem St.keep {w w1 : World} {F : List Nat} {p base : Nat} {D : DS} (h : DA w base F p D) (hf : Fr F w w1) (x : St) (ht : x.there w p) : x.there w1 p := by
 cases x with
 | sync => trivial
 | lay s a b =>
   obtain ⟨hv, ha, hb⟩ := ht
   exact ⟨hv, hf.keep ha (h.not_in ha (by decide) (by decide) (by decide)), hf.keep hb (h.not_in hb (by decide) (by decide) (by decide))⟩
def TI (w w' : World) (base : Nat) (F : List Nat) (p : Nat) (D0 : DS) (all : List St) (k : Nat) : Prop :=
 ∃ D F', DA w' base F' p D ∧ Fr F w w' ∧ Gr w F F' ∧ runS D (all.drop k) = runS D0 all ∧ Bud D (all.length - k)
theorem TI.start {w : World} {base : Nat} {F : List Nat} {p : Nat} {D0 : DS} (h : DA w base F p D0) (all : List St) (hb : Bud D0 all.length) : TI w w base F p D0 all 0 :=
 ⟨D0, F, h, Fr.refl _ _, Gr.refl _ _, rfl, hb⟩
theorem TI.step {w w' : World} {base : Nat} {F : List Nat} {p : Nat} {D0 : DS} (h0 : DA w base F p D0) (hbw : base ≤ w.heap.size) {all : List St} {k : Nat} (h : TI w w' base F p D0 all k) (hk : k < all.length) (ht : ∀ x ∈ all, x.there w p) :
   Calls Tryz.prog (all.getD k .sync).fn ((all.getD k .sync).first p ++ (all.getD k .sync).cap) w' fun e w2 => ∃ x, e = .returned (.int .i64 x) ∧ (x = 0 → TI w w2 base F p D0 all (k + 1)) ∧ (x ≠ 0 → x = (runS D0 all).2 ∧ Nx base F p w (runS D0 all).1 w2) := by
 obtain ⟨D, F', hD, hF, hG, hr, hb⟩ := h
 have e : all.getD k .sync = all[k] := by rw [List.getD_eq_getElem?_getD, List.getElem?_eq_getElem hk]; rfl
 rw [e]
 have hd : all.drop k = all[k] :: all.drop (k + 1) := List.drop_eq_getElem_cons hk
 rw [hd] at hr
 have hth := St.keep h0 hF _ (ht all[k] (List.getElem_mem hk))
 have hb1 : Bud D (all.length - (k + 1) + 1) := by rw [show all.length - (k + 1) + 1 = all.length - k by omega]; exact hb
 refine (St.call hD (Nat.le_trans hbw hF.size) hb1 _ hth).mono ?_
 rintro e w2 ⟨rfl, F2, q1, q2, q3⟩
 refine ⟨_, rfl, fun hx => ?_, fun hx => ?_⟩
 · refine ⟨_, F2, q1, hF.trans q2 hG, hG.trans q3 hF.size, ?_, St.bud hb1 _ hx⟩
   rw [← hr, runS, if_pos hx]
 · rw [runS, if_neg hx] at hr
   rw [← hr]
   exact ⟨rfl, F2, q1, hF.trans q2 hG, hG.trans q3 hF.size⟩
theorem TI.done {w w' : World} {base : Nat} {F : List Nat} {p : Nat} {D0 : DS} {all : List St} (h : TI w w' base F p D0 all all.length) : (runS D0 all).2 = 0 ∧ Nx base F p w (runS D0 all).1 w' := by
 obtain ⟨D, F', hD, hF, hG, hr, hb⟩ := h
 rw [List.drop_length] at hr
 rw [← hr]
 exact ⟨rfl, F', hD, hF, hG⟩
theorem ent_sync : ∀ (args : Array Value) (w : World), (callFunc 56 args).run Tryz.prog w = .ok (.enter 56 args) w := enters_of Tryz.func56 (by kernel_rfl) rfl
theorem ent_lay : ∀ (args : Array Value) (w : World), (callFunc 93 args).run Tryz.prog w = .ok (.enter 93 args) w := enters_of Tryz.func93 (by kernel_rfl) rfl
theorem St.ent (x : St) : ∀ (args : Array Value) (w : World), (callFunc x.fn args).run Tryz.prog w = .ok (.enter x.fn args) w := by
 cases x with
 | sync => exact ent_sync
 | lay _ _ _ => exact ent_lay
def St.val (p : Nat) (x : St) : Value := .func (.func x.fn) (x.first p) x.cap
theorem turn_any (w : World) (base : Nat) (F : List Nat) (p : Nat) (D0 : DS) (h : DA w base F p D0) (hbw : base ≤ w.heap.size) (all : List St) (hn : all.length ≤ 100) (hb : Bud D0 all.length) (ht : ∀ x ∈ all, x.there w p) (g : Nat) (hg : w.heap[g]? = some (.cells (all.map (St.val p)).toArray 110 (0, 0))) :
   Calls Tryz.prog 54 #[.slice (some ⟨g, 0, none⟩) all.length all.length] w fun e w2 => e = .returned (.int .i64 (runS D0 all).2) ∧ Nx base F p w (runS D0 all).1 w2 := by
 refine (inTurn_any w g all.length hn (fun k => (all.getD k .sync).fn) (fun k => (all.getD k .sync).first p) (fun k => (all.getD k .sync).cap) (fun k w' => TI w w' base F p D0 all k) (fun x w' => x = (runS D0 all).2 ∧ Nx base F p w (runS D0 all).1 w') (fun k _ => St.ent _) (TI.start h all hb) ?_ ?_).mono ?_
 · intro k w1 hk hI
   obtain ⟨D, F', hD, hF, hG, _⟩ := hI
   have hg1 := hF.keep hg (h.not_in hg (by decide) (by decide) (by decide))
   rw [cell_of_row _ _ _ _ _ _ hg1, List.getElem?_toArray, List.getElem?_map, List.getElem?_eq_getElem hk, List.getD_eq_getElem?_getD, List.getElem?_eq_getElem hk]
   rfl
 · intro k w1 hk hI
   exact TI.step h hbw hI hk ht
 · rintro e w2 ⟨x, rfl, h1, h2⟩
   by_cases hx : x = 0
   · obtain ⟨q1, q2⟩ := (h1 hx).done
     rw [q1, hx]; exact ⟨rfl, q2⟩
   · obtain ⟨q1, q2⟩ := h2 hx
     rw [q1]; exact ⟨rfl, q2⟩
end
section
open Go.RowKit
attribute [local go_sem ↓] Go.wp_at_zero Go.wp_at_succ
theorem yieldsIf_load_sup {ops : Array Oper} {S : World → Prop} {op : Oper} {a : Act} (hw : Region.wanted op (yielded ops a.tmps) = true) (x : Operand) (ho : op.op = .load 39 x)
   (b : Nat) (hx : a.eval x = .pointer (some ⟨b, 0, none⟩)) (s : Sup) (hS : ∀ w, S w → w.heap[b]? = some (.cells (supC s) 39 (0, 0))) : YieldsIf Tryz.prog ops S op (.agg (supC s)) a :=
 yieldsIf_load_mid hw 39 x ho b 0 hx (supL s) _ (fun w h => rng (hS w h)) Tryz.underlying39 rfl (by rw [size_super]; rfl)
theorem slice_steps (f0 f1 f2 f3 : Fn) (x0 x1 x2 x3 c0 c1 c2 c3 : Array Value) (w : World) :
   (Instr.buildSlice 112 4 #[(0, .func f0 x0 c0), (1, .func f1 x1 c1), (2, .func f2 x2 c2), (3, .func f3 x3 c3)]).run Tryz.prog w = .ok (.slice (some ⟨w.heap.size, 0, none⟩) 4 4) (w.alloc (.cells #[.func f0 x0 c0, .func f1 x1 c1, .func f2 x2 c2, .func f3 x3 c3] 110)) := by
 kernel_rfl
theorem step_steps {w : World} {ops : Array Oper} {o : Oper} {a : Act} {K : Act → World → Prop} {Q : Exit → Act → World → Prop} {E : Prop} (hw : Region.wanted o (yielded ops a.tmps) = true) (y0 y1 y2 y3 : Operand) (ho : o.op = .buildSlice 112 4 #[(0, y0), (1, y1), (2, y2), (3, y3)])
   (f0 f1 f2 f3 : Fn) (x0 x1 x2 x3 c0 c1 c2 c3 : Array Value) (h0 : a.eval y0 = .func f0 x0 c0) (h1 : a.eval y1 = .func f1 x1 c1) (h2 : a.eval y2 = .func f2 x2 c2) (h3 : a.eval y3 = .func f3 x3 c3) (h : K (a.put o.dst (.slice (some ⟨w.heap.size, 0, none⟩) 4 4)) (w.alloc (.cells #[.func f0 x0 c0, .func f1 x1 c1, .func f2 x2 c2, .func f3 x3 c3] 110))) :
   if Region.wanted o (yielded ops a.tmps) = true then Oper.wp Tryz.prog o a w K Q else E := by
 rw [if_pos hw]
 unfold Oper.wp execOp
 simp only [ho, List.map_toArray, List.map_cons, List.map_nil, h0, h1, h2, h3, Sem.run_bind, slice_steps, Result.andThen_ok, Sem.run_pure]
 exact h
def fS (n : Nat) (wd g : Int) : Sup := ⟨wd, g, 2, 0, n⟩
theorem fS_valid {n : Nat} {wd g : Int} (h3 : 3 ≤ n) (h4 : n ≤ 4096) (hw : 1 ≤ wd ∧ wd ≤ 32) (hg : 0 ≤ g ∧ g ≤ 1) : validS (fS n wd g) = true := by
 rw [validS_iff]; simp only [fS]; exact ⟨hw.1, hw.2, hg.1, by omega, by omega, by omega, by omega, by omega, Or.inl trivial⟩
theorem Format_ok (w : World) (base : Nat) (F : List Nat) (p : Nat) (D : DS) (h : DA w base F p D) (hbw : base ≤ w.heap.size) (hpw : D.power = true) (hr : D.reads < 3999999999999999999) (hbud : Bud D 4) (wd : Int) (hwd : 1 ≤ wd ∧ wd ≤ 32) (s0 s1 : Sup) (hs0 : s0 = fS D.np wd 0) (hs1 : s1 = fS D.np wd 1) (hch : (chooseF (D.readOf 0) (D.readOf 1)).2 = 55) :
   Calls Tryz.prog 19 #[.pointer (some ⟨p, 0, none⟩), .int .i64 wd] w fun e w' => e = .returned (.int .i64 (runS { D with reads := D.reads + 2 } [.lay s0 0 0, .sync, .lay s1 0 0, .sync]).2) ∧ Nx base F p w (runS { D with reads := D.reads + 2 } [.lay s0 0 0, .sync, .lay s1 0 0, .sync]).1 w' := by
 have hnp := h.ok.np
 have hpx := Power_any w base F p D h
 rw [hpw] at hpx
 have HPW := hid hpx
 have HCH := hid (fchoose_any w base F p D h hpw hr)
 have HPG := hid (fun (w1 : World) (h1 : DA w1 base F p { D with reads := D.reads + 2 }) => Pages_any w1 base F p _ h1)
 have hv0 : validS s0 = true := by rw [hs0]; exact fS_valid hnp.1 hnp.2.1 hwd ⟨by omega, by omega⟩
 have hv1 : validS s1 = true := by rw [hs1]; exact fS_valid hnp.1 hnp.2.1 hwd ⟨by omega, by omega⟩
 have HS0 := hid hs0
 have HS1 := hid hs1
 have HNP := hid (show ((D.np : Nat) : Int) ≤ 4096 by omega)
 have hmf : ∀ (fn : Fn) (first cap : Array Value) (w : World), (Instr.makeFunc fn first cap).run Tryz.prog w = .ok (.func fn first cap) w := fun _ _ _ _ => rfl
 obtain ⟨i1, i2⟩ := hwd
 have HB := hid hbud
 have HCC := hid hch
 clear hnp hpx h hpw hr hs0 hs1 hbud hch
 go_enter Tryz.func19, Tryz.ntmps19
 go_wp2_with (first | (go_at_call 51; refine HPW.out.mono ?_; rintro e w0 ⟨rfl, rfl⟩))
 refine HCH.out.mono ?_
 rintro e w1 ⟨rfl, hD1, hF1⟩
 rw [HCC.out]
 generalize (chooseF (D.readOf 0) (D.readOf 1)).1 = S at *
 have HD1 := hid hD1
 have HF1 := hid hF1
 clear hD1 hF1 HCH HPW HCC
 go_wp2_with (first
   | (refine wpList_store_row (by rfl) 39 (.tmp 5) (.tmp 23) (by rfl) w1.heap.size (supC S) (by rfl) (by rfl) 39 _ (by exact hnew _ _) (supN S) (supZ S) (supO S) ?_; rw [setRow_alloc]; generalize hw2 : w1.alloc (.cells (supC S) 39) = w2 at *))
 have B2 : Below w1.heap.size w1 w2 := hw2 ▸ below_new _ _
 have D2 := HD1.out.below B2
 have HF2 := hid (HF1.out.tail (F' := F) B2)
 have HD2 := hid D2
 refine (HPG.out w2 D2).mono ?_
 rintro e w3 ⟨rfl, rfl⟩
 rw [show ({ D with reads := D.reads + 2 } : DS).np = D.np from rfl]
 have K0 : (#[.int .i64 wd, .int .i64 0, .int .i64 2, .int .i64 0, .int .i64 (D.np : Int)] : Array Value) = supC s0 := by rw [HS0.out]; rfl
 have HK0 := hid K0
 have HK1 := hid (show ∀ (w : World) (g : Nat), w.heap[g]? = some (.cells (supC s0) 39 (0, 0)) → (w.setCell ⟨g, 1, none⟩ (.int .i64 1)).heap[g]? = some (.cells (supC s1) 39 (0, 0)) from fun w g hg => by
   rw [heap_setCell_same _ _ _ _ _ _ hg, HS0.out, HS1.out]; rfl)
 generalize D.np = np at *
 clear D2 B2 HD1 HF1 HPG HS0 HS1 K0
 go_wp2_with (first
   | (refine wpList_store_row (by rfl) 39 (.tmp 7) (.tmp 30) (by rfl) w2.heap.size (supC s0) (by rfl) (by exact congrArg Value.agg HK0.out) 39 _ (by exact hnew _ _) (supN s0) (supZ s0) (supO s0) ?_; rw [setRow_alloc]; have r7 := hnew w2 (.cells (supC s0) 39); have b4 := below_new w2 (.cells (supC s0) 39); generalize hw4 : w2.alloc (.cells (supC s0) 39) = w4 at *; generalize hG7 : w2.heap.size = G7 at *)
   | (refine wpList_load_row_w (by rfl) 39 (.tmp 7) (by rfl) G7 (by rfl) 39 (supC s0) (0, 0) _ (by exact r7) Tryz.underlying39 rfl (supN s0) ?_)
   | (refine wpList_store_row (by rfl) 39 (.tmp 8) (.tmp 31) (by rfl) w4.heap.size (supC s0) (by rfl) (by rfl) 39 _ (by exact hnew _ _) (supN s0) (supZ s0) (supO s0) ?_; rw [setRow_alloc]; have r8 := hnew w4 (.cells (supC s0) 39); have b5 := below_new w4 (.cells (supC s0) 39); generalize hw5 : w4.alloc (.cells (supC s0) 39) = w5 at *; generalize hG8 : w4.heap.size = G8 at *; have c8 := cell_sup1 r8; have f8 := frozen_of_row _ _ 1 _ _ r8))
 generalize hw6 : w5.setCell ⟨G8, 1, none⟩ (.int .i64 1) = w6 at *
 have r8 : Hid (w6.heap[G8]? = some (.cells (supC s1) 39 (0, 0))) := hid (by rw [← hw6]; exact HK1.out w5 G8 r8)
 have hlt8 : G7 < G8 := by have := hlt_ r7; omega
 have r7 : Hid (w6.heap[G7]? = some (.cells (supC s0) 39 (0, 0))) := hid (by rw [← hw6, heap_setCell_other _ ⟨G8, 1, none⟩ _ _ (by show G7 ≠ G8; omega)]; exact (b5.block G7 (by omega)).trans r7)
 have B6 : Below w2.heap.size w2 w6 := by
   rw [← hw6, hG7]
   exact (b4.trans (b5.mono (by omega))).setCell (p := ⟨G8, 1, none⟩) (show G7 ≤ G8 by omega) _
 have D6 := HD2.out.below B6
 have F6 := HF2.out.tail (F' := F) B6
 have HT := hid (fun (wA wB : World) (a0 b0 a1 b1 : Nat) (hA : Below w6.heap.size w6 wA) (hB : Below wA.heap.size wA wB) (x1 : wA.heap[a0]? = some (.cells #[.pointer (some ⟨p, 0, none⟩)] 60 (0, 0))) (x2 : wA.heap[b0]? = some (.cells (supC s0) 39 (0, 0))) (x3 : wB.heap[a1]? = some (.cells #[.pointer (some ⟨p, 0, none⟩)] 60 (0, 0))) (x4 : wB.heap[b1]? = some (.cells (supC s1) 39 (0, 0))) =>
   (show Calls Tryz.prog 54 #[.slice (some ⟨wB.heap.size, 0, none⟩) 4 4] (wB.alloc (.cells #[.func (.func 93) #[] #[.pointer (some ⟨b0, 0, none⟩), .pointer (some ⟨a0, 0, none⟩)], .func (.func 56) #[.pointer (some ⟨p, 0, none⟩)] #[], .func (.func 93) #[] #[.pointer (some ⟨b1, 0, none⟩), .pointer (some ⟨a1, 0, none⟩)], .func (.func 56) #[.pointer (some ⟨p, 0, none⟩)] #[]] 110)) fun e w' => e = .returned (.int .i64 (runS { D with reads := D.reads + 2 } [.lay s0 0 0, .sync, .lay s1 0 0, .sync]).2) ∧ Nx base F p w (runS { D with reads := D.reads + 2 } [.lay s0 0 0, .sync, .lay s1 0 0, .sync]).1 w' ∧ w'.heap[G7]? = some (.cells (supC s0) 39 (0, 0)) ∧ w'.heap[G8]? = some (.cells (supC s1) 39 (0, 0)) from by
     have hx := below_new wB (.cells #[.func (.func 93) #[] #[.pointer (some ⟨b0, 0, none⟩), .pointer (some ⟨a0, 0, none⟩)], .func (.func 56) #[.pointer (some ⟨p, 0, none⟩)] #[], .func (.func 93) #[] #[.pointer (some ⟨b1, 0, none⟩), .pointer (some ⟨a1, 0, none⟩)], .func (.func 56) #[.pointer (some ⟨p, 0, none⟩)] #[]] 110)
     have hAX : Below w6.heap.size w6 (wB.alloc (.cells #[.func (.func 93) #[] #[.pointer (some ⟨b0, 0, none⟩), .pointer (some ⟨a0, 0, none⟩)], .func (.func 56) #[.pointer (some ⟨p, 0, none⟩)] #[], .func (.func 93) #[] #[.pointer (some ⟨b1, 0, none⟩), .pointer (some ⟨a1, 0, none⟩)], .func (.func 56) #[.pointer (some ⟨p, 0, none⟩)] #[]] 110)) := hA.trans ((hB.trans (hx.mono hB.size)).mono hA.size)
     have hDX := D6.below hAX
     have hFX := F6.tail (F' := F) hAX
     have y7 := (hAX.block G7 (hlt_ r7.out)).trans r7.out
     have y8 := (hAX.block G8 (hlt_ r8.out)).trans r8.out
     refine (turn_any _ base F p { D with reads := D.reads + 2 } hDX (Nat.le_trans hbw hFX.size) [.lay s0 a0 b0, .sync, .lay s1 a1 b1, .sync] (by simp) ⟨HB.out.pw, HB.out.ops, HB.out.writes, HB.out.syncs⟩ ?_ wB.heap.size (hnew _ _)).mono ?_
     · intro x hx'
       simp only [List.mem_cons, List.mem_nil_iff, or_false] at hx'
       rcases hx' with rfl | rfl | rfl | rfl
       · exact ⟨hv0, hold ((hB.block a0 (hlt_ x1)).trans x1), hold ((hB.block b0 (hlt_ x2)).trans x2)⟩
       · trivial
       · exact ⟨hv1, hold x3, hold x4⟩
       · trivial
     · rintro e w' ⟨rfl, F', q1, q2, q3⟩
       exact ⟨rfl, Nx.seq hFX (Gr.refl _ _) ⟨F', q1, q2, q3⟩, q2.keep y7 (hDX.not_in y7 (by decide) (by decide) (by decide)), q2.keep y8 (hDX.not_in y8 (by decide) (by decide) (by decide))⟩))
 clear D6 F6 B6 b4 b5 HB HF2 HD2 HK0 HK1 c8 f8 hbw hv0 hv1 HNP
 refine rgA (fun w' => w'.heap[G7]? = some (.cells (supC s0) 39 (0, 0)) ∧ w'.heap[G8]? = some (.cells (supC s1) 39 (0, 0))) ⟨r7.out, r8.out⟩ (fun hq0 => ?_)
 refine tkA 0 (.pointer (some ⟨p, 0, none⟩)) rfl hq0 ?_
 go_frame
 refine tqA 1 (.agg (supC s0)) rfl (yieldsIf_load_sup (by rfl) (.tmp 7) rfl G7 rfl s0 (fun w1 hS => hS.1)) hq0 ?_
 go_frame
 refine tkA 3 (.pointer (some ⟨p, 0, none⟩)) rfl hq0 ?_
 go_frame
 refine tkA 5 (.pointer (some ⟨p, 0, none⟩)) rfl hq0 ?_
 go_frame
 refine tqA 6 (.agg (supC s1)) rfl (yieldsIf_load_sup (by rfl) (.tmp 8) rfl G8 rfl s1 (fun w1 hS => hS.2)) hq0 ?_
 go_frame
 refine tkA 8 (.pointer (some ⟨p, 0, none⟩)) rfl hq0 ?_
 go_frame
 refine tkA 4 (.func (.func 56) #[.pointer (some ⟨p, 0, none⟩)] #[]) rfl hq0 ?_
 go_frame
 refine tkA 9 (.func (.func 56) #[.pointer (some ⟨p, 0, none⟩)] #[]) rfl hq0 ?_
 go_frame
 refine rdA 2 rfl (fun K hK => ?_)
 go_simp
 go_at_call 55
 refine (laying_any _ p s0).mono ?_
 rintro e wA ⟨a0, b0, rfl, ha0, hb0, na0, nb0, hBA⟩
 have HA0 := hid ha0
 have HB0 := hid hb0
 have HBA := hid (⟨hBA.os, hBA.tape, hBA.output, hBA.size, hBA.block⟩ : Below w6.heap.size w6 wA)
 go_wp2_with fail
 refine hK.out _ _ (⟨(hBA.block G7 (hlt_ hq0.1)).trans hq0.1, (hBA.block G8 (hlt_ hq0.2)).trans hq0.2⟩) ?_
 clear hK K hq0
 intro hq0
 clear ha0 hb0 hBA
 try go_frame
 refine rdA 7 rfl (fun K hK => ?_)
 go_simp
 go_at_call 55
 refine (laying_any _ p s1).mono ?_
 rintro e wB ⟨a1, b1, rfl, ha1, hb1, na1, nb1, hBB⟩
 have HA1 := hid ha1
 have HB1 := hid hb1
 have HBB := hid hBB
 go_wp2_with fail
 refine hK.out _ _ (⟨(hBB.block G7 (hlt_ hq0.1)).trans hq0.1, (hBB.block G8 (hlt_ hq0.2)).trans hq0.2⟩) ?_
 clear hK K hq0
 intro hq0
 clear ha1 hb1 hBB
 try go_frame
 refine rdA 10 rfl (fun K hK => ?_)
 refine step_steps (by rfl) (.tmp 35) (.tmp 37) (.tmp 40) (.tmp 42) rfl _ _ _ _ _ _ _ _ _ _ _ _ rfl rfl rfl rfl ?_
 refine hK.out _ _ (⟨hold hq0.1, hold hq0.2⟩) ?_
 clear hK K hq0
 intro hq0
 try go_frame
 refine rdA 11 rfl (fun K hK => ?_)
 go_simp
 go_at_call 54
 refine (HT.out wA wB a0 b0 a1 b1 HBA.out HBB.out HA0.out HB0.out HA1.out HB1.out).mono ?_
 rintro e wE ⟨rfl, hN, k7, k8⟩
 go_wp2_with fail
 refine hK.out _ _ (⟨k7, k8⟩) ?_
 clear hK K hq0
 intro hq0
 try go_frame
 refine tkA 12 ((.int .i64 (runS { D with reads := D.reads + 2 } [.lay s0 0 0, .sync, .lay s1 0 0, .sync]).2)) rfl hq0 ?_
 go_frame
 refine wdA ?_
 go_wp2
 go_ret
 exact ⟨rfl, hN⟩
end
end Go.Proofs.YtjhocjjecfdphaaGreatDoor
