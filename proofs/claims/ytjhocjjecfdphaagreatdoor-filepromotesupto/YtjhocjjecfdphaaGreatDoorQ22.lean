import Derived.Test.YtjhocjjecfdphaaGreatDoorQ21
namespace Go.Proofs.YtjhocjjecfdphaaGreatDoor
set_option linter.unusedVariables false
set_option linter.unusedSimpArgs false
set_option maxRecDepth 100000
set_option maxHeartbeats 4000000
section
open Go.RowKit
attribute [local go_sem ↓] Go.wp_at_zero Go.wp_at_succ
def wroteN : List Ev → Nat := fun l => l.foldl (fun n e => match e with | .wrote _ _ => n + 1 | .synced => n | .crashed _ => n | .flipped _ _ _ => n) 0
theorem wroteN_snoc (l : List Ev) (e : Ev) : wroteN (l ++ [e]) = match e with | .wrote _ _ => wroteN l + 1 | .synced => wroteN l | .crashed _ => wroteN l | .flipped _ _ _ => wroteN l := by
 unfold wroteN; rw [List.foldl_append]; rfl
def syncN : List Ev → Nat := fun l => l.foldl (fun n e => match e with | .wrote _ _ => n | .synced => n + 1 | .crashed _ => n | .flipped _ _ _ => n) 0
theorem syncN_snoc (l : List Ev) (e : Ev) : syncN (l ++ [e]) = match e with | .wrote _ _ => syncN l | .synced => syncN l + 1 | .crashed _ => syncN l | .flipped _ _ _ => syncN l := by
 unfold syncN; rw [List.foldl_append]; rfl
theorem snocE {P : List Ev → Prop} (h0 : P []) (h1 : ∀ l e, P l → P (l ++ [e])) (l : List Ev) : P l := by
 generalize hn : l.length = n
 induction n generalizing l with
 | zero => obtain rfl := List.eq_nil_of_length_eq_zero hn; exact h0
 | succ n ih =>
   obtain ⟨k, e, rfl⟩ : ∃ k e, l = k ++ [e] := ⟨l.dropLast, l.getLast (by intro e; rw [e] at hn; simp at hn), (List.dropLast_concat_getLast _).symm⟩
   exact h1 k e (ih k (by simp at hn; exact hn))
theorem wroteN_le (l : List Ev) : wroteN l ≤ l.length := by
 refine snocE (P := fun l => wroteN l ≤ l.length) (Nat.le_refl _) (fun l e h => ?_) l
 rw [wroteN_snoc, List.length_append, List.length_singleton]
 cases e <;> simp only <;> omega
theorem syncN_le (l : List Ev) : syncN l ≤ l.length := by
 refine snocE (P := fun l => syncN l ≤ l.length) (Nat.le_refl _) (fun l e h => ?_) l
 rw [syncN_snoc, List.length_append, List.length_singleton]
 cases e <;> simp only <;> omega
structure DR (n m : Nat) (D : DS) (R : RF) : Prop where
 n3 : 3 ≤ n
 n4 : n ≤ 4096
 bl : R.base.length = 256 * n
 ev : ∀ e ∈ R.log, e.ok n
 ll : R.log.length ≤ m
 pl : play R.base R.log = (D.img, D.ops)
 ar : R.armed = D.armed
 dn : R.down = !D.power
 ag : R.ages = D.epoch
 sn : R.seen = D.reads
 wr : D.writes = wroteN R.log
 sy : D.syncs = syncN R.log
 rm : D.reads ≤ m
 em : D.epoch ≤ m
theorem DR.img {n m : Nat} {D : DS} {R : RF} (h : DR n m D R) : D.img.length = 256 * n ∧ ∀ o ∈ D.ops, OwOk n o := by
 have := play_ok h.bl R.log h.ev
 rw [h.pl] at this; exact this
theorem DR.np {n m : Nat} {D : DS} {R : RF} (h : DR n m D R) : D.np = n := by unfold DS.np; rw [h.img.1]; omega
theorem DR.ops {n m : Nat} {D : DS} {R : RF} (h : DR n m D R) : D.ops.length = openN R.log := by
 have := openN_play R.base R.log
 rw [h.pl] at this; exact this
theorem DR.rok {n m : Nat} {D : DS} {R : RF} (h : DR n m D R) (hd : DsOk D) (hm : m ≤ 400000000000) : RfOk n R :=
 ⟨h.n3, h.n4, h.bl, h.ev, Nat.le_trans h.ll hm, by rw [h.ar]; exact hd.armed, by rw [h.ag]; exact hd.epoch, by rw [h.sn]; exact hd.reads⟩
theorem DR.opm {n m : Nat} {D : DS} {R : RF} (h : DR n m D R) : D.ops.length ≤ m := by rw [h.ops]; exact Nat.le_trans (openN_le _) h.ll
theorem DR.wrm {n m : Nat} {D : DS} {R : RF} (h : DR n m D R) : D.writes ≤ m := by rw [h.wr]; have := wroteN_le R.log; have := h.ll; omega
theorem DR.sym {n m : Nat} {D : DS} {R : RF} (h : DR n m D R) : D.syncs ≤ m := by rw [h.sy]; have := syncN_le R.log; have := h.ll; omega
theorem DR.more {n m k : Nat} {D : DS} {R : RF} (h : DR n m D R) (hk : m ≤ k) : DR n k D R :=
 ⟨h.n3, h.n4, h.bl, h.ev, Nat.le_trans h.ll hk, h.pl, h.ar, h.dn, h.ag, h.sn, h.wr, h.sy, by have := h.rm; omega, by have := h.em; omega⟩
theorem DR.acted {n m : Nat} {D : DS} {R : RF} (h : DR n m D R) : DR n m D.acted R.acted := by
 unfold DS.acted RF.acted
 rw [h.ar]
 by_cases h0 : D.armed = 0
 · rw [if_pos h0, if_pos h0]; exact h
 · rw [if_neg h0, if_neg h0]
   by_cases h1 : D.armed = 1
   · rw [if_pos h1, if_pos h1]; exact ⟨h.n3, h.n4, h.bl, h.ev, h.ll, h.pl, rfl, rfl, h.ag, h.sn, h.wr, h.sy, h.rm, h.em⟩
   · rw [if_neg h1, if_neg h1]; exact ⟨h.n3, h.n4, h.bl, h.ev, h.ll, h.pl, rfl, h.dn, h.ag, h.sn, h.wr, h.sy, h.rm, h.em⟩
theorem ev_snoc {n : Nat} {l : List Ev} {e : Ev} (h : ∀ x ∈ l, x.ok n) (he : e.ok n) : ∀ x ∈ l ++ [e], x.ok n := fun x hx => by
 rcases List.mem_append.1 hx with q | q
 · exact h x q
 · rw [List.mem_singleton.1 q]; exact he
theorem DR.wrote {n m : Nat} {D : DS} {R : RF} (h : DR n m D R) (q : Nat) (data : List Int) (ho : OwOk n ⟨q, data⟩) : DR n (m + 1) (D.wr ⟨q, data⟩) (R.pushed (.wrote q data)).acted := by
 unfold DS.wr
 refine DR.acted (m := m + 1) ⟨h.n3, h.n4, h.bl, ev_snoc h.ev ho, ?_, ?_, h.ar, h.dn, h.ag, h.sn, ?_, ?_, ?_, ?_⟩
 · show (R.log ++ [_]).length ≤ _; rw [List.length_append]; have := h.ll; simp; omega
 · show play R.base (R.log ++ [_]) = _; rw [play_snoc, h.pl]; rfl
 · show D.writes + 1 = _; rw [h.wr]; show _ = ((wroteN (R.log ++ [_]) : Nat) : Int); rw [wroteN_snoc]; simp
 · show D.syncs = _; rw [h.sy]; show _ = ((syncN (R.log ++ [_]) : Nat) : Int); rw [syncN_snoc]
 · have := h.rm; show D.reads ≤ _; omega
 · have := h.em; show D.epoch ≤ _; omega
theorem DR.synced {n m : Nat} {D : DS} {R : RF} (h : DR n m D R) : DR n (m + 1) D.synced (R.acted.pushed .synced) := by
 have g := h.acted
 have hl : D.acted.img = D.img ∧ D.acted.ops = D.ops ∧ D.acted.syncs = D.syncs := by unfold DS.acted; split; exact ⟨rfl, rfl, rfl⟩; split <;> exact ⟨rfl, rfl, rfl⟩
 unfold DS.synced
 refine ⟨g.n3, g.n4, g.bl, ev_snoc g.ev trivial, ?_, ?_, g.ar, g.dn, g.ag, g.sn, ?_, ?_, ?_, ?_⟩
 · show (R.acted.log ++ [_]).length ≤ _; rw [List.length_append]; have := g.ll; simp; omega
 · show play R.acted.base (R.acted.log ++ [_]) = _; rw [play_snoc, g.pl, hl.1, hl.2.1]; rfl
 · show D.acted.writes = _; rw [g.wr]; show _ = ((wroteN (R.acted.log ++ [_]) : Nat) : Int); rw [wroteN_snoc]
 · show D.syncs + 1 = _; rw [← hl.2.2, g.sy]; show _ = ((syncN (R.acted.log ++ [_]) : Nat) : Int); rw [syncN_snoc]; simp
 · have := g.rm; show D.acted.reads ≤ _; omega
 · have := g.em; show D.acted.epoch ≤ _; omega
theorem DR.crashed {n m : Nat} {D : DS} {R : RF} (h : DR n m D R) (fs : List Int) (hf : Bts fs) : DR n (m + 1) (D.crashed fs) (R.crashed fs) := by
 refine ⟨h.n3, h.n4, h.bl, ev_snoc h.ev hf, ?_, ?_, rfl, rfl, ?_, h.sn, ?_, ?_, ?_, ?_⟩
 · show (R.log ++ [_]).length ≤ _; rw [List.length_append]; have := h.ll; simp; omega
 · show play R.base (R.log ++ [_]) = _; rw [play_snoc, h.pl]; rfl
 · show R.ages + 1 = D.epoch + 1; rw [h.ag]
 · show D.writes = _; rw [h.wr]; show _ = ((wroteN (R.log ++ [_]) : Nat) : Int); rw [wroteN_snoc]
 · show D.syncs = _; rw [h.sy]; show _ = ((syncN (R.log ++ [_]) : Nat) : Int); rw [syncN_snoc]
 · have := h.rm; show D.reads ≤ _; omega
 · have := h.em; show D.epoch + 1 ≤ _; omega
theorem DR.flipped {n m : Nat} {D : DS} {R : RF} (h : DR n m D R) (q bit pat : Nat) (hq : q < n) (hb : bit < 2048) (hp : pat < 4294967296) : DR n (m + 1) (D.flipped q bit pat) (R.pushed (.flipped q bit pat)) := by
 refine ⟨h.n3, h.n4, h.bl, ev_snoc h.ev ⟨hq, hb, hp⟩, ?_, ?_, h.ar, h.dn, h.ag, h.sn, ?_, ?_, ?_, ?_⟩
 · show (R.log ++ [_]).length ≤ _; rw [List.length_append]; have := h.ll; simp; omega
 · show play R.base (R.log ++ [_]) = _; rw [play_snoc, h.pl]; rfl
 · show D.writes = _; rw [h.wr]; show _ = ((wroteN (R.log ++ [_]) : Nat) : Int); rw [wroteN_snoc]
 · show D.syncs = _; rw [h.sy]; show _ = ((syncN (R.log ++ [_]) : Nat) : Int); rw [syncN_snoc]
 · have := h.rm; show D.reads ≤ _; omega
 · have := h.em; show D.epoch ≤ _; omega
theorem DR.arm {n m : Nat} {D : DS} {R : RF} (h : DR n m D R) (k : Int) : DR n m (D.arm k) (R.arm k) := by
 by_cases hp : D.power = true
 · have hd : R.down = false := by rw [h.dn, hp]; rfl
   rw [show D.arm k = { D with armed := max k 0 } by simp [DS.arm, hp], show R.arm k = { R with armed := max k 0 } by simp [RF.arm, hd]]
   exact ⟨h.n3, h.n4, h.bl, h.ev, h.ll, h.pl, rfl, h.dn, h.ag, h.sn, h.wr, h.sy, h.rm, h.em⟩
 · have hp' : D.power = false := by simpa using hp
   have hd : R.down = true := by rw [h.dn, hp']; rfl
   rw [show D.arm k = D by simp [DS.arm, hp'], show R.arm k = R by simp [RF.arm, hd]]
   exact h
theorem DR.claim {n m : Nat} {D : DS} {R : RF} (h : DR n m D R) : DR n (m + 1) { D with epoch := D.epoch + 1 } { R with ages := R.ages + 1 } :=
 ⟨h.n3, h.n4, h.bl, h.ev, by have := h.ll; show R.log.length ≤ _; omega, h.pl, h.ar, h.dn, by show R.ages + 1 = D.epoch + 1; rw [h.ag], h.sn, h.wr, h.sy, by have := h.rm; show D.reads ≤ _; omega, by have := h.em; show D.epoch + 1 ≤ _; omega⟩
theorem DR.read {n m : Nat} {D : DS} {R : RF} (h : DR n m D R) : DR n (m + 1) { D with reads := D.reads + 1 } { R with seen := R.seen + 1 } :=
 ⟨h.n3, h.n4, h.bl, h.ev, by have := h.ll; show R.log.length ≤ _; omega, h.pl, h.ar, h.dn, h.ag, by show R.seen + 1 = D.reads + 1; rw [h.sn], h.wr, h.sy, by have := h.rm; show D.reads + 1 ≤ _; omega, by have := h.em; show D.epoch ≤ _; omega⟩
theorem DR.new {b : List Int} {n : Nat} (h3 : 3 ≤ n) (h4 : n ≤ 4096) (hl : b.length = 256 * n) (m : Nat) : DR n m (newD b) (newR b) :=
 ⟨h3, h4, hl, (fun e he => by cases he), Nat.zero_le _, rfl, rfl, rfl, rfl, rfl, rfl, rfl, by show (0 : Int) ≤ _; omega, by show (0 : Int) ≤ _; omega⟩
def RD (w : World) (base : Nat) (F : List Nat) (p m : Nat) (D : DS) : Prop := ∃ Q R, Q.p = p ∧ Q.fp = F ∧ RK w base Q R ∧ DR D.np m D R ∧ DsOk D
def RX (base : Nat) (F : List Nat) (p : Nat) (w : World) (m : Nat) (D' : DS) (w' : World) : Prop := ∃ F', RD w' base F' p m D' ∧ Fr F w w' ∧ Gr w F F'
theorem RD.lt {w : World} {base : Nat} {F : List Nat} {p m : Nat} {D : DS} (h : RD w base F p m D) : ∀ k ∈ F, base ≤ k ∧ k < w.heap.size := by
 obtain ⟨Q, R, rfl, rfl, h, _⟩ := h; exact h.lt
theorem RD.ok {w : World} {base : Nat} {F : List Nat} {p m : Nat} {D : DS} (h : RD w base F p m D) : DsOk D := by
 obtain ⟨Q, R, _, _, _, _, k⟩ := h; exact k
theorem RD.of_heap {w w1 : World} {base : Nat} {F : List Nat} {p m : Nat} {D : DS} (h : RD w base F p m D) (hk : ∀ k ∈ F, w1.heap[k]? = w.heap[k]?) : RD w1 base F p m D := by
 obtain ⟨Q, R, e1, rfl, h, k⟩ := h; exact ⟨Q, R, e1, rfl, h.of_heap hk, k⟩
theorem RD.below {w w1 : World} {base : Nat} {F : List Nat} {p m : Nat} {D : DS} (h : RD w base F p m D) (hb : Below w.heap.size w w1) : RD w1 base F p m D := h.of_heap fun k hk => hb.block k (h.lt k hk).2
theorem RD.more {w : World} {base : Nat} {F : List Nat} {p m k : Nat} {D : DS} (h : RD w base F p m D) (hk : m ≤ k) : RD w base F p k D := by
 obtain ⟨Q, R, e1, e2, h, hd, ho⟩ := h; exact ⟨Q, R, e1, e2, h, hd.more hk, ho⟩
theorem RD.lens {w : World} {base : Nat} {Q : RQ} {R : RF} {n m : Nat} {D : DS} (h : RK w base Q R) (hd : DR n m D R) : Q.es.length ≤ m := by
 have := hd.ll; rw [h.ln, List.length_map] at this; exact this
theorem rRead_off (w : World) (base : Nat) (Q : RQ) (R : RF) (h : RK w base Q R) (hd : R.down = true) (q : Int) :
   Calls Tryz.prog 50 #[.pointer (some ⟨Q.p, 0, none⟩), .int .i64 q] w fun e w' => e = .returned (.tuple #[.slice none 0 0, .int .i64 2]) ∧ w = w' := by
 have c := h.c3
 rw [hd] at c
 go_enter Tryz.func50, Tryz.ntmps50
 go_wp2
 go_ret2
 exact ⟨rfl, rfl⟩
theorem rRead_no (w : World) (base : Nat) (Q : RQ) (R : RF) (h : RK w base Q R) (hd : R.down = false) (n : Nat) (h3 : 3 ≤ n) (h4 : n ≤ 4096) (hl : R.base.length = 256 * n) (q : Int) (hq : q < 0 ∨ (n : Int) ≤ q) :
   Calls Tryz.prog 50 #[.pointer (some ⟨Q.p, 0, none⟩), .int .i64 q] w fun e w' => e = .returned (.tuple #[.slice none 0 0, .int .i64 41]) ∧ w = w' := by
 have c := h.c3
 rw [hd] at c
 have KP := hid (rPages_in w base Q R h n h3 h4 hl)
 by_cases c1 : q < 0
 · clear hq
   go_enter Tryz.func50, Tryz.ntmps50
   go_wp2
   go_ret2
   exact ⟨rfl, rfl⟩
 · have c2 : (n : Int) ≤ q := by omega
   clear hq
   go_enter Tryz.func50, Tryz.ntmps50
   go_wp2_with (first | (go_at_call 33; refine KP.out.mono ?_; rintro e w0 ⟨rfl, rfl⟩))
   go_ret2
   exact ⟨rfl, rfl⟩
theorem rRead_in (w : World) (base : Nat) (hbw : base ≤ w.heap.size) (Q : RQ) (R : RF) (h : RK w base Q R) (hd : R.down = false) (n : Nat) (hok : RfOk n R) (hs : R.seen < 4000000000000000000) (q : Nat) (hq : q < n) (D : DS) (hD : play R.base R.log = (D.img, D.ops)) :
   Calls Tryz.prog 50 #[.pointer (some ⟨Q.p, 0, none⟩), .int .i64 q] w fun e w' => ∃ v, e = .returned (.tuple #[v, .int .i64 0]) ∧ Own w' w.heap.size v (D.readOf q) ∧ RK w' base Q { R with seen := R.seen + 1 } ∧ Fr Q.fp w w' := by
 have c := h.c3
 rw [hd] at c
 have c5 := h.c5
 have f5 := h.fz 5
 have i1 : (q : Int) < (n : Int) := by omega
 have i4 : (n : Int) ≤ 4096 := by have := hok.n4; omega
 have KP := hid (rPages_in w base Q R h n hok.n3 hok.n4 hok.bl)
 have hq5 := h.put (R' := { R with seen := R.seen + 1 }) 5 (.int .i64 (R.seen + 1)) rfl rfl rfl
 have s0 := hok.seen.1
 have HKP := hid (rpage_in _ base (by rw [World.size_setCell]; exact hbw) Q _ hq5 n (⟨hok.n3, hok.n4, hok.bl, hok.ev, hok.ll, hok.armed, hok.ages, by show 0 ≤ R.seen + 1 ∧ R.seen + 1 ≤ _; omega⟩ : RfOk n { R with seen := R.seen + 1 }) q hq D hD)
 have HQ5 := hid hq5
 have hpp := h.hp
 clear h hok hq5 hD
 generalize R.seen = sn at *
 go_enter Tryz.func50, Tryz.ntmps50
 go_wp2_with (first | (go_at_call 33; refine KP.out.mono ?_; rintro e w0 ⟨rfl, rfl⟩) | (go_at_call 90; refine HKP.out.mono ?_; rintro e w2 ⟨v1, v2, rfl, hO1, hO2, hB2⟩; obtain ⟨s1, c1, hv1, _, _⟩ := hO1.form; obtain ⟨s2, c2, hv2, _, _⟩ := hO2.form; have HO2 := hid hO2; have HB2 := hid hB2; subst hv1 hv2; clear hO1 hO2 hB2))
 go_ret2
 exact ⟨_, rfl, by have := HO2.out; rw [World.size_setCell] at this; exact this, HQ5.out.below HB2.out, ((Fr.refl _ w).setCell hpp _ _).tail (F' := Q.fp) HB2.out⟩
theorem take_pg {img : List Int} {k : Nat} : img.take (256 * k) ++ pgI img k = img.take (256 * (k + 1)) := by
 unfold pgI
 rw [Nat.mul_comm k 256, show 256 * (k + 1) = 256 * k + 256 by omega, List.take_add]
theorem rImage_in (w : World) (base : Nat) (hbw : base ≤ w.heap.size) (Q : RQ) (R : RF) (h : RK w base Q R) (n : Nat) (hok : RfOk n R) (D : DS) (hD : play R.base R.log = (D.img, D.ops)) :
   Calls Tryz.prog 43 #[.pointer (some ⟨Q.p, 0, none⟩)] w fun e w' => ∃ v, e = .returned v ∧ Own w' w.heap.size v D.img ∧ Below w.heap.size w w' := by
 have KP := hid (rPages_in w base Q R h n hok.n3 hok.n4 hok.bl)
 have HPG := hid (fun (wr : World) (hb : Below w.heap.size w wr) (k : Nat) (hk : k < n) => rpage_in wr base (Nat.le_trans hbw hb.size) Q R (h.below hb) n hok k hk D hD)
 have hil : D.img.length = 256 * n := by have := (play_ok hok.bl R.log hok.ev).1; rw [hD] at this; exact this
 have HIL := hid hil
 have HN4 := hid hok.n4
 have i4 : (n : Int) ≤ 4096 := by have := hok.n4; omega
 have HLE := hid (fun (k : Nat) (hk : k < n) => pgI_len hil hk)
 clear h hok hD hil
 go_enter Tryz.func43, Tryz.ntmps43
 go_wp2_with (first | (go_at_call 33; refine KP.out.mono ?_; rintro e w0 ⟨rfl, rfl⟩))
 go_loopw [3, 5] (fun lv iv wr => ∃ k : Nat, k ≤ n ∧ iv = .int .i64 k ∧ Own wr w.heap.size lv (D.img.take (256 * k)) ∧ Below w.heap.size w wr) (fun _ iv _ => n - (intOf iv).toNat)
 case atStart => exact ⟨0, by omega, rfl, Own.nil _ _, Below.refl _ _⟩
 case round =>
   obtain ⟨k, hk, rfl, hO, hB⟩ := hrel
   have HO := hid hO
   have HB := hid hB
   obtain ⟨sl, cl, hl, _, _⟩ := hO.form
   have hll : (D.img.take (256 * k)).length = 256 * k := by rw [List.length_take, HIL.out]; omega
   rw [hll] at hl
   subst hl
   clear hO hB
   by_cases hlk : k < n
   · have i1 : (k : Int) < (n : Int) := by omega
     have HK1 := hid (HPG.out wr HB.out k hlk)
     have HL1 := hid (HLE.out k hlk)
     have HLL := hid hll
     clear hll
     go_wp2_with (first
       | (go_at_call 90; refine HK1.out.mono ?_; rintro e w2 ⟨v1, v2, rfl, hO1, hO2, hB2⟩; have HO1 := hid hO1; have HB2 := hid hB2; obtain ⟨s1, c1, hv1, hS1, hn1⟩ := hO1.form; have HS1 := hid hS1; have HN1 := hid hn1; obtain ⟨s2, c2, hv2, _, _⟩ := hO2.form; subst hv1 hv2; clear hO1 hO2 hB2 hS1 hn1)
       | (at_builtin; refine wpList_append_wide rfl (.tmp 21) (.tmp 22) rfl w.heap.size (.slice sl (256 * k) cl) (D.img.take (256 * k)) (pgI D.img k) rfl (HO.out.below HB2.out (Nat.le_refl _)) s1 c1 rfl HN1.out HS1.out (by have := HL1.out; have := HLL.out; have := HN4.out; omega) (Nat.le_trans HB.out.size HB2.out.size) ?_; intro v3 w3 hO3 hg3 hd3; rw [take_pg] at hO3; have HO3 := hid hO3; have HG3 := hid hg3; obtain ⟨s3, c3, hv3, _, _⟩ := hO3.form; rw [show (D.img.take (256 * (k + 1))).length = 256 * (k + 1) by rw [List.length_take, HIL.out]; omega] at hv3; subst hv3; clear hO3 hg3 hd3))
     go_roundw
     case rel => exact ⟨k + 1, by omega, by go_num, HO3.out, (HB.out.trans (HB2.out.mono HB.out.size)).trans (grown_keeps HG3.out (fun x e => ((HO.out.below HB2.out (Nat.le_refl _)).block x e).1) (Nat.le_trans HB.out.size HB2.out.size))⟩
     case measure => simp [intOf]; omega
   · obtain rfl : k = n := by omega
     have HE := hid (show D.img.take (256 * k) = D.img by rw [← HIL.out, List.take_length])
     rw [HE.out] at HO
     clear hlk
     go_wp2
     go_ret
     exact ⟨_, rfl, HO.out, HB.out⟩
theorem buildC (a b : Int) (w : World) : (Instr.build 41 #[(0, .int .i64 a), (3, .int .i64 b)]).run Tryz.prog w = .ok (.agg #[.int .i64 a, .int .i64 0, .int .i64 0, .int .i64 b]) w := by kernel_rfl
theorem run_allocC (a : Act) (o : Oper) (ho : o.op = .alloc 41) (w : World) : (execOp a.eval o).run Tryz.prog w = .ok (.value (.pointer (some ⟨w.heap.size, 0, none⟩))) (w.alloc (.cells #[.int .i64 0, .int .i64 0, .int .i64 0, .int .i64 0] 41)) := by
 unfold execOp
 simp only [ho]
 kernel_rfl
theorem step_allocC {ops : Array Oper} {o : Oper} {a : Act} {w : World} {K : Act → World → Prop} {Q : Exit → Act → World → Prop} {E : Prop} (hw : Region.wanted o (yielded ops a.tmps) = true) (ho : o.op = .alloc 41)
   (h : ∀ G w', w'.heap[G]? = some (.cells #[.int .i64 0, .int .i64 0, .int .i64 0, .int .i64 0] 41 (0, 0)) → Below w.heap.size w w' → w.heap.size ≤ G → K (a.put o.dst (.pointer (some ⟨G, 0, none⟩))) w') :
   if Region.wanted o (yielded ops a.tmps) = true then Oper.wp Tryz.prog o a w K Q else E := by
 rw [if_pos hw]
 unfold Oper.wp
 rw [run_allocC a o ho w]
 exact h _ _ (hnew w _) ((Below.refl _ w).alloc (Nat.le_refl _) _) (Nat.le_refl _)
theorem step_storeRowC {w : World} {ops : Array Oper} {o : Oper} {a : Act} {K : Act → World → Prop} {Q : Exit → Act → World → Prop} {E : Prop} (hgd : o.guard = none) (ty : TypeId) (x y : Operand) (ho : o.op = .store ty x y)
   (g : Nat) (cells : Array Value) (hx : a.eval x = .pointer (some ⟨g, 0, none⟩)) (hy : a.eval y = .agg cells)
   (t : TypeId) (old : Array Value) (hg : w.heap[g]? = some (.cells old t (0, 0))) (hi : (Tryz.prog.info? ty).map (·.size) = some cells.size)
   (hold : old.size = cells.size) (h1 : cells.all (·.oneCell') = true) (h : K (a.put o.dst undef) (w.setRow g cells)) :
   if Region.wanted o (yielded ops a.tmps) = true then Oper.wp Tryz.prog o a w K Q else E := by
 have hw : Region.wanted o (yielded ops a.tmps) = true := by simp [Region.wanted, hgd]
 rw [if_pos hw]
 exact wp_store_row ty x y ho g cells hx hy t old hg hi hold h1 h
theorem below_setRow {B : Nat} {a b : World} (h : Below B a b) {g : Nat} (hg : B ≤ g) (cs : Array Value) : Below B a (b.setRow g cs) :=
 ⟨h.os, h.tape, h.output, by rw [setRow_size]; exact h.size, fun k hk => (setRow_other b g k cs (by omega)).trans (h.block k hk)⟩
def cnt4 (a b c d : Int) : Array Value := #[.int .i64 a, .int .i64 b, .int .i64 c, .int .i64 d]
theorem cntO (a b c d : Int) : (cnt4 a b c d).all (·.oneCell') = true := by simp [cnt4, Value.oneCell']
theorem cnt_load {w : World} {g : Nat} {a b c d : Int} (h : w.heap[g]? = some (.cells (cnt4 a b c d) 41 (0, 0))) (j : Nat) : w.cell? ⟨g, j, none⟩ = (cnt4 a b c d)[j]? := cell_of_row _ _ _ _ _ _ h
theorem cnt_range {w : World} {g : Nat} {a b c d : Int} (h : w.heap[g]? = some (.cells (cnt4 a b c d) 41 (0, 0))) : w.rangeAt g 0 (cnt4 a b c d).toList := fun j v hv => by
 rw [Nat.zero_add, cell_of_row _ _ _ _ _ _ h, ← hv]; simp
theorem rCounts_in (w : World) (base : Nat) (Q : RQ) (R : RF) (h : RK w base Q R) (hll : Q.es.length ≤ 400000000000) :
   Calls Tryz.prog 45 #[.pointer (some ⟨Q.p, 0, none⟩)] w fun e w' => e = .returned (.agg #[.int .i64 R.seen, .int .i64 (wroteN R.log : Nat), .int .i64 (syncN R.log : Nat), .int .i64 (openN R.log : Nat)]) ∧ Below w.heap.size w w' := by
 have HK := hid h
 have HLL := hid hll
 have BC := hid buildC
 obtain ⟨lp, lc, hlv⟩ := ownsRow_form h.lg
 have HC1 := hid (fun (wr : World) (hb : Below w.heap.size w wr) => (h.below hb).c1)
 rw [hlv] at HC1
 have ill : (Q.es.length : Int) ≤ 400000000000 := by omega
 have HLN := hid (show R.log = (Q.es.take Q.es.length).map (·.1) by rw [List.take_length]; exact h.ln)
 have hb0 : Below w.heap.size w (w.alloc (.cells #[.int .i64 0, .int .i64 0, .int .i64 0, .int .i64 0] 41)) := (Below.refl _ w).alloc (Nat.le_refl _) _
 have HP2 := hid (hnew w (.cells #[.int .i64 0, .int .i64 0, .int .i64 0, .int .i64 0] 41))
 have HB0 := hid hb0
 clear h hb0 hll
 go_enter Tryz.func45, Tryz.ntmps45
 go_wp2
 generalize w.alloc (.cells #[.int .i64 0, .int .i64 0, .int .i64 0, .int .i64 0] 41) = w1 at *
 refine rgA (fun w' => Below w1.heap.size w1 w') (Below.refl _ _).drew (fun hq0 => ?_)
 refine tkA 0 (.pointer (some ⟨Q.p, 0, none⟩)) rfl hq0 ?_
 go_frame
 refine tkA 4 (.pointer (some ⟨Q.p, 0, none⟩)) rfl hq0 ?_
 go_frame
 refine tkA 1 (.pointer (some ⟨Q.p, 0, none⟩)) rfl hq0 ?_
 go_frame
 refine tkA 2 (.pointer (some ⟨Q.p, 5, none⟩)) rfl hq0 ?_
 go_frame
 refine tqA 3 (.int .i64 R.seen) rfl (yA (by intro w hS; have hc := (HK.out.below (HB0.out.trans (hS.mono HB0.out.size))).c5; go_simp)) hq0 ?_
 go_frame
 refine wpAnyH_ready (rs := [5, 7]) (by kernel_rfl) (by simp) ?_
 refine (consA rfl (fun K hK => ?_) (consA rfl (fun K hK => ?_) AllReadyH.nil))
 · skip
   go_simp
   go_at_call 91
   refine (rOpen_in _ base Q R (HK.out.below (HB0.out.trans (hq0.mono HB0.out.size))) HLL.out).mono ?_
   rintro e w4 ⟨rfl, rfl⟩
   go_wp2_with fail
   refine hK.out _ _ (hq0) ?_
   clear hK K hq0
   intro hq0
   try go_frame
   refine tqA 6 (.agg #[.int .i64 R.seen, .int .i64 0, .int .i64 0, .int .i64 (openN R.log : Nat)]) rfl (yA (by intro w hS; (have hb := BC.out; go_simp))) hq0 ?_
   go_frame
   refine rdA 7 rfl (fun K hK => ?_)
   refine step_allocC (by rfl) (by rfl) ?_
   intro G3 w5 r3 b3 lo3
   have hH2 := hq0.trans (b3.mono hq0.size)
   have LO3 := hid (Nat.le_trans hq0.size lo3)
   clear b3 lo3
   refine hK.out _ _ (hH2) ?_
   clear hK K hq0
   intro hq0
   try go_frame
   refine rdA 8 rfl (fun K hK => ?_)
   refine step_storeRowC rfl 41 (.tmp 3) (.tmp 11) rfl G3 #[.int .i64 R.seen, .int .i64 0, .int .i64 0, .int .i64 (openN R.log : Nat)] rfl rfl 41 #[.int .i64 0, .int .i64 0, .int .i64 0, .int .i64 0] r3 (by kernel_rfl) rfl (cntO _ _ _ _) ?_
   have R3 := hid (setRow_heap _ G3 _ #[.int .i64 R.seen, .int .i64 0, .int .i64 0, .int .i64 (openN R.log : Nat)] _ _ r3)
   have hH3 := below_setRow hq0 LO3.out #[.int .i64 R.seen, .int .i64 0, .int .i64 0, .int .i64 (openN R.log : Nat)]
   refine hK.out _ _ (hH3) ?_
   clear hK K hq0
   intro hq0
   try go_frame
   refine wdA ?_
   have H3 := R3
   change Hid (_ = some (Obj.cells (cnt4 R.seen 0 0 (openN R.log : Nat)) 41 (0, 0))) at H3
   have HB6 := hid hq0
   clear hq0 r3 R3 hH2
   go_wp2
   go_loopw [4] (fun iv wr => ∃ i : Nat, i ≤ Q.es.length ∧ iv = .int .i64 i ∧ wr.heap[G3]? = some (.cells (cnt4 R.seen (wroteN ((Q.es.take i).map (·.1)) : Nat) (syncN ((Q.es.take i).map (·.1)) : Nat) (openN R.log : Nat)) 41 (0, 0)) ∧ Below w1.heap.size w1 wr) (fun iv _ => Q.es.length - (intOf iv).toNat)
   case atStart => exact ⟨0, by omega, rfl, H3.out, HB6.out⟩
   case round =>
     obtain ⟨i, hi, rfl, hR, hB⟩ := hrel
     have HB := hid hB
     have HR := hid hR
     have hbw := HB0.out.trans (hB.mono HB0.out.size)
     have c1 := HC1.out wr hbw
     by_cases hlq : i < Q.es.length
     · have i1 : (i : Int) < (Q.es.length : Int) := by omega
       obtain ⟨g, cap, e1, hg, hc, hm, hr, _⟩ := (HK.out.below hbw).at i hlq
       rw [hlv] at e1
       simp only [Value.slice.injEq] at e1
       obtain ⟨hlp, _, hlc⟩ := e1
       subst hlp
       have ck : wr.cell? ⟨g, i * 5, none⟩ = some (.int .i64 Q.es[i].1.kind) := by
         have := hr 0 _ rfl; rwa [Nat.add_zero] at this
       have hn1 := wroteN_le ((Q.es.take i).map (·.1))
       have hn2 := syncN_le ((Q.es.take i).map (·.1))
       rw [List.length_map, List.length_take] at hn1 hn2
       have HS := hid (take_snocE Q.es i hlq)
       have HN1 := hid (wroteN_snoc ((Q.es.take i).map (·.1)) Q.es[i].1)
       have HN2 := hid (syncN_snoc ((Q.es.take i).map (·.1)) Q.es[i].1)
       have in1 : (wroteN ((Q.es.take i).map (·.1)) : Int) ≤ 400000000000 := by omega
       have in2 : (syncN ((Q.es.take i).map (·.1)) : Int) ≤ 400000000000 := by omega
       have k1 := cnt_load hR 1
       have k2 := cnt_load hR 2
       have fz1 := frozen_of_row _ _ 1 _ _ hR
       have fz2 := frozen_of_row _ _ 2 _ _ hR
       have HT1 := hid (fun v : Value => heap_setCell_same _ G3 1 _ _ v hR)
       have HT2 := hid (fun v : Value => heap_setCell_same _ G3 2 _ _ v hR)
       generalize hE : Q.es[i].1 = ev at *
       generalize hO1 : wroteN ((Q.es.take i).map (·.1)) = on1 at *
       generalize hO2 : syncN ((Q.es.take i).map (·.1)) = on2 at *
       replace k1 : wr.cell? ⟨G3, 1, none⟩ = some (.int .i64 (on1 : Nat)) := k1
       replace k2 : wr.cell? ⟨G3, 2, none⟩ = some (.int .i64 (on2 : Nat)) := k2
       clear hr hn1 hn2 hE hO1 hO2 hR hB hbw
       cases ev with
       | wrote q d =>
         have ck : wr.cell? ⟨g, i * 5, none⟩ = some (.int .i64 1) := ck
         go_wp2
         go_roundw
         case rel => exact ⟨i + 1, by omega, by go_num, by rw [HT1.out, HS.out, HN1.out, HN2.out]; simp [cnt4], HB.out.setCell (p := ⟨G3, 1, none⟩) LO3.out _⟩
         case measure => simp [intOf]; omega
       | synced =>
         have ck : wr.cell? ⟨g, i * 5, none⟩ = some (.int .i64 2) := ck
         go_wp2
         go_roundw
         case rel => exact ⟨i + 1, by omega, by go_num, by rw [HT2.out, HS.out, HN1.out, HN2.out]; simp [cnt4], HB.out.setCell (p := ⟨G3, 2, none⟩) LO3.out _⟩
         case measure => simp [intOf]; omega
       | crashed fs =>
         have ck : wr.cell? ⟨g, i * 5, none⟩ = some (.int .i64 3) := ck
         go_wp2
         go_roundw
         case rel => exact ⟨i + 1, by omega, by go_num, by rw [HS.out, HN1.out, HN2.out]; exact HR.out, HB.out⟩
         case measure => simp [intOf]; omega
       | flipped q bit pat =>
         have ck : wr.cell? ⟨g, i * 5, none⟩ = some (.int .i64 4) := ck
         go_wp2
         go_roundw
         case rel => exact ⟨i + 1, by omega, by go_num, by rw [HS.out, HN1.out, HN2.out]; exact HR.out, HB.out⟩
         case measure => simp [intOf]; omega
     · obtain rfl : i = Q.es.length := by omega
       clear hlq hR hB
       rw [← HLN.out] at HR
       have HP3 := hid ((HB.out.block w.heap.size (hlt HP2.out)).trans HP2.out)
       go_wp2_with (first
         | (refine wpList_load_mid rfl 41 _ rfl G3 0 rfl (cnt4 R.seen (wroteN R.log : Nat) (syncN R.log : Nat) (openN R.log : Nat)).toList _ (cnt_range HR.out) Tryz.underlying41 rfl (by kernel_rfl) ?_)
         | (refine wpList_store_row rfl 41 _ _ rfl w.heap.size (cnt4 R.seen (wroteN R.log : Nat) (syncN R.log : Nat) (openN R.log : Nat)) rfl rfl 41 _ HP3.out (by kernel_rfl) rfl (cntO _ _ _ _) ?_))
       refine bodyPost_ret (results_c1 Tryz.results45 _ _ w.heap.size 41 _ _ _ rfl (setRow_heap _ _ _ _ _ _ HP3.out) Tryz.underlying41 rfl (by kernel_rfl)) rfl ?_
       exact ⟨rfl, below_setRow (HB0.out.trans (HB.out.mono HB0.out.size)) (Nat.le_refl _) _⟩
 · skip
   refine step_allocC (by rfl) (by rfl) ?_
   intro G3 w5 r3 b3 lo3
   have hH2 := hq0.trans (b3.mono hq0.size)
   have LO3 := hid (Nat.le_trans hq0.size lo3)
   clear b3 lo3
   refine hK.out _ _ (hH2) ?_
   clear hK K hq0
   intro hq0
   try go_frame
   refine rdA 5 rfl (fun K hK => ?_)
   go_simp
   go_at_call 91
   refine (rOpen_in _ base Q R (HK.out.below (HB0.out.trans (hq0.mono HB0.out.size))) HLL.out).mono ?_
   rintro e w4 ⟨rfl, rfl⟩
   go_wp2_with fail
   refine hK.out _ _ (hq0) ?_
   clear hK K hq0
   intro hq0
   try go_frame
   refine tqA 6 (.agg #[.int .i64 R.seen, .int .i64 0, .int .i64 0, .int .i64 (openN R.log : Nat)]) rfl (yA (by intro w hS; (have hb := BC.out; go_simp))) hq0 ?_
   go_frame
   refine rdA 8 rfl (fun K hK => ?_)
   refine step_storeRowC rfl 41 (.tmp 3) (.tmp 11) rfl G3 #[.int .i64 R.seen, .int .i64 0, .int .i64 0, .int .i64 (openN R.log : Nat)] rfl rfl 41 #[.int .i64 0, .int .i64 0, .int .i64 0, .int .i64 0] r3 (by kernel_rfl) rfl (cntO _ _ _ _) ?_
   have R3 := hid (setRow_heap _ G3 _ #[.int .i64 R.seen, .int .i64 0, .int .i64 0, .int .i64 (openN R.log : Nat)] _ _ r3)
   have hH3 := below_setRow hq0 LO3.out #[.int .i64 R.seen, .int .i64 0, .int .i64 0, .int .i64 (openN R.log : Nat)]
   refine hK.out _ _ (hH3) ?_
   clear hK K hq0
   intro hq0
   try go_frame
   refine wdA ?_
   have H3 := R3
   change Hid (_ = some (Obj.cells (cnt4 R.seen 0 0 (openN R.log : Nat)) 41 (0, 0))) at H3
   have HB6 := hid hq0
   clear hq0 r3 R3 hH2
   go_wp2
   go_loopw [4] (fun iv wr => ∃ i : Nat, i ≤ Q.es.length ∧ iv = .int .i64 i ∧ wr.heap[G3]? = some (.cells (cnt4 R.seen (wroteN ((Q.es.take i).map (·.1)) : Nat) (syncN ((Q.es.take i).map (·.1)) : Nat) (openN R.log : Nat)) 41 (0, 0)) ∧ Below w1.heap.size w1 wr) (fun iv _ => Q.es.length - (intOf iv).toNat)
   case atStart => exact ⟨0, by omega, rfl, H3.out, HB6.out⟩
   case round =>
     obtain ⟨i, hi, rfl, hR, hB⟩ := hrel
     have HB := hid hB
     have HR := hid hR
     have hbw := HB0.out.trans (hB.mono HB0.out.size)
     have c1 := HC1.out wr hbw
     by_cases hlq : i < Q.es.length
     · have i1 : (i : Int) < (Q.es.length : Int) := by omega
       obtain ⟨g, cap, e1, hg, hc, hm, hr, _⟩ := (HK.out.below hbw).at i hlq
       rw [hlv] at e1
       simp only [Value.slice.injEq] at e1
       obtain ⟨hlp, _, hlc⟩ := e1
       subst hlp
       have ck : wr.cell? ⟨g, i * 5, none⟩ = some (.int .i64 Q.es[i].1.kind) := by
         have := hr 0 _ rfl; rwa [Nat.add_zero] at this
       have hn1 := wroteN_le ((Q.es.take i).map (·.1))
       have hn2 := syncN_le ((Q.es.take i).map (·.1))
       rw [List.length_map, List.length_take] at hn1 hn2
       have HS := hid (take_snocE Q.es i hlq)
       have HN1 := hid (wroteN_snoc ((Q.es.take i).map (·.1)) Q.es[i].1)
       have HN2 := hid (syncN_snoc ((Q.es.take i).map (·.1)) Q.es[i].1)
       have in1 : (wroteN ((Q.es.take i).map (·.1)) : Int) ≤ 400000000000 := by omega
       have in2 : (syncN ((Q.es.take i).map (·.1)) : Int) ≤ 400000000000 := by omega
       have k1 := cnt_load hR 1
       have k2 := cnt_load hR 2
       have fz1 := frozen_of_row _ _ 1 _ _ hR
       have fz2 := frozen_of_row _ _ 2 _ _ hR
       have HT1 := hid (fun v : Value => heap_setCell_same _ G3 1 _ _ v hR)
       have HT2 := hid (fun v : Value => heap_setCell_same _ G3 2 _ _ v hR)
       generalize hE : Q.es[i].1 = ev at *
       generalize hO1 : wroteN ((Q.es.take i).map (·.1)) = on1 at *
       generalize hO2 : syncN ((Q.es.take i).map (·.1)) = on2 at *
       replace k1 : wr.cell? ⟨G3, 1, none⟩ = some (.int .i64 (on1 : Nat)) := k1
       replace k2 : wr.cell? ⟨G3, 2, none⟩ = some (.int .i64 (on2 : Nat)) := k2
       clear hr hn1 hn2 hE hO1 hO2 hR hB hbw
       cases ev with
       | wrote q d =>
         have ck : wr.cell? ⟨g, i * 5, none⟩ = some (.int .i64 1) := ck
         go_wp2
         go_roundw
         case rel => exact ⟨i + 1, by omega, by go_num, by rw [HT1.out, HS.out, HN1.out, HN2.out]; simp [cnt4], HB.out.setCell (p := ⟨G3, 1, none⟩) LO3.out _⟩
         case measure => simp [intOf]; omega
       | synced =>
         have ck : wr.cell? ⟨g, i * 5, none⟩ = some (.int .i64 2) := ck
         go_wp2
         go_roundw
         case rel => exact ⟨i + 1, by omega, by go_num, by rw [HT2.out, HS.out, HN1.out, HN2.out]; simp [cnt4], HB.out.setCell (p := ⟨G3, 2, none⟩) LO3.out _⟩
         case measure => simp [intOf]; omega
       | crashed fs =>
         have ck : wr.cell? ⟨g, i * 5, none⟩ = some (.int .i64 3) := ck
         go_wp2
         go_roundw
         case rel => exact ⟨i + 1, by omega, by go_num, by rw [HS.out, HN1.out, HN2.out]; exact HR.out, HB.out⟩
         case measure => simp [intOf]; omega
       | flipped q bit pat =>
         have ck : wr.cell? ⟨g, i * 5, none⟩ = some (.int .i64 4) := ck
         go_wp2
         go_roundw
         case rel => exact ⟨i + 1, by omega, by go_num, by rw [HS.out, HN1.out, HN2.out]; exact HR.out, HB.out⟩
         case measure => simp [intOf]; omega
     · obtain rfl : i = Q.es.length := by omega
       clear hlq hR hB
       rw [← HLN.out] at HR
       have HP3 := hid ((HB.out.block w.heap.size (hlt HP2.out)).trans HP2.out)
       go_wp2_with (first
         | (refine wpList_load_mid rfl 41 _ rfl G3 0 rfl (cnt4 R.seen (wroteN R.log : Nat) (syncN R.log : Nat) (openN R.log : Nat)).toList _ (cnt_range HR.out) Tryz.underlying41 rfl (by kernel_rfl) ?_)
         | (refine wpList_store_row rfl 41 _ _ rfl w.heap.size (cnt4 R.seen (wroteN R.log : Nat) (syncN R.log : Nat) (openN R.log : Nat)) rfl rfl 41 _ HP3.out (by kernel_rfl) rfl (cntO _ _ _ _) ?_))
       refine bodyPost_ret (results_c1 Tryz.results45 _ _ w.heap.size 41 _ _ _ rfl (setRow_heap _ _ _ _ _ _ HP3.out) Tryz.underlying41 rfl (by kernel_rfl)) rfl ?_
       exact ⟨rfl, below_setRow (HB0.out.trans (HB.out.mono HB0.out.size)) (Nat.le_refl _) _⟩
end
end Go.Proofs.YtjhocjjecfdphaaGreatDoor
