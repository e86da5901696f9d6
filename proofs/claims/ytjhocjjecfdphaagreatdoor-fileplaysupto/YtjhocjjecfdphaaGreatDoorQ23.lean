import Derived.Test.YtjhocjjecfdphaaGreatDoorQ22
import Derived.Test.YtjhocjjecfdphaaGreatDoorQ13
namespace Go.Proofs.YtjhocjjecfdphaaGreatDoor
set_option linter.unusedVariables false
set_option linter.unusedSimpArgs false
set_option maxRecDepth 100000
set_option maxHeartbeats 4000000
section
open Go.RowKit
attribute [local go_sem ↓] Go.wp_at_zero Go.wp_at_succ
theorem RX.of {w w' : World} {base : Nat} {Q : RQ} {R' : RF} {m : Nat} {D' : DS} (h : RN base Q w R' w') (hd : DR D'.np m D' R') (hok : DsOk D') : RX base Q.fp Q.p w m D' w' := by
 obtain ⟨Q', e, hk, hf, hg⟩ := h
 exact ⟨Q'.fp, ⟨Q', R', e, rfl, hk, hd, hok⟩, hf, hg⟩
theorem RX.same {w w' : World} {base : Nat} {Q : RQ} {R' : RF} {m : Nat} {D' : DS} (hk : RK w' base Q R') (hf : Fr Q.fp w w') (hd : DR D'.np m D' R') (hok : DsOk D') : RX base Q.fp Q.p w m D' w' :=
 ⟨Q.fp, ⟨Q, R', rfl, rfl, hk, hd, hok⟩, hf, Gr.refl _ _⟩
theorem DR.self {n m : Nat} {D : DS} {R : RF} (h : DR n m D R) : DR D.np m D R := by rw [h.np]; exact h
theorem rPages_any (w : World) (base : Nat) (F : List Nat) (p m : Nat) (D : DS) (h : RD w base F p m D) :
   Calls Tryz.prog 33 #[.pointer (some ⟨p, 0, none⟩)] w fun e w' => e = .returned (.int .i64 D.np) ∧ w = w' := by
 obtain ⟨Q, R, rfl, rfl, hk, hd, hok⟩ := h
 exact rPages_in w base Q R hk D.np hd.n3 hd.n4 hd.bl
theorem rPower_any (w : World) (base : Nat) (F : List Nat) (p m : Nat) (D : DS) (h : RD w base F p m D) :
   Calls Tryz.prog 30 #[.pointer (some ⟨p, 0, none⟩)] w fun e w' => e = .returned (.bool D.power) ∧ w = w' := by
 obtain ⟨Q, R, rfl, rfl, hk, hd, hok⟩ := h
 have e : (!R.down) = D.power := by rw [hd.dn, Bool.not_not]
 rw [← e]
 exact rPower_in w base Q R hk
theorem rEpoch_any (w : World) (base : Nat) (F : List Nat) (p m : Nat) (D : DS) (h : RD w base F p m D) :
   Calls Tryz.prog 44 #[.pointer (some ⟨p, 0, none⟩)] w fun e w' => e = .returned (.int .i64 D.epoch) ∧ w = w' := by
 obtain ⟨Q, R, rfl, rfl, hk, hd, hok⟩ := h
 rw [← hd.ag]
 exact rEpoch_in w base Q R hk
theorem claim_ok {D : DS} (hok : DsOk D) (he : D.epoch < 4000000000000000000) : DsOk { D with epoch := D.epoch + 1 } :=
 ⟨hok.n, hok.bts, hok.ops, hok.reads, hok.writes, hok.syncs, by show 0 ≤ D.epoch + 1 ∧ D.epoch + 1 ≤ _; have := hok.epoch; omega, hok.armed⟩
theorem read_ok {D : DS} (hok : DsOk D) (he : D.reads < 4000000000000000000) : DsOk { D with reads := D.reads + 1 } :=
 ⟨hok.n, hok.bts, hok.ops, by show 0 ≤ D.reads + 1 ∧ D.reads + 1 ≤ _; have := hok.reads; omega, hok.writes, hok.syncs, hok.epoch, hok.armed⟩
theorem rClaim_any (w : World) (base : Nat) (F : List Nat) (p m : Nat) (hm : m < 400000000000) (D : DS) (h : RD w base F p m D) :
   Calls Tryz.prog 37 #[.pointer (some ⟨p, 0, none⟩)] w fun e w' => e = .returned (.int .i64 (D.epoch + 1)) ∧ RX base F p w (m + 1) { D with epoch := D.epoch + 1 } w' := by
 obtain ⟨Q, R, rfl, rfl, hk, hd, hok⟩ := h
 have he := hd.em
 have := hok.epoch
 refine (rClaim_in w base Q R hk (by rw [hd.ag]; omega)).mono ?_
 rintro e w' ⟨rfl, h1, h2⟩
 exact ⟨by rw [hd.ag], RX.same h1 h2 hd.claim.self (claim_ok hok (by omega))⟩
theorem rArm_any (w : World) (base : Nat) (F : List Nat) (p m : Nat) (D : DS) (h : RD w base F p m D) (n : Int) (hn : n ≤ 9223372036854775807) :
   Calls Tryz.prog 47 #[.pointer (some ⟨p, 0, none⟩), .int .i64 n] w fun e w' => e = .returned (.tuple #[]) ∧ RX base F p w m (D.arm n) w' := by
 obtain ⟨Q, R, rfl, rfl, hk, hd, hok⟩ := h
 refine (rArm_in w base Q R hk n).mono ?_
 rintro e w' ⟨rfl, h1, h2⟩
 exact ⟨rfl, RX.same h1 h2 (hd.arm n).self (arm_ok hok n hn)⟩
theorem rSync_off' (w : World) (base : Nat) (F : List Nat) (p m : Nat) (D : DS) (h : RD w base F p m D) (hpw : D.power = false) :
   Calls Tryz.prog 36 #[.pointer (some ⟨p, 0, none⟩)] w fun e w' => e = .returned (.int .i64 2) ∧ w = w' := by
 obtain ⟨Q, R, rfl, rfl, hk, hd, hok⟩ := h
 exact rSync_off w base Q R hk (by rw [hd.dn, hpw]; rfl)
theorem rSync_any (w : World) (base : Nat) (F : List Nat) (p m : Nat) (hm : m < 400000000000) (hbw : base ≤ w.heap.size) (D : DS) (h : RD w base F p m D) (hpw : D.power = true) :
   Calls Tryz.prog 36 #[.pointer (some ⟨p, 0, none⟩)] w fun e w' => e = .returned (.int .i64 (sy D).2) ∧ RX base F p w (m + 1) (sy D).1 w' := by
 obtain ⟨Q, R, rfl, rfl, hk, hd, hok⟩ := h
 have hdn : R.down = false := by rw [hd.dn, hpw]; rfl
 have hsy := hd.sym
 unfold sy
 by_cases ha : D.armed = 1
 · rw [if_pos ha]
   refine (rSync_last w base Q R hk hdn (by rw [hd.ar]; exact ha)).mono ?_
   rintro e w' ⟨rfl, h1⟩
   exact ⟨rfl, RX.of h1 (hd.acted.more (Nat.le_succ _)).self (acted_ok hok)⟩
 · rw [if_neg ha]
   refine (rSync_in w base hbw Q R hk hdn (by rw [hd.ar]; exact ha) (by rw [hd.ar]; exact hok.armed) (by have := RD.lens hk hd; omega)).mono ?_
   rintro e w' ⟨rfl, h1⟩
   exact ⟨rfl, RX.of h1 hd.synced.self (synced_ok hok (by omega))⟩
theorem rWrite_off' (w : World) (base : Nat) (F : List Nat) (p m : Nat) (D : DS) (h : RD w base F p m D) (hpw : D.power = false) (q : Int) (v : Value) :
   Calls Tryz.prog 35 #[.pointer (some ⟨p, 0, none⟩), .int .i64 q, v] w fun e w' => e = .returned (.int .i64 2) ∧ w = w' := by
 obtain ⟨Q, R, rfl, rfl, hk, hd, hok⟩ := h
 exact rWrite_off w base Q R hk (by rw [hd.dn, hpw]; rfl) q v
theorem rWrite_no' (w : World) (base : Nat) (F : List Nat) (p m : Nat) (D : DS) (h : RD w base F p m D) (hpw : D.power = true) (q : Int) (hq : q < 0 ∨ (D.np : Int) ≤ q) (v : Value) :
   Calls Tryz.prog 35 #[.pointer (some ⟨p, 0, none⟩), .int .i64 q, v] w fun e w' => e = .returned (.int .i64 41) ∧ w = w' := by
 obtain ⟨Q, R, rfl, rfl, hk, hd, hok⟩ := h
 exact rWrite_no w base Q R hk (by rw [hd.dn, hpw]; rfl) D.np hd.n3 hd.n4 hd.bl q hq v
theorem rWrite_few' (w : World) (base : Nat) (F : List Nat) (p m : Nat) (D : DS) (h : RD w base F p m D) (hpw : D.power = true) (q : Nat) (hq : q < D.np) (sp : Option Addr) (l c : Nat) (hl : ((l : Int) != 256) = true) :
   Calls Tryz.prog 35 #[.pointer (some ⟨p, 0, none⟩), .int .i64 q, .slice sp l c] w fun e w' => e = .returned (.int .i64 42) ∧ w = w' := by
 obtain ⟨Q, R, rfl, rfl, hk, hd, hok⟩ := h
 exact rWrite_few w base Q R hk (by rw [hd.dn, hpw]; rfl) D.np hd.n3 hd.n4 hd.bl q hq sp l c hl
theorem rWrite_any (w : World) (base : Nat) (F : List Nat) (p m : Nat) (hm : m < 400000000000) (hbw : base ≤ w.heap.size) (D : DS) (h : RD w base F p m D) (hpw : D.power = true) (q : Nat) (hq : q < D.np) (data : List Int) (hdl : data.length = 256) (hdb : Bts data) (sp : Option Addr) (cap : Nat) (hS : Src w sp cap data) (hnil : sp = none → cap = 0) :
   Calls Tryz.prog 35 #[.pointer (some ⟨p, 0, none⟩), .int .i64 q, .slice sp 256 cap] w fun e w' => e = .returned (.int .i64 D.actE) ∧ RX base F p w (m + 1) (D.wr ⟨q, data⟩) w' := by
 obtain ⟨Q, R, rfl, rfl, hk, hd, hok⟩ := h
 have ho := hd.opm
 have hw := hd.wrm
 have eE : (if R.armed = 1 then (2 : Int) else 0) = D.actE := by unfold DS.actE; rw [hd.ar]
 refine (rWrite_in w base hbw Q R hk (by rw [hd.dn, hpw]; rfl) (by rw [hd.ar]; exact hok.armed) D.np hd.n3 hd.n4 hd.bl q hq data hdl sp cap hS hnil (by have := RD.lens hk hd; omega)).mono ?_
 rintro e w' ⟨rfl, h1⟩
 refine ⟨by rw [eE], RX.of h1 (hd.wrote q data ⟨hq, hdl, hdb⟩).self ?_⟩
 unfold DS.wr
 exact acted_ok ⟨⟨D.np, hd.n3, hd.n4, hd.img.1, fun o h2 => by rcases List.mem_append.1 h2 with q2 | q2; exact hd.img.2 o q2; rw [List.mem_singleton.1 q2]; exact ⟨hq, hdl, hdb⟩⟩, hok.bts, by show (D.ops ++ [_]).length ≤ _; rw [List.length_append]; simp; omega, hok.reads, by show 0 ≤ D.writes + 1 ∧ D.writes + 1 ≤ _; have := hok.writes; omega, hok.syncs, hok.epoch, hok.armed⟩
theorem rCrash_any (w : World) (base : Nat) (F : List Nat) (p m : Nat) (hm : m < 400000000000) (hbw : base ≤ w.heap.size) (D : DS) (h : RD w base F p m D) (fs : List Int) (hfb : Bts fs) (L : Nat) (hL : fs.length = L) (hL2 : L ≤ 140737488351232) (sp : Option Addr) (cap : Nat) (hS : Src w sp cap fs) (hnil : sp = none → cap = 0) :
   Calls Tryz.prog 48 #[.pointer (some ⟨p, 0, none⟩), .slice sp L cap] w fun e w' => e = .returned (.int .i64 D.ops.length) ∧ RX base F p w (m + 1) (D.crashed fs) w' := by
 obtain ⟨Q, R, rfl, rfl, hk, hd, hok⟩ := h
 have he := hd.em
 have := hok.epoch
 rw [hd.ops]
 refine (rCrash_in w base hbw Q R hk (by rw [hd.ag]; omega) fs L hL hL2 sp cap hS hnil (by have := RD.lens hk hd; omega)).mono ?_
 rintro e w' ⟨rfl, h1⟩
 exact ⟨rfl, RX.of h1 (hd.crashed fs hfb).self (crashed_ok hok (by omega) fs)⟩
theorem rFlip_no' (w : World) (base : Nat) (F : List Nat) (p m : Nat) (D : DS) (h : RD w base F p m D) (q : Int) (hq : q < 0 ∨ (D.np : Int) ≤ q) (bit : Int) (v : Value) :
   Calls Tryz.prog 49 #[.pointer (some ⟨p, 0, none⟩), .int .i64 q, .int .i64 bit, v] w fun e w' => e = .returned (.int .i64 41) ∧ w = w' := by
 obtain ⟨Q, R, rfl, rfl, hk, hd, hok⟩ := h
 exact rFlip_no w base Q R hk D.np hd.n3 hd.n4 hd.bl q hq bit v
theorem rFlip_out' (w : World) (base : Nat) (F : List Nat) (p m : Nat) (D : DS) (h : RD w base F p m D) (q : Nat) (hq : q < D.np) (bit : Int) (hb : bit < 0 ∨ 2048 ≤ bit) (v : Value) :
   Calls Tryz.prog 49 #[.pointer (some ⟨p, 0, none⟩), .int .i64 q, .int .i64 bit, v] w fun e w' => e = .returned (.int .i64 1) ∧ w = w' := by
 obtain ⟨Q, R, rfl, rfl, hk, hd, hok⟩ := h
 exact rFlip_out w base Q R hk D.np hd.n3 hd.n4 hd.bl q hq bit hb v
theorem rFlip_any (w : World) (base : Nat) (F : List Nat) (p m : Nat) (hm : m < 400000000000) (hbw : base ≤ w.heap.size) (D : DS) (h : RD w base F p m D) (q : Nat) (hq : q < D.np) (bit : Nat) (hb : bit < 2048) (pat : Nat) (hp : pat < 4294967296) :
   Calls Tryz.prog 49 #[.pointer (some ⟨p, 0, none⟩), .int .i64 q, .int .i64 bit, .int .u32 pat] w fun e w' => e = .returned (.int .i64 0) ∧ RX base F p w (m + 1) (D.flipped q bit pat) w' := by
 obtain ⟨Q, R, rfl, rfl, hk, hd, hok⟩ := h
 refine (rFlip_in w base hbw Q R hk D.np hd.n3 hd.n4 hd.bl q hq bit hb pat hp (by have := RD.lens hk hd; omega)).mono ?_
 rintro e w' ⟨rfl, h1⟩
 exact ⟨rfl, RX.of h1 (hd.flipped q bit pat hq hb hp).self (flipped_ok hok q bit pat)⟩
theorem rRead_off' (w : World) (base : Nat) (F : List Nat) (p m : Nat) (D : DS) (h : RD w base F p m D) (hpw : D.power = false) (q : Int) :
   Calls Tryz.prog 50 #[.pointer (some ⟨p, 0, none⟩), .int .i64 q] w fun e w' => e = .returned (.tuple #[.slice none 0 0, .int .i64 2]) ∧ w = w' := by
 obtain ⟨Q, R, rfl, rfl, hk, hd, hok⟩ := h
 exact rRead_off w base Q R hk (by rw [hd.dn, hpw]; rfl) q
theorem rRead_no' (w : World) (base : Nat) (F : List Nat) (p m : Nat) (D : DS) (h : RD w base F p m D) (hpw : D.power = true) (q : Int) (hq : q < 0 ∨ (D.np : Int) ≤ q) :
   Calls Tryz.prog 50 #[.pointer (some ⟨p, 0, none⟩), .int .i64 q] w fun e w' => e = .returned (.tuple #[.slice none 0 0, .int .i64 41]) ∧ w = w' := by
 obtain ⟨Q, R, rfl, rfl, hk, hd, hok⟩ := h
 exact rRead_no w base Q R hk (by rw [hd.dn, hpw]; rfl) D.np hd.n3 hd.n4 hd.bl q hq
theorem rRead_any (w : World) (base : Nat) (F : List Nat) (p m : Nat) (hm : m < 400000000000) (hbw : base ≤ w.heap.size) (D : DS) (h : RD w base F p m D) (hpw : D.power = true) (q : Nat) (hq : q < D.np) (z : Int) (hz : z = (q : Int)) :
   Calls Tryz.prog 50 #[.pointer (some ⟨p, 0, none⟩), .int .i64 z] w fun e w' => ∃ v, e = .returned (.tuple #[v, .int .i64 0]) ∧ Own w' w.heap.size v (D.readOf q) ∧ RD w' base F p (m + 1) { D with reads := D.reads + 1 } ∧ Fr F w w' := by
 subst hz
 obtain ⟨Q, R, rfl, rfl, hk, hd, hok⟩ := h
 have hr := hd.rm
 refine (rRead_in w base hbw Q R hk (by rw [hd.dn, hpw]; rfl) D.np (hd.rok hok (by omega)) (by rw [hd.sn]; omega) q hq D hd.pl).mono ?_
 rintro e w' ⟨v, rfl, h1, h2, h3⟩
 exact ⟨v, rfl, h1, ⟨Q, _, rfl, rfl, h2, hd.read.self, read_ok hok (by omega)⟩, h3⟩
theorem rImage_any (w : World) (base : Nat) (F : List Nat) (p m : Nat) (hm : m < 400000000000) (hbw : base ≤ w.heap.size) (D : DS) (h : RD w base F p m D) :
   Calls Tryz.prog 43 #[.pointer (some ⟨p, 0, none⟩)] w fun e w' => ∃ v, e = .returned v ∧ Own w' w.heap.size v D.img ∧ Below w.heap.size w w' := by
 obtain ⟨Q, R, rfl, rfl, hk, hd, hok⟩ := h
 exact rImage_in w base hbw Q R hk D.np (hd.rok hok (by omega)) D hd.pl
theorem rCounts_any (w : World) (base : Nat) (F : List Nat) (p m : Nat) (hm : m < 400000000000) (D : DS) (h : RD w base F p m D) :
   Calls Tryz.prog 45 #[.pointer (some ⟨p, 0, none⟩)] w fun e w' => e = .returned (.agg #[.int .i64 D.reads, .int .i64 D.writes, .int .i64 D.syncs, .int .i64 D.ops.length]) ∧ Below w.heap.size w w' := by
 obtain ⟨Q, R, rfl, rfl, hk, hd, hok⟩ := h
 rw [← hd.sn, hd.wr, hd.sy, hd.ops]
 exact rCounts_in w base Q R hk (by have := RD.lens hk hd; omega)
theorem rNew_any (w : World) (n : Nat) (h3 : 3 ≤ n) (h4 : n ≤ 4096) (m : Nat) :
   Calls Tryz.prog 26 #[.int .i64 n] w fun e w' => ∃ p F, e = .returned (.tuple #[.pointer (some ⟨p, 0, none⟩), .int .i64 0]) ∧ RD w' w.heap.size F p m (newD (List.replicate (256 * n) 0)) ∧ Below w.heap.size w w' := by
 refine (rNew_ok w n h3 h4).mono ?_
 rintro e w' ⟨Q, rfl, h1, h2⟩
 exact ⟨Q.p, Q.fp, rfl, ⟨Q, _, rfl, rfl, h1, (DR.new h3 h4 (by simp) m).self, newZ_ok h3 h4⟩, h2⟩
theorem rLoad_any (w : World) (img : List Int) (n : Nat) (h3 : 3 ≤ n) (h4 : n ≤ 4096) (hi : img.length = 256 * n) (hb : Bts img) (sp : Option Addr) (cap : Nat) (hS : Src w sp cap img) (hnil : sp = none → cap = 0) (m : Nat) :
   Calls Tryz.prog 25 #[.slice sp img.length cap] w fun e w' => ∃ p F, e = .returned (.tuple #[.pointer (some ⟨p, 0, none⟩), .int .i64 0]) ∧ RD w' w.heap.size F p m (newD img) ∧ Below w.heap.size w w' := by
 refine (rLoad_ok w img n h3 h4 hi sp cap hS hnil _ rfl).mono ?_
 rintro e w' ⟨Q, rfl, h1, h2⟩
 exact ⟨Q.p, Q.fp, rfl, ⟨Q, _, rfl, rfl, h1, (DR.new h3 h4 hi m).self, newD_ok h3 h4 hi hb⟩, h2⟩
end
end Go.Proofs.YtjhocjjecfdphaaGreatDoor
