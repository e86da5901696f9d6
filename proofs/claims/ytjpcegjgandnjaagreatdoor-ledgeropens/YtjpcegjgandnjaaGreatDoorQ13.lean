import Derived.Test.YtjpcegjgandnjaaGreatDoorQ12
import Derived.Test.YtjpcegjgandnjaaGreatDoorQ01
import Derived.Test.YtjpcegjgandnjaaGreatDoorQ07
import Derived.Maps.OwnSet
import Derived.Maps.OwnOps
namespace Go.Proofs.YtjpcegjgandnjaaGreatDoor
set_option linter.unusedVariables false
set_option linter.unusedSimpArgs false
open Go.RowKit
attribute [local go_sem ↓] Go.wp_at_zero Go.wp_at_succ


/-! From step to step. -/
theorem Nx.go {B : Nat} {F : List Nat} {p : Nat} {w w0 w' : World} {D D' : DS} (hD : DA w B F p D) (hB : Below B w0 w) (h0 : B ≤ w0.heap.size) (h : Nx B F p w D' w') : ∃ F', DA w' B F' p D' ∧ Below B w0 w' ∧ Fr F w w' := by
  obtain ⟨F', q1, q2, q3⟩ := h
  exact ⟨F', q1, hB.trans (q2.below (fun k hk => (hD.lt k hk).1) (Nat.le_trans h0 hB.size)), q2⟩
theorem Fr.go {B : Nat} {F : List Nat} {p : Nat} {w w0 w' : World} {D : DS} (hD : DA w B F p D) (hB : Below B w0 w) (h0 : B ≤ w0.heap.size) (h : Fr F w w') : Below B w0 w' := hB.trans (h.below (fun k hk => (hD.lt k hk).1) (Nat.le_trans h0 hB.size))
theorem zz_blank : Blank (zz 256) (zz 256) := ⟨zz 192, zz 192, zz_len _, zz_len _, by decide +kernel, Or.inl (by decide +kernel)⟩
/-- A disk at rest. -/
structure Rest (D : DS) (n : Nat) (ep : Int) : Prop where
  ok : DsOk D
  np : D.np = n
  ops : D.ops = []
  pw : D.power = true
  arm : D.armed = 0
  epoch : D.epoch = ep
  reads : D.reads ≤ 1000
  writes : D.writes ≤ 1000
  syncs : D.syncs ≤ 1000
theorem Rest.bud {D : DS} {n : Nat} {ep : Int} (h : Rest D n ep) : Bud D 4 := ⟨h.pw, by rw [h.ops]; decide, by have := h.writes; omega, by have := h.syncs; omega⟩
theorem Good.chooses {D : DS} {s o : Sup} (ho : D.ops = []) (h : Good s o (pgO D.img 0) (pgO D.img 1)) : chooseF (D.readOf 0) (D.readOf 1) = (s, 0) := by
  rw [readOf_nil ho, readOf_nil ho]; exact h.choose.1
theorem Blank.chooses {D : DS} (ho : D.ops = []) (h : Blank (pgO D.img 0) (pgO D.img 1)) : chooseF (D.readOf 0) (D.readOf 1) = (sup0, 55) := by
  rw [readOf_nil ho, readOf_nil ho]; exact h.choose
theorem Fm.good {D D' : DS} {wd : Int} (h : Fm D' D wd) (hw : 1 ≤ wd ∧ wd ≤ 32) : Good (fS D.np wd 1) (fS D.np wd 0) (pgO D'.img 0) (pgO D'.img 1) := by
  have hn := h.ok.np
  rw [h.np] at hn
  rw [h.p0, h.p1]
  exact Good.first (fS_valid hn.1 hn.2.1 hw ⟨by omega, by omega⟩) (fS_valid hn.1 hn.2.1 hw ⟨by omega, by omega⟩) (fS_fol _ _) rfl List.length_replicate List.length_replicate (rep_byts _) (rep_byts _)
/-- Format on a disk at rest that is blank. -/
theorem Format_rest (w : World) (base : Nat) (F : List Nat) (p : Nat) (D : DS) (h : DA w base F p D) (hbw : base ≤ w.heap.size) (n : Nat) (ep : Int) (hR : Rest D n ep) (wd : Int) (hwd : 1 ≤ wd ∧ wd ≤ 32) (hB : Blank (pgO D.img 0) (pgO D.img 1)) :
    Calls Tryz.prog 41 #[.pointer (some ⟨p, 0, none⟩), .int .i64 wd] w fun e w' => e = .returned (.int .i64 0) ∧ ∃ D', Fm D' { D with reads := D.reads + 2 } wd ∧ D'.np = n ∧ Nx base F p w D' w' := by
  have hr2 : DsOk { D with reads := D.reads + 2 } := ⟨hR.ok.n, hR.ok.bts, hR.ok.ops, by show 0 ≤ D.reads + 2 ∧ D.reads + 2 ≤ _; have := hR.ok.reads; have := hR.reads; omega, hR.ok.writes, hR.ok.syncs, hR.ok.epoch, hR.ok.armed⟩
  have hbud := hR.bud
  refine (Format_ok w base F p D h hbw hR.pw (by have := hR.reads; omega) hR.bud wd hwd (fS D.np wd 0) (fS D.np wd 1) rfl rfl (by rw [hB.chooses hR.ops])).mono ?_
  rintro e w' ⟨rfl, hN⟩
  obtain ⟨q1, q2⟩ := (fmt_all (D := { D with reads := D.reads + 2 }) hr2 hR.ops hR.pw ⟨hbud.pw, hbud.ops, hbud.writes, hbud.syncs⟩ wd hwd hB).1 (Or.inl hR.arm)
  exact ⟨by rw [show (runS { D with reads := D.reads + 2 } [St.lay (fS D.np wd 0) 0 0, St.sync, St.lay (fS D.np wd 1) 0 0, St.sync]).2 = 0 from q1], _, q2, q2.np.trans hR.np, hN⟩
end Go.Proofs.YtjpcegjgandnjaaGreatDoor
namespace Go.Proofs.YtjpcegjgandnjaaGreatDoor
set_option linter.unusedVariables false
set_option linter.unusedSimpArgs false
open Go.RowKit
attribute [local go_sem ↓] Go.wp_at_zero Go.wp_at_succ

theorem FK.drew {w : World} {g p : Nat} {s : Sup} {nx ep : Int} (h : FK w g p s nx ep) : FK w.drew g p s nx ep := h
theorem Fr.wide {F : List Nat} {w w1 : World} (h : Fr F w w1) (g : Nat) : Fr (g :: F) w w1 := ⟨h.os, h.tape, h.output, h.size, fun k hk hn => h.block k hk (fun e => hn (List.mem_cons_of_mem _ e))⟩
theorem FK.c0 {w : World} {g p : Nat} {s : Sup} {nx ep : Int} (h : FK w g p s nx ep) : w.cell? ⟨g, 0, none⟩ = some (.pointer (some ⟨p, 0, none⟩)) := h.cell 0
theorem FK.c6 {w : World} {g p : Nat} {s : Sup} {nx ep : Int} (h : FK w g p s nx ep) : w.cell? ⟨g, 6, none⟩ = some (.int .i64 nx) := h.cell 6
theorem FK.set {w : World} {g p : Nat} {s : Sup} {nx ep : Int} (h : FK w g p s nx ep) (x : Int) : FK (w.setCell ⟨g, 6, none⟩ (.int .i64 x)) g p s x ep := by
  unfold FK
  rw [heap_setCell_same _ _ _ _ _ _ h]; rfl
theorem FK.fz {w : World} {g p : Nat} {s : Sup} {nx ep : Int} (h : FK w g p s nx ep) (j : Nat) : w.frozen? ⟨g, j, none⟩ = false := frozen_of_row _ _ _ _ _ h
theorem DA.setCellN {w : World} {base : Nat} {F : List Nat} {p : Nat} {D : DS} (h : DA w base F p D) {g : Nat} (hg : g ∉ F) (j : Nat) (v : Value) : DA (w.setCell ⟨g, j, none⟩ v) base F p D :=
  h.of_heap fun k hk => heap_setCell_other w ⟨g, j, none⟩ k v (fun e => hg (by rw [← show k = g from e]; exact hk))
theorem Fr.setG {F : List Nat} {w w1 : World} {g : Nat} (h : Fr (g :: F) w w1) (j : Nat) (v : Value) : Fr (g :: F) w (w1.setCell ⟨g, j, none⟩ v) := h.setCell (List.mem_cons_self) j v
theorem live_0 {D : DS} {ep : Int} (h : liveF D ep = 0) : D.epoch = ep ∧ D.power = true := by
  unfold liveF at h
  split at h
  · exact absurd h (by decide)
  · rename_i c
    split at h
    · rename_i d; exact ⟨Classical.not_not.1 c, d⟩
    · exact absurd h (by decide)
set_option maxHeartbeats 400000 in
theorem has_any (w : World) (g p : Nat) (s : Sup) (nx ep : Int) (hf : FK w g p s nx ep) (q : Int) :
    Calls Tryz.prog 113 #[.pointer (some ⟨g, 0, none⟩), .int .i64 q] w fun e w' => e = .returned (.bool (decide (2 ≤ q ∧ q < nx))) ∧ w = w' := by
  have c6 : w.cell? ⟨g, 6, none⟩ = some (.int .i64 nx) := hf.cell 6
  clear hf
  by_cases h2 : 2 ≤ q
  · have HE := hid (show decide (2 ≤ q ∧ q < nx) = decide (q < nx) by simp [h2])
    go_enter Tryz.func113, Tryz.ntmps113
    go_wp2
    go_ret
    exact ⟨by rw [HE.out]; rfl, rfl⟩
  · go_enter Tryz.func113, Tryz.ntmps113
    go_wp2
    go_ret
    refine ⟨?_, rfl⟩
    rw [show decide (2 ≤ q) = false from decide_eq_false (by omega)]
    rfl
set_option maxHeartbeats 400000 in
theorem Forget_any (w : World) (base : Nat) (F : List Nat) (p : Nat) (D : DS) (h : DA w base F p D) (g : Nat) (s : Sup) (nx ep : Int) (hf : FK w g p s nx ep) :
    Calls Tryz.prog 72 #[.pointer (some ⟨g, 0, none⟩)] w fun e w' => e = .returned (.tuple #[]) ∧ DA w' base F p D ∧ FK w' g p s s.ma ep ∧ Fr (g :: F) w w' := by
  have c3 : w.cell? ⟨g, 3, none⟩ = some (.int .i64 s.ma) := hf.cell 3
  have c6 : w.cell? ⟨g, 6, none⟩ = some (.int .i64 nx) := hf.cell 6
  have f6 := hf.fz 6
  have HD := hid (h.setCellN (hf.not h) 6 (.int .i64 s.ma))
  have HF := hid (hf.set s.ma)
  clear h hf
  go_enter Tryz.func72, Tryz.ntmps72
  go_wp2
  go_end0
  exact ⟨rfl, HD.out, HF.out, ((Fr.refl F w).wide g).setG 6 _⟩
end Go.Proofs.YtjpcegjgandnjaaGreatDoor
namespace Go.Proofs.YtjpcegjgandnjaaGreatDoor
set_option linter.unusedVariables false
set_option linter.unusedSimpArgs false
open Go.RowKit
attribute [local go_sem ↓] Go.wp_at_zero Go.wp_at_succ


/-! Read. -/
set_option maxHeartbeats 400000 in
theorem FRead_ok (w : World) (base : Nat) (F : List Nat) (p : Nat) (D : DS) (h : DA w base F p D) (g : Nat) (s : Sup) (nx ep : Int) (hf : FK w g p s nx ep) (hlv : liveF D ep = 0) (q : Nat) (hq : 2 ≤ q ∧ (q : Int) < nx ∧ q < D.np) (hr : D.reads < 4000000000000000000) (kd : Int) (l : List Int) (hu : unpackF q (D.readOf q) = (kd, l, 0)) (z : Int) (hz : z = (q : Int)) :
    Calls Tryz.prog 73 #[.pointer (some ⟨g, 0, none⟩), .int .i64 z] w fun e w' => ∃ v, e = .returned (.tuple #[.int .i64 kd, v, .int .i64 0]) ∧ Own w' w.heap.size v l ∧ DA w' base F p { D with reads := D.reads + 1 } ∧ FK w' g p s nx ep ∧ Fr F w w' := by
  subst hz
  have HL := hid (Live_any w base F p D h g s nx ep hf)
  rw [hlv] at HL
  have hpw := (live_0 hlv).2
  have fine := readOf_fine h.ok q hq.2.2
  have HFN := hid fine
  have HH := hid (fun (w1 : World) (hb : Below w.heap.size w w1) => (show Calls Tryz.prog 113 #[.pointer (some ⟨g, 0, none⟩), .int .i64 (q : Int)] w1 fun e w' => e = .returned (.bool true) ∧ w1 = w' from by
    have := has_any w1 g p s nx ep (hf.below hb) q
    rwa [show decide (2 ≤ (q : Int) ∧ (q : Int) < nx) = true from decide_eq_true ⟨by omega, hq.2.1⟩] at this))
  have HRD := hid (fun (w1 : World) (hb : Below w.heap.size w w1) => Read_same w1 base F p D (h.below hb) hpw q hq.2.2 hr q rfl)
  have HC0 := hid (fun (w1 : World) (hb : Below w.heap.size w w1) => (show w1.cell? ⟨g, 0, none⟩ = some (.pointer (some ⟨p, 0, none⟩)) from (hf.below hb).cell 0))
  have HF := hid hf
  have HD := hid h
  have HU := hid hu
  have HUP := hid (fun (w1 : World) (gp c : Nat) (hS : Src w1 (some ⟨gp, 0, none⟩) c (D.readOf q)) => (show Calls Tryz.prog 114 #[.int .i64 (q : Int), .slice (some ⟨gp, 0, none⟩) 256 c] w1 fun e w' => ∃ v, e = .returned (.tuple #[.int .i64 kd, v, .int .i64 0]) ∧ Own w' w1.heap.size v l ∧ Below w1.heap.size w1 w' from by
    have := unpack_any w1 q (D.readOf q) fine.2 (some ⟨gp, 0, none⟩) c hS
    rw [fine.1, hu] at this
    exact this))
  clear h hf hlv hq hr hu fine
  go_enter Tryz.func73, Tryz.ntmps73
  go_wp2_with fail
  refine HL.out.mono ?_
  rintro e w1 ⟨rfl, hb1⟩
  have HB1 := hid hb1
  have c0 := HC0.out w1 hb1
  clear hb1 HL
  go_wp2_with (first | (go_at_call 113; refine (HH.out w1 HB1.out).mono ?_; rintro e w0 ⟨rfl, rfl⟩))
  refine (HRD.out w1 HB1.out).mono ?_
  rintro e w2 ⟨gp, c, rfl, hO2, hS2, hg2, hD2, hF2⟩
  have HS2 := hid hS2
  have HD2 := hid hD2
  have HF2 := hid hF2
  clear hO2 hS2 hg2 hD2 hF2 HRD HH HC0 c0
  go_wp2_with fail
  refine (HUP.out w2 gp c HS2.out).mono ?_
  rintro e w3 ⟨v, rfl, hO3, hb3⟩
  have hw3 : w.heap.size ≤ w3.heap.size := Nat.le_trans HB1.out.size (Nat.le_trans HF2.out.size hb3.size)
  have HO3 := hid hO3
  have HB3 := hid hb3
  obtain ⟨spv, cv, hv, _, _⟩ := hO3.form
  subst hv
  clear hO3 hb3 HUP HS2
  go_wp2
  go_ret3
  refine ⟨_, rfl, HO3.out.base (Nat.le_trans HB1.out.size HF2.out.size), HD2.out.below HB3.out, ?_, (((Fr.of_below (F := F) HB1.out).trans HF2.out (Gr.refl _ _)).tail (F' := F) HB3.out)⟩
  exact ((HF.out.below HB1.out).other (HD.out.below HB1.out) HF2.out).below HB3.out
theorem Fr.mono {F G : List Nat} {a b : World} (h : Fr F a b) (hs : ∀ k ∈ F, k ∈ G) : Fr G a b := ⟨h.os, h.tape, h.output, h.size, fun k hk hn => h.block k hk (fun e => hn (hs k e))⟩
end Go.Proofs.YtjpcegjgandnjaaGreatDoor
namespace Go.Proofs.YtjpcegjgandnjaaGreatDoor
set_option linter.unusedVariables false
set_option linter.unusedSimpArgs false
open Go.RowKit
attribute [local go_sem ↓] Go.wp_at_zero Go.wp_at_succ


end Go.Proofs.YtjpcegjgandnjaaGreatDoor
namespace Go.Proofs.YtjpcegjgandnjaaGreatDoor.Ca
set_option linter.unusedVariables false
set_option linter.unusedSimpArgs false

/-! Rows of linked entries, without memory. -/
structure Ent (κ ν : Type) where
  key : κ
  val : ν
  held : Bool
  prv : Option Nat
  nxt : Option Nat
structure Rw where
  first : Option Nat
  last : Option Nat
  count : Int
structure CS (κ ν : Type) where
  room : Int
  cl : Rw
  hd : Rw
  hits : Int
  misses : Int
  gone : Int
  E : Nat → Ent κ ν
  bs : List Nat
  look : κ → Option Nat
section
variable {κ ν : Type}
def CS.row (s : CS κ ν) : Bool → Rw
  | true => s.cl
  | false => s.hd
def CS.setRow (s : CS κ ν) (r : Bool) (x : Rw) : CS κ ν := match r with
  | true => { s with cl := x }
  | false => { s with hd := x }
def CS.setE (s : CS κ ν) (b : Nat) (x : Ent κ ν) : CS κ ν := { s with E := fun i => if i = b then x else s.E i }
def CS.setNxt (s : CS κ ν) (b : Nat) (a : Option Nat) : CS κ ν := s.setE b { s.E b with nxt := a }
def CS.setPrv (s : CS κ ν) (b : Nat) (a : Option Nat) : CS κ ν := s.setE b { s.E b with prv := a }
def CS.setVal (s : CS κ ν) (b : Nat) (v : ν) : CS κ ν := s.setE b { s.E b with val := v }
def CS.setHeld (s : CS κ ν) (b : Nat) (h : Bool) : CS κ ν := s.setE b { s.E b with held := h }
def CS.setFirst (s : CS κ ν) (r : Bool) (a : Option Nat) : CS κ ν := s.setRow r { s.row r with first := a }
def CS.setLast (s : CS κ ν) (r : Bool) (a : Option Nat) : CS κ ν := s.setRow r { s.row r with last := a }
def CS.setCount (s : CS κ ν) (r : Bool) (n : Int) : CS κ ν := s.setRow r { s.row r with count := n }
def CS.joinB (s : CS κ ν) (r : Bool) (b a : Option Nat) : CS κ ν := match b with
  | none => s.setFirst r a
  | some x => s.setNxt x a
def CS.joinA (s : CS κ ν) (r : Bool) (b a : Option Nat) : CS κ ν := match a with
  | none => s.setLast r b
  | some y => s.setPrv y b
def CS.join (s : CS κ ν) (r : Bool) (b a : Option Nat) : CS κ ν := (s.joinB r b a).joinA r b a
def CS.takeOut (s : CS κ ν) (r : Bool) (e : Nat) : CS κ ν :=
  let t := s.join r (s.E e).prv (s.E e).nxt
  t.setCount r ((t.row r).count - 1)
def CS.link (s : CS κ ν) (r : Bool) (b : Option Nat) (e : Nat) (a : Option Nat) : CS κ ν :=
  let t := (s.join r b (some e)).join r (some e) a
  t.setCount r ((t.row r).count + 1)
def CS.pushFirst (s : CS κ ν) (r : Bool) (e : Nat) : CS κ ν := s.link r none e (s.row r).first
/-- What stays through a change of links. -/
structure Sm (s t : CS κ ν) : Prop where
  room : t.room = s.room
  hits : t.hits = s.hits
  misses : t.misses = s.misses
  gone : t.gone = s.gone
  bs : t.bs = s.bs
  look : t.look = s.look
  key : ∀ i, (t.E i).key = (s.E i).key
  val : ∀ i, (t.E i).val = (s.E i).val
  held : ∀ i, (t.E i).held = (s.E i).held
theorem Sm.refl (s : CS κ ν) : Sm s s := ⟨rfl, rfl, rfl, rfl, rfl, rfl, fun _ => rfl, fun _ => rfl, fun _ => rfl⟩
theorem Sm.trans {s t u : CS κ ν} (h : Sm s t) (k : Sm t u) : Sm s u := ⟨k.room.trans h.room, k.hits.trans h.hits, k.misses.trans h.misses, k.gone.trans h.gone, k.bs.trans h.bs, k.look.trans h.look, fun i => (k.key i).trans (h.key i), fun i => (k.val i).trans (h.val i), fun i => (k.held i).trans (h.held i)⟩
theorem Sm.setRow (s : CS κ ν) (r : Bool) (x : Rw) : Sm s (s.setRow r x) := by cases r <;> exact ⟨rfl, rfl, rfl, rfl, rfl, rfl, fun _ => rfl, fun _ => rfl, fun _ => rfl⟩
theorem E_setRow (s : CS κ ν) (r : Bool) (x : Rw) : (s.setRow r x).E = s.E := by cases r <;> rfl
theorem row_setRow (s : CS κ ν) (r : Bool) (x : Rw) : (s.setRow r x).row r = x := by cases r <;> rfl
theorem row_setRow_ne (s : CS κ ν) {r q : Bool} (x : Rw) (h : q ≠ r) : (s.setRow r x).row q = s.row q := by cases r <;> cases q <;> first | rfl | exact absurd rfl h
theorem row_setE (s : CS κ ν) (b : Nat) (x : Ent κ ν) (r : Bool) : (s.setE b x).row r = s.row r := by cases r <;> rfl
theorem E_setE (s : CS κ ν) (b i : Nat) (x : Ent κ ν) : (s.setE b x).E i = if i = b then x else s.E i := rfl
theorem Sm.setE (s : CS κ ν) (b : Nat) (x : Ent κ ν) (h1 : x.key = (s.E b).key) (h2 : x.val = (s.E b).val) (h3 : x.held = (s.E b).held) : Sm s (s.setE b x) :=
  ⟨rfl, rfl, rfl, rfl, rfl, rfl, fun i => by rw [E_setE]; split <;> simp_all, fun i => by rw [E_setE]; split <;> simp_all, fun i => by rw [E_setE]; split <;> simp_all⟩
theorem Sm.joinB (s : CS κ ν) (r : Bool) (b a : Option Nat) : Sm s (s.joinB r b a) := by
  cases b
  · exact Sm.setRow s r _
  · exact Sm.setE s _ _ rfl rfl rfl
theorem Sm.joinA (s : CS κ ν) (r : Bool) (b a : Option Nat) : Sm s (s.joinA r b a) := by
  cases a
  · exact Sm.setRow s r _
  · exact Sm.setE s _ _ rfl rfl rfl
theorem Sm.join (s : CS κ ν) (r : Bool) (b a : Option Nat) : Sm s (s.join r b a) := (Sm.joinB s r b a).trans (Sm.joinA _ r b a)
theorem Sm.takeOut (s : CS κ ν) (r : Bool) (e : Nat) : Sm s (s.takeOut r e) := (Sm.join s r _ _).trans (Sm.setRow _ r _)
theorem Sm.link (s : CS κ ν) (r : Bool) (b : Option Nat) (e : Nat) (a : Option Nat) : Sm s (s.link r b e a) := ((Sm.join s r _ _).trans (Sm.join _ r _ _)).trans (Sm.setRow _ r _)
/-- The links of a part of a row. -/
def Seg (E : Nat → Ent κ ν) : Option Nat → List Nat → Option Nat → Prop
  | _, [], _ => True
  | pb, x :: l, pe => (E x).prv = pb ∧ (E x).nxt = l.head?.or pe ∧ Seg E (some x) l pe
theorem head?_or_append (A B : List Nat) (pe : Option Nat) : (A ++ B).head?.or pe = A.head?.or (B.head?.or pe) := by cases A <;> simp
theorem last?_cons_or (x : Nat) (A : List Nat) (pb : Option Nat) : (x :: A).getLast?.or pb = A.getLast?.or (some x) := by
  cases h : A.getLast? with
  | none => rw [List.getLast?_eq_none_iff] at h; subst h; simp
  | some y => rw [List.getLast?_cons, h]; simp
theorem Seg.append {E : Nat → Ent κ ν} : ∀ {A B : List Nat} {pb pe : Option Nat}, Seg E pb (A ++ B) pe ↔ Seg E pb A (B.head?.or pe) ∧ Seg E (A.getLast?.or pb) B pe
  | [], B, pb, pe => by simp [Seg]
  | x :: A, B, pb, pe => by
    show ((E x).prv = pb ∧ (E x).nxt = (A ++ B).head?.or pe ∧ Seg E (some x) (A ++ B) pe) ↔ ((E x).prv = pb ∧ (E x).nxt = A.head?.or (B.head?.or pe) ∧ Seg E (some x) A (B.head?.or pe)) ∧ _
    rw [Seg.append (A := A), head?_or_append, last?_cons_or]
    constructor
    · rintro ⟨a, b, c, d⟩; exact ⟨⟨a, b, c⟩, d⟩
    · rintro ⟨⟨a, b, c⟩, d⟩; exact ⟨a, b, c, d⟩
theorem Seg.congr {E E' : Nat → Ent κ ν} : ∀ {l : List Nat} {pb pe : Option Nat}, Seg E pb l pe → (∀ x ∈ l, (E' x).prv = (E x).prv ∧ (E' x).nxt = (E x).nxt) → Seg E' pb l pe
  | [], _, _, _, _ => trivial
  | x :: l, pb, pe, h, k => ⟨(k x (by simp)).1.trans h.1, (k x (by simp)).2.trans h.2.1, Seg.congr h.2.2 fun y hy => k y (by simp [hy])⟩
/-- Another end. -/
theorem Seg.setEnd {E E' : Nat → Ent κ ν} : ∀ {l : List Nat} {pb pe pe' : Option Nat}, Seg E pb l pe → l.Nodup → (∀ x ∈ l, (E' x).prv = (E x).prv) → (∀ x ∈ l, l.getLast? ≠ some x → (E' x).nxt = (E x).nxt) → (∀ x, l.getLast? = some x → (E' x).nxt = pe') → Seg E' pb l pe'
  | [], _, _, _, _, _, _, _, _ => trivial
  | [x], pb, pe, pe', h, hn, k1, k2, k3 => ⟨(k1 x (by simp)).trans h.1, by simpa using k3 x (by simp), trivial⟩
  | x :: y :: l, pb, pe, pe', h, hn, k1, k2, k3 => by
    have hl : (x :: y :: l).getLast? = (y :: l).getLast? := by rw [List.getLast?_cons_cons]
    have hx : (y :: l).getLast? ≠ some x := fun e => (List.nodup_cons.1 hn).1 (List.mem_of_getLast? e)
    refine ⟨(k1 x (by simp)).trans h.1, ?_, ?_⟩
    · rw [k2 x (by simp) (by rw [hl]; exact hx), h.2.1]; simp
    · exact Seg.setEnd h.2.2 (List.nodup_cons.1 hn).2 (fun z hz => k1 z (by simp [hz])) (fun z hz hne => k2 z (List.mem_cons_of_mem _ hz) (by rw [hl]; exact hne)) (fun z hz => k3 z (by rw [hl]; exact hz))
/-- Another beginning. -/
theorem Seg.setBeg {E E' : Nat → Ent κ ν} {l : List Nat} {pb pb' pe : Option Nat} (h : Seg E pb l pe) (hn : l.Nodup) (k1 : ∀ x ∈ l, (E' x).nxt = (E x).nxt) (k2 : ∀ x ∈ l, l.head? ≠ some x → (E' x).prv = (E x).prv) (k3 : ∀ x, l.head? = some x → (E' x).prv = pb') : Seg E' pb' l pe := by
  cases l with
  | nil => trivial
  | cons x l =>
    refine ⟨k3 x rfl, (k1 x (by simp)).trans h.2.1, h.2.2.congr fun y hy => ⟨k2 y (by simp [hy]) ?_, k1 y (by simp [hy])⟩⟩
    intro e
    simp at e
    subst e
    exact (List.nodup_cons.1 hn).1 hy
/-- A row that is well linked. -/
structure RowIs (s : CS κ ν) (r : Bool) (l : List Nat) : Prop where
  first : (s.row r).first = l.head?
  last : (s.row r).last = l.getLast?
  count : (s.row r).count = l.length
  seg : Seg s.E none l none
theorem join_prv (s : CS κ ν) (r : Bool) (b a : Option Nat) (i : Nat) : ((s.join r b a).E i).prv = if a = some i then b else (s.E i).prv := by
  unfold CS.join CS.joinA CS.joinB
  cases b <;> cases a <;> simp [CS.setFirst, CS.setLast, CS.setNxt, CS.setPrv, E_setRow, E_setE]
  · rename_i a; by_cases h : i = a <;> simp [h, eq_comm]
  · rename_i b; by_cases h : i = b <;> simp [h]
  · rename_i b a; by_cases h : i = a <;> by_cases k : i = b <;> simp_all [eq_comm]
theorem join_nxt (s : CS κ ν) (r : Bool) (b a : Option Nat) (i : Nat) : ((s.join r b a).E i).nxt = if b = some i then a else (s.E i).nxt := by
  unfold CS.join CS.joinA CS.joinB
  cases b <;> cases a <;> simp [CS.setFirst, CS.setLast, CS.setNxt, CS.setPrv, E_setRow, E_setE]
  · rename_i a; by_cases h : i = a <;> simp [h, eq_comm]
  · rename_i b; by_cases h : i = b <;> simp [h, eq_comm]
  · rename_i b a; by_cases h : i = a <;> by_cases k : i = b <;> simp_all [eq_comm]
theorem join_row (s : CS κ ν) (r : Bool) (b a : Option Nat) : (s.join r b a).row r = ⟨if b = none then a else (s.row r).first, if a = none then b else (s.row r).last, (s.row r).count⟩ := by
  unfold CS.join CS.joinA CS.joinB
  cases b <;> cases a <;> simp [CS.setFirst, CS.setLast, CS.setNxt, CS.setPrv, row_setRow, row_setE]
theorem join_row_ne (s : CS κ ν) {r q : Bool} (b a : Option Nat) (h : q ≠ r) : (s.join r b a).row q = s.row q := by
  unfold CS.join CS.joinA CS.joinB
  cases b <;> cases a <;> simp [CS.setFirst, CS.setLast, CS.setNxt, CS.setPrv, row_setRow_ne _ _ h, row_setE]
theorem RowIs.other {s t : CS κ ν} {q : Bool} {l : List Nat} (h : RowIs s q l) (hr : t.row q = s.row q) (hE : ∀ x ∈ l, (t.E x).prv = (s.E x).prv ∧ (t.E x).nxt = (s.E x).nxt) : RowIs t q l :=
  ⟨by rw [hr]; exact h.first, by rw [hr]; exact h.last, by rw [hr]; exact h.count, h.seg.congr hE⟩
theorem or_none (a : Option Nat) : a.or none = a := by cases a <;> rfl
/-- Where an entry of a row stands. -/
theorem RowIs.at {s : CS κ ν} {r : Bool} {A B : List Nat} {e : Nat} (h : RowIs s r (A ++ e :: B)) : (s.E e).prv = A.getLast? ∧ (s.E e).nxt = B.head? := by
  have := (Seg.append.1 h.seg).2
  exact ⟨by rw [this.1, or_none], by rw [this.2.1, or_none]⟩
theorem RowIs.takeOut {s : CS κ ν} {r : Bool} {A B : List Nat} {e : Nat} (h : RowIs s r (A ++ e :: B)) (hn : (A ++ e :: B).Nodup) : RowIs (s.takeOut r e) r (A ++ B) := by
  obtain ⟨hp, hx⟩ := h.at
  have hA := (List.nodup_append.1 hn)
  have hB := List.nodup_cons.1 hA.2.1
  have dis : ∀ x ∈ A, x ∉ B := fun x ha hb => hA.2.2 x ha x (by simp [hb]) rfl
  obtain ⟨s1, s2⟩ := Seg.append.1 h.seg
  obtain ⟨_, _, s3⟩ := s2
  simp only [or_none] at *
  unfold CS.takeOut
  rw [hp, hx]
  refine ⟨?_, ?_, ?_, ?_⟩
  · rw [CS.setCount, row_setRow, join_row]
    simp only
    rcases List.eq_nil_or_concat A with rfl | ⟨A', x, rfl⟩
    · simp
    · rw [if_neg (by simp), h.first]; simp
  · rw [CS.setCount, row_setRow, join_row]
    simp only
    cases B with
    | nil => simp
    | cons y B' => rw [if_neg (by simp), h.last]; simp [List.getLast?_append, List.getLast?_cons]
  · rw [CS.setCount, row_setRow, join_row]
    simp only
    rw [h.count]; simp; omega
  · rw [CS.setCount, E_setRow, Seg.append]
    simp only [or_none]
    refine ⟨s1.setEnd hA.1 (fun x hx2 => ?_) (fun x hx2 hne => ?_) (fun x hl => ?_), s3.setBeg hB.2 (fun x hx2 => ?_) (fun x hx2 hne => ?_) (fun x hl => ?_)⟩
    · rw [join_prv, if_neg fun q => dis x hx2 (List.mem_of_head? q)]
    · rw [join_nxt, if_neg hne]
    · rw [join_nxt, if_pos hl]
    · rw [join_nxt, if_neg fun q => dis x (List.mem_of_getLast? q) hx2]
    · rw [join_prv, if_neg hne]
    · rw [join_prv, if_pos hl]
theorem takeOut_prv (s : CS κ ν) (r : Bool) (e i : Nat) (h : (s.E e).nxt ≠ some i) : ((s.takeOut r e).E i).prv = (s.E i).prv := by
  unfold CS.takeOut; rw [CS.setCount, E_setRow, join_prv, if_neg h]
theorem takeOut_nxt (s : CS κ ν) (r : Bool) (e i : Nat) (h : (s.E e).prv ≠ some i) : ((s.takeOut r e).E i).nxt = (s.E i).nxt := by
  unfold CS.takeOut; rw [CS.setCount, E_setRow, join_nxt, if_neg h]
theorem takeOut_row_ne (s : CS κ ν) {r q : Bool} (e : Nat) (h : q ≠ r) : (s.takeOut r e).row q = s.row q := by
  unfold CS.takeOut; rw [CS.setCount, row_setRow_ne _ _ h, join_row_ne _ _ _ h]
theorem RowIs.takeOut_other {s : CS κ ν} {r q : Bool} {A B l : List Nat} {e : Nat} (h : RowIs s r (A ++ e :: B)) (k : RowIs s q l) (hq : q ≠ r) (hd : ∀ x ∈ l, x ∉ A ∧ x ∉ B) : RowIs (s.takeOut r e) q l := by
  obtain ⟨hp, hx⟩ := h.at
  refine k.other (takeOut_row_ne s e hq) fun x hx2 => ⟨takeOut_prv s r e x ?_, takeOut_nxt s r e x ?_⟩
  · rw [hx]; exact fun q => (hd x hx2).2 (List.mem_of_head? q)
  · rw [hp]; exact fun q => (hd x hx2).1 (List.mem_of_getLast? q)
theorem link_prv (s : CS κ ν) (r : Bool) (b : Option Nat) (e : Nat) (a : Option Nat) (i : Nat) : ((s.link r b e a).E i).prv = if a = some i then some e else if e = i then b else (s.E i).prv := by
  unfold CS.link; rw [CS.setCount, E_setRow, join_prv, join_prv]; simp
theorem link_nxt (s : CS κ ν) (r : Bool) (b : Option Nat) (e : Nat) (a : Option Nat) (i : Nat) : ((s.link r b e a).E i).nxt = if e = i then a else if b = some i then some e else (s.E i).nxt := by
  unfold CS.link; rw [CS.setCount, E_setRow, join_nxt, join_nxt]; simp
theorem link_row_ne (s : CS κ ν) {r q : Bool} (b : Option Nat) (e : Nat) (a : Option Nat) (h : q ≠ r) : (s.link r b e a).row q = s.row q := by
  unfold CS.link; rw [CS.setCount, row_setRow_ne _ _ h, join_row_ne _ _ _ h, join_row_ne _ _ _ h]
theorem RowIs.link {s : CS κ ν} {r : Bool} {A B : List Nat} {e : Nat} (h : RowIs s r (A ++ B)) (hn : (A ++ B).Nodup) (he : e ∉ A ++ B) : RowIs (s.link r A.getLast? e B.head?) r (A ++ e :: B) := by
  have hA := (List.nodup_append.1 hn)
  have dis : ∀ x ∈ A, x ∉ B := fun x ha hb => hA.2.2 x ha x hb rfl
  have heA : e ∉ A := fun q => he (by simp [q])
  have heB : e ∉ B := fun q => he (by simp [q])
  obtain ⟨s1, s2⟩ := Seg.append.1 h.seg
  simp only [or_none] at *
  refine ⟨?_, ?_, ?_, ?_⟩
  · unfold CS.link
    rw [CS.setCount, row_setRow, join_row, join_row]
    simp only
    rcases List.eq_nil_or_concat A with rfl | ⟨A', x, rfl⟩
    · simp
    · rw [if_neg (by simp), if_neg (by simp), h.first]; simp
  · unfold CS.link
    rw [CS.setCount, row_setRow, join_row, join_row]
    simp only
    cases B with
    | nil => simp
    | cons y B' => rw [if_neg (by simp), if_neg (by simp), h.last]; simp [List.getLast?_append, List.getLast?_cons]
  · unfold CS.link
    rw [CS.setCount, row_setRow, join_row, join_row]
    simp only
    rw [h.count]; simp; omega
  · rw [Seg.append]
    refine ⟨s1.setEnd hA.1 (fun x hx2 => ?_) (fun x hx2 hne => ?_) (fun x hl => ?_), ⟨?_, ?_, s2.setBeg hA.2.1 (fun x hx2 => ?_) (fun x hx2 hne => ?_) (fun x hl => ?_)⟩⟩
    · rw [link_prv, if_neg fun q => dis x hx2 (List.mem_of_head? q), if_neg fun q : e = x => heA (q ▸ hx2)]
    · rw [link_nxt, if_neg fun q : e = x => heA (q ▸ hx2), if_neg hne]
    · rw [link_nxt, if_neg fun q : e = x => heA (q ▸ List.mem_of_getLast? hl), if_pos hl]; simp
    · rw [link_prv, if_neg fun q => heB (List.mem_of_head? q), if_pos rfl]; simp
    · rw [link_nxt, if_pos rfl]; simp
    · rw [link_nxt, if_neg fun q : e = x => heB (q ▸ hx2), if_neg fun q => dis x (List.mem_of_getLast? q) hx2]
    · rw [link_prv, if_neg hne, if_neg fun q : e = x => heB (q ▸ hx2)]
    · rw [link_prv, if_pos hl]
theorem RowIs.link_other {s : CS κ ν} {r q : Bool} {A B l : List Nat} {e : Nat} (k : RowIs s q l) (hq : q ≠ r) (hd : ∀ x ∈ l, x ∉ A ∧ x ∉ B) (he : e ∉ l) : RowIs (s.link r A.getLast? e B.head?) q l := by
  refine k.other (link_row_ne s _ e _ hq) fun x hx2 => ⟨?_, ?_⟩
  · rw [link_prv, if_neg fun q => (hd x hx2).2 (List.mem_of_head? q), if_neg fun q : e = x => he (q ▸ hx2)]
  · rw [link_nxt, if_neg fun q : e = x => he (q ▸ hx2), if_neg fun q => (hd x hx2).1 (List.mem_of_getLast? q)]
end
end Go.Proofs.YtjpcegjgandnjaaGreatDoor.Ca
namespace Go.Proofs.YtjpcegjgandnjaaGreatDoor.Ca
set_option linter.unusedVariables false
set_option linter.unusedSimpArgs false
open Go.RowKit
attribute [local go_sem ↓] Go.wp_at_zero Go.wp_at_succ

theorem _root_.Go.Proofs.YtjpcegjgandnjaaGreatDoor.Fr.trans' {F : List Nat} {a b c : World} (h : Fr F a b) (k : Fr F b c) : Fr F a c := h.trans k (Gr.refl a F)
/-! A cache, and how it lies in memory. -/
def optr : Option Nat → Value
  | none => .pointer none
  | some b => .pointer (some ⟨b, 0, none⟩)
/-- How a pointer in the map reads. -/
def PR (v : Value) : Option (DataW Unit × List MemPlace) := match v with
  | .pointer none => some (.lit (.int .i64 (-1)), [])
  | .pointer (some ⟨b, 0, none⟩) => some (.lit (.int .i64 (b : Nat)), [])
  | _ => none
theorem PR_none : PR (.pointer none) = some (.lit (.int .i64 (-1)), []) := rfl
theorem PR_inv {v : Value} {b : Nat} {ps : List MemPlace} (h : PR v = some (.lit (.int .i64 (b : Nat)), ps)) : v = .pointer (some ⟨b, 0, none⟩) := by
  unfold PR at h
  split at h
  · simp at h
  · simp at h; obtain ⟨h1, _⟩ := h; have : _ = b := Int.ofNat.inj h1; rw [this]
  · cases h
theorem PR_inv0 {v : Value} {ps : List MemPlace} (h : PR v = some (.lit (.int .i64 (-1)), ps)) : v = .pointer none := by
  unfold PR at h
  split at h
  · rfl
  · simp at h
  · cases h
end Go.Proofs.YtjpcegjgandnjaaGreatDoor.Ca
namespace Go.Proofs.YtjpcegjgandnjaaGreatDoor.Ca
set_option linter.unusedVariables false
set_option linter.unusedSimpArgs false
open Go.RowKit
attribute [local go_sem ↓] Go.wp_at_zero Go.wp_at_succ

/-! The store's cache. -/
def argK (k : Int) : Value := .int .i64 k
/-- What a page carries: a kind and where its load lies. -/
structure Ct where
  kd : Int
  sp : Option Addr
  n : Nat
  c : Nat
def ct0 : Ct := ⟨0, none, 0, 0⟩
def ctC (v : Ct) : List Value := [.int .i64 v.kd, .slice v.sp v.n v.c]
def argV (v : Ct) : Value := .agg (ctC v).toArray
def wfK (k : Int) : Prop := -9223372036854775808 ≤ k ∧ k ≤ 9223372036854775807
def litK (k : Int) : Lit := .int .i64 k
theorem keyedK : Maps.Keyed Tryz.prog 3 := Maps.int_keyed Tryz.underlying3
theorem keyOfK {k : Int} (h : wfK k) : WideAt.IsKeyLit (litK k) ∧ keyOf Tryz.prog 3 (argK k) = some (litK k) := by
  have hw : (Lit.int .i64 k).wf = true := WalkArith.wf_i64 (by unfold wfK at h; omega)
  exact ⟨by first | trivial | exact hw | decide, Maps.keyOf_int_mk Tryz.underlying3 hw⟩
theorem litK_inj {a b : Int} (h : litK a = litK b) : a = b := by simpa [litK] using h
abbrev CSi := CS Int Ct
def ecells (x : Ent Int Ct) : Array Value := #[argK x.key, .int .i64 x.val.kd, .slice x.val.sp x.val.n x.val.c, .bool x.held, optr x.prv, optr x.nxt]
def ccells (m : Nat) (s : CSi) : Array Value := #[.int .i64 s.room, .map (some m), optr s.cl.first, optr s.cl.last, .int .i64 s.cl.count, optr s.hd.first, optr s.hd.last, .int .i64 s.hd.count, .int .i64 s.hits, .int .i64 s.misses, .int .i64 s.gone, .int .i64 0, .int .i64 0]
/-- What the map says. -/
structure MapIs (M : DataW Unit) (look : Int → Option Nat) : Prop where
  isMap : Maps.IsMap M
  no : ∀ k, wfK k → look k = none → Maps.has M (litK k) = false ∧ M.atKey (litK k) (.lit (.int .i64 (-1))) = .lit (.int .i64 (-1))
  yes : ∀ k b, wfK k → look k = some b → Maps.has M (litK k) = true ∧ M.atKey (litK k) (.lit (.int .i64 (-1))) = .lit (.int .i64 (b : Nat))
structure CK (w : World) (base p m n : Nat) (s : CSi) : Prop where
  cell : w.heap[p]? = some (.cells (ccells m s) 231 (0, 0))
  ents : ∀ b ∈ s.bs, w.heap[b]? = some (.cells (ecells (s.E b)) 310 (0, 0))
  mp : ∃ M, w.ownsMap Tryz.prog 3 PR m n M ∧ MapIs M s.look
  kwf : ∀ b ∈ s.bs, wfK (s.E b).key
  bp : base ≤ p
  bm : base ≤ m
  bb : ∀ b ∈ s.bs, base ≤ b
def fpC (p m : Nat) (s : CSi) : List Nat := p :: m :: s.bs
theorem CK.fz {w : World} {base p m n : Nat} {s : CSi} (h : CK w base p m n s) (k : Nat) : w.frozen? ⟨p, k, none⟩ = false := frozen_of_row _ _ _ _ _ h.cell
theorem CK.fe {w : World} {base p m n : Nat} {s : CSi} (h : CK w base p m n s) {b : Nat} (hb : b ∈ s.bs) (k : Nat) : w.frozen? ⟨b, k, none⟩ = false := frozen_of_row _ _ _ _ _ (h.ents b hb)
theorem CK.c0 {w : World} {base p m n : Nat} {s : CSi} (h : CK w base p m n s) : w.cell? ⟨p, 0, none⟩ = some (.int .i64 s.room) := by rw [cell_of_row _ _ _ _ _ _ h.cell]; rfl
theorem CK.c1 {w : World} {base p m n : Nat} {s : CSi} (h : CK w base p m n s) : w.cell? ⟨p, 1, none⟩ = some (.map (some m)) := by rw [cell_of_row _ _ _ _ _ _ h.cell]; rfl
theorem CK.c2 {w : World} {base p m n : Nat} {s : CSi} (h : CK w base p m n s) : w.cell? ⟨p, 2, none⟩ = some (optr s.cl.first) := by rw [cell_of_row _ _ _ _ _ _ h.cell]; rfl
theorem CK.c3 {w : World} {base p m n : Nat} {s : CSi} (h : CK w base p m n s) : w.cell? ⟨p, 3, none⟩ = some (optr s.cl.last) := by rw [cell_of_row _ _ _ _ _ _ h.cell]; rfl
theorem CK.c4 {w : World} {base p m n : Nat} {s : CSi} (h : CK w base p m n s) : w.cell? ⟨p, 4, none⟩ = some (.int .i64 s.cl.count) := by rw [cell_of_row _ _ _ _ _ _ h.cell]; rfl
theorem CK.c5 {w : World} {base p m n : Nat} {s : CSi} (h : CK w base p m n s) : w.cell? ⟨p, 5, none⟩ = some (optr s.hd.first) := by rw [cell_of_row _ _ _ _ _ _ h.cell]; rfl
theorem CK.c6 {w : World} {base p m n : Nat} {s : CSi} (h : CK w base p m n s) : w.cell? ⟨p, 6, none⟩ = some (optr s.hd.last) := by rw [cell_of_row _ _ _ _ _ _ h.cell]; rfl
theorem CK.c7 {w : World} {base p m n : Nat} {s : CSi} (h : CK w base p m n s) : w.cell? ⟨p, 7, none⟩ = some (.int .i64 s.hd.count) := by rw [cell_of_row _ _ _ _ _ _ h.cell]; rfl
theorem CK.c8 {w : World} {base p m n : Nat} {s : CSi} (h : CK w base p m n s) : w.cell? ⟨p, 8, none⟩ = some (.int .i64 s.hits) := by rw [cell_of_row _ _ _ _ _ _ h.cell]; rfl
theorem CK.c9 {w : World} {base p m n : Nat} {s : CSi} (h : CK w base p m n s) : w.cell? ⟨p, 9, none⟩ = some (.int .i64 s.misses) := by rw [cell_of_row _ _ _ _ _ _ h.cell]; rfl
theorem CK.c10 {w : World} {base p m n : Nat} {s : CSi} (h : CK w base p m n s) : w.cell? ⟨p, 10, none⟩ = some (.int .i64 s.gone) := by rw [cell_of_row _ _ _ _ _ _ h.cell]; rfl
theorem CK.ev {w : World} {base p m n : Nat} {s : CSi} (h : CK w base p m n s) {b : Nat} (hb : b ∈ s.bs) : w.rangeAt b 1 (ctC (s.E b).val) := fun j v hv => by
  rw [cell_of_row _ _ _ _ _ _ (h.ents b hb)]
  match j, hv with
  | 0, hv => exact hv
  | 1, hv => exact hv
  | j + 2, hv => simp [ctC] at hv
theorem CK.eh {w : World} {base p m n : Nat} {s : CSi} (h : CK w base p m n s) {b : Nat} (hb : b ∈ s.bs) : w.cell? ⟨b, 3, none⟩ = some (.bool (s.E b).held) := by rw [cell_of_row _ _ _ _ _ _ (h.ents b hb)]; rfl
theorem CK.ep {w : World} {base p m n : Nat} {s : CSi} (h : CK w base p m n s) {b : Nat} (hb : b ∈ s.bs) : w.cell? ⟨b, 4, none⟩ = some (optr (s.E b).prv) := by rw [cell_of_row _ _ _ _ _ _ (h.ents b hb)]; rfl
theorem CK.en {w : World} {base p m n : Nat} {s : CSi} (h : CK w base p m n s) {b : Nat} (hb : b ∈ s.bs) : w.cell? ⟨b, 5, none⟩ = some (optr (s.E b).nxt) := by rw [cell_of_row _ _ _ _ _ _ (h.ents b hb)]; rfl
theorem CK.pm {w : World} {base p m n : Nat} {s : CSi} (h : CK w base p m n s) : p ≠ m := by
  obtain ⟨M, ⟨es, clock, hb, _⟩, _⟩ := h.mp
  intro e; rw [← e, h.cell] at hb; cases hb
theorem CK.eb {w : World} {base p m n : Nat} {s : CSi} (h : CK w base p m n s) {b : Nat} (hb : b ∈ s.bs) : b ≠ p ∧ b ≠ m := by
  refine ⟨ne_ty (h.ents b hb) h.cell (by decide), ?_⟩
  obtain ⟨M, ⟨es, clock, hm, _⟩, _⟩ := h.mp
  intro e; rw [← e, h.ents b hb] at hm; cases hm
theorem ownsMap_heap' {w w1 : World} {b n : Nat} {M : DataW Unit} (h : w.ownsMap Tryz.prog 3 PR b n M) (hk : w1.heap[b]? = w.heap[b]?) : w1.ownsMap Tryz.prog 3 PR b n M := by
  obtain ⟨es, clock, hb, F, hs, hD⟩ := h
  exact ⟨es, clock, hk.trans hb, F, hs, hD⟩
/-- A cell of the cache's own block is written. -/
theorem CK.setP {w : World} {base p m n : Nat} {s s' : CSi} (h : CK w base p m n s) (k : Nat) (v : Value) (hc : (ccells m s).setIfInBounds k v = ccells m s') (hE : s'.E = s.E) (hb : s'.bs = s.bs) (hl : s'.look = s.look) :
    CK (w.setCell ⟨p, k, none⟩ v) base p m n s' := by
  have hne : ∀ i, i ≠ p → (w.setCell ⟨p, k, none⟩ v).heap[i]? = w.heap[i]? := fun i hi => heap_setCell_other w _ i v hi
  refine ⟨?_, fun b q => ?_, ?_, by rw [hE, hb]; exact h.kwf, h.bp, h.bm, by rw [hb]; exact h.bb⟩
  · rw [heap_setCell_same _ _ _ _ _ _ h.cell, ← hc]
  · rw [hb] at q; rw [hE, hne b (h.eb q).1]; exact h.ents b q
  · obtain ⟨M, a, b⟩ := h.mp
    exact ⟨M, ownsMap_heap' a (hne _ h.pm.symm), hl ▸ b⟩
/-- A cell of an entry is written. -/
theorem CK.setB {w : World} {base p m n : Nat} {s : CSi} (h : CK w base p m n s) {b : Nat} (hb : b ∈ s.bs) (k : Nat) (v : Value) (x : Ent Int Ct) (hc : (ecells (s.E b)).setIfInBounds k v = ecells x) (hk : x.key = (s.E b).key) :
    CK (w.setCell ⟨b, k, none⟩ v) base p m n (s.setE b x) := by
  have hne : ∀ i, i ≠ b → (w.setCell ⟨b, k, none⟩ v).heap[i]? = w.heap[i]? := fun i hi => heap_setCell_other w _ i v hi
  refine ⟨(hne p (h.eb hb).1.symm).trans h.cell, fun i q => ?_, ?_, fun i q => ?_, h.bp, h.bm, h.bb⟩
  · rw [E_setE]
    by_cases e : i = b
    · subst e; rw [if_pos rfl, heap_setCell_same _ _ _ _ _ _ (h.ents i hb), ← hc]
    · rw [if_neg e, hne i e]; exact h.ents i q
  · obtain ⟨M, a, c⟩ := h.mp
    exact ⟨M, ownsMap_heap' a (hne _ (h.eb hb).2.symm), c⟩
  · rw [E_setE]
    by_cases e : i = b
    · subst e; rw [if_pos rfl, hk]; exact h.kwf i hb
    · rw [if_neg e]; exact h.kwf i q
def offR : Bool → Nat
  | true => 2
  | false => 5
theorem CK.first {w : World} {base p m n : Nat} {s : CSi} (h : CK w base p m n s) (r : Bool) (a : Option Nat) : CK (w.setCell ⟨p, offR r, none⟩ (optr a)) base p m n (s.setFirst r a) := by
  cases r <;> exact h.setP _ _ (by simp [ccells, CS.setFirst, CS.setRow, CS.row, offR]) rfl rfl rfl
theorem CK.last {w : World} {base p m n : Nat} {s : CSi} (h : CK w base p m n s) (r : Bool) (a : Option Nat) : CK (w.setCell ⟨p, offR r + 1, none⟩ (optr a)) base p m n (s.setLast r a) := by
  cases r <;> exact h.setP _ _ (by simp [ccells, CS.setLast, CS.setRow, CS.row, offR]) rfl rfl rfl
theorem CK.count {w : World} {base p m n : Nat} {s : CSi} (h : CK w base p m n s) (r : Bool) (a : Int) : CK (w.setCell ⟨p, offR r + 2, none⟩ (.int .i64 a)) base p m n (s.setCount r a) := by
  cases r <;> exact h.setP _ _ (by simp [ccells, CS.setCount, CS.setRow, CS.row, offR]) rfl rfl rfl
theorem CK.nxt {w : World} {base p m n : Nat} {s : CSi} (h : CK w base p m n s) {b : Nat} (hb : b ∈ s.bs) (a : Option Nat) : CK (w.setCell ⟨b, 5, none⟩ (optr a)) base p m n (s.setNxt b a) := h.setB hb _ _ _ (by simp [ecells]) rfl
theorem CK.prv {w : World} {base p m n : Nat} {s : CSi} (h : CK w base p m n s) {b : Nat} (hb : b ∈ s.bs) (a : Option Nat) : CK (w.setCell ⟨b, 4, none⟩ (optr a)) base p m n (s.setPrv b a) := h.setB hb _ _ _ (by simp [ecells]) rfl
theorem setE_setE (s : CSi) (b : Nat) (x y : Ent Int Ct) : (s.setE b x).setE b y = s.setE b y := by
  simp only [CS.setE]
  congr 1
  funext i
  split <;> simp_all
theorem CK.val {w : World} {base p m n : Nat} {s : CSi} (h : CK w base p m n s) {b : Nat} (hb : b ∈ s.bs) (a : Ct) : CK ((w.setCell ⟨b, 1, none⟩ (.int .i64 a.kd)).setCell ⟨b, 2, none⟩ (.slice a.sp a.n a.c)) base p m n (s.setVal b a) := by
  have h1 := h.setB hb 1 (.int .i64 a.kd) { s.E b with val := ⟨a.kd, (s.E b).val.sp, (s.E b).val.n, (s.E b).val.c⟩ } (by simp [ecells]) rfl
  have h2 := h1.setB hb 2 (.slice a.sp a.n a.c) { s.E b with val := a } (by rw [E_setE, if_pos rfl]; simp [ecells]) (by rw [E_setE, if_pos rfl])
  rwa [setE_setE] at h2
theorem CK.held {w : World} {base p m n : Nat} {s : CSi} (h : CK w base p m n s) {b : Nat} (hb : b ∈ s.bs) (a : Bool) : CK (w.setCell ⟨b, 3, none⟩ (.bool a)) base p m n (s.setHeld b a) := h.setB hb _ _ _ (by simp [ecells]) rfl
theorem mem_p (p m : Nat) (s : CSi) : p ∈ fpC p m s := by simp [fpC]
theorem mem_m (p m : Nat) (s : CSi) : m ∈ fpC p m s := by simp [fpC]
theorem mem_b {p m : Nat} {s : CSi} {b : Nat} (h : b ∈ s.bs) : b ∈ fpC p m s := by simp [fpC, h]
theorem bs_setRow (s : CSi) (r : Bool) (x : Rw) : (s.setRow r x).bs = s.bs := by cases r <;> rfl
/-- What a call of a row leaves. -/
def LN (base p m n : Nat) (s : CSi) (w : World) (t : CSi) (w' : World) : Prop := CK w' base p m n t ∧ Fr (fpC p m s) w w' ∧ t.bs = s.bs
theorem LN.trans {base p m n : Nat} {s t u : CSi} {w w1 w2 : World} (h : LN base p m n s w t w1) (k : LN base p m n t w1 u w2) : LN base p m n s w u w2 :=
  ⟨k.1, h.2.1.trans' (by have := k.2.1; rwa [show fpC p m t = fpC p m s by simp [fpC, h.2.2]] at this), k.2.2.trans h.2.2⟩
def inBs (s : CSi) (a : Option Nat) : Prop := ∀ x, a = some x → x ∈ s.bs
set_option maxHeartbeats 400000 in
theorem join_any (w : World) (base p m n : Nat) (s : CSi) (h : CK w base p m n s) (r : Bool) (b a : Option Nat) (hb : inBs s b) (ha : inBs s a) :
    Calls Tryz.prog 210 #[.pointer (some ⟨p, offR r, none⟩), optr b, optr a] w fun e w' => e = .returned (.tuple #[]) ∧ LN base p m n s w (s.join r b a) w' := by
  cases b with
  | none =>
    have f0 := h.fz (offR r)
    have c0 : w.cell? ⟨p, offR r, none⟩ = some (optr (s.row r).first) := by cases r <;> first | exact h.c2 | exact h.c5
    have h1 := h.first r a
    cases a with
    | none =>
      have f1 := h1.fz (offR r + 1)
      have c1 : (w.setCell ⟨p, offR r, none⟩ (optr none)).cell? ⟨p, offR r + 1, none⟩ = some (optr (s.row r).last) := by cases r <;> first | exact h1.c3 | exact h1.c6
      have hL : LN base p m n s w (s.join r none none) ((w.setCell ⟨p, offR r, none⟩ (optr none)).setCell ⟨p, offR r + 1, none⟩ (optr none)) := ⟨h1.last r none, ((Fr.refl _ w).setCell (mem_p p m s) _ _).setCell (mem_p p m s) _ _, (Sm.join s r none none).bs⟩
      clear h h1
      generalize offR r = o at *
      simp only [optr] at *
      go_enter Tryz.func210, Tryz.ntmps210
      go_wp2
      go_end0
      exact ⟨rfl, hL⟩
    | some y =>
      have hy := ha y rfl
      have f1 := h1.fe (b := y) (by rw [CS.setFirst, bs_setRow]; exact hy) 4
      have c1 := h1.ep (b := y) (by rw [CS.setFirst, bs_setRow]; exact hy)
      have hL : LN base p m n s w (s.join r none (some y)) ((w.setCell ⟨p, offR r, none⟩ (optr (some y))).setCell ⟨y, 4, none⟩ (optr none)) := ⟨h1.prv (by rw [CS.setFirst, bs_setRow]; exact hy) none, ((Fr.refl _ w).setCell (mem_p p m s) _ _).setCell (mem_b hy) _ _, (Sm.join s r none (some y)).bs⟩
      clear h h1
      generalize offR r = o at *
      simp only [optr] at *
      go_enter Tryz.func210, Tryz.ntmps210
      go_wp2
      go_end0
      exact ⟨rfl, hL⟩
  | some x =>
    have hx := hb x rfl
    have f0 := h.fe hx 5
    have c0 := h.en hx
    have h1 := h.nxt hx a
    cases a with
    | none =>
      have f1 := h1.fz (offR r + 1)
      have c1 : (w.setCell ⟨x, 5, none⟩ (optr none)).cell? ⟨p, offR r + 1, none⟩ = some (optr (s.row r).last) := by cases r <;> first | exact h1.c3 | exact h1.c6
      have hL : LN base p m n s w (s.join r (some x) none) ((w.setCell ⟨x, 5, none⟩ (optr none)).setCell ⟨p, offR r + 1, none⟩ (optr (some x))) := ⟨h1.last r (some x), ((Fr.refl _ w).setCell (mem_b hx) _ _).setCell (mem_p p m s) _ _, (Sm.join s r (some x) none).bs⟩
      clear h h1
      generalize offR r = o at *
      simp only [optr] at *
      go_enter Tryz.func210, Tryz.ntmps210
      go_wp2
      go_end0
      exact ⟨rfl, hL⟩
    | some y =>
      have hy := ha y rfl
      have f1 := h1.fe (b := y) hy 4
      have c1 := h1.ep (b := y) hy
      have hL : LN base p m n s w (s.join r (some x) (some y)) ((w.setCell ⟨x, 5, none⟩ (optr (some y))).setCell ⟨y, 4, none⟩ (optr (some x))) := ⟨h1.prv hy (some x), ((Fr.refl _ w).setCell (mem_b hx) _ _).setCell (mem_b hy) _ _, (Sm.join s r (some x) (some y)).bs⟩
      clear h h1
      simp only [optr] at *
      go_enter Tryz.func210, Tryz.ntmps210
      go_wp2
      go_end0
      exact ⟨rfl, hL⟩
end Go.Proofs.YtjpcegjgandnjaaGreatDoor.Ca
