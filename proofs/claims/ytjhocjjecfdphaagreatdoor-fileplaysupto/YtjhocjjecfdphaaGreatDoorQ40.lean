import Derived.Test.YtjhocjjecfdphaaGreatDoorQ07
import Derived.Test.YtjhocjjecfdphaaGreatDoorQ39
namespace Go.Proofs.YtjhocjjecfdphaaGreatDoor
set_option linter.unusedVariables false
set_option linter.unusedSimpArgs false
set_option maxRecDepth 100000
set_option maxHeartbeats 4000000
section
open Go.RowKit
structure Cm where
 fp : List Nat
 P : World → Prop
def Cm.ok (c : Cm) (base : Nat) (w : World) : Prop := (∀ k ∈ c.fp, base ≤ k ∧ k < w.heap.size) ∧ ∀ w1 : World, (∀ k ∈ c.fp, w1.heap[k]? = w.heap[k]?) → c.P w1
theorem Cm.ok.here {c : Cm} {base : Nat} {w : World} (h : c.ok base w) : c.P w := h.2 w fun _ _ => rfl
theorem Cm.ok.to {c : Cm} {base : Nat} {w w1 : World} (h : c.ok base w) (hs : w.heap.size ≤ w1.heap.size) (hk : ∀ k ∈ c.fp, w1.heap[k]? = w.heap[k]?) : c.ok base w1 :=
 ⟨fun k hk2 => ⟨(h.1 k hk2).1, Nat.lt_of_lt_of_le (h.1 k hk2).2 hs⟩, fun w2 h2 => h.2 w2 fun k hk2 => (h2 k hk2).trans (hk k hk2)⟩
def Cm.no : Cm := ⟨[], fun _ => True⟩
theorem Cm.no_ok (base : Nat) (w : World) : Cm.no.ok base w := ⟨(fun k hk => by cases hk), fun _ _ => trivial⟩
structure Sep (base : Nat) (w : World) (C : Nat → Cm) : Prop where
 hb : base ≤ w.heap.size
 ok : ∀ i, (C i).ok base w
 ap : ∀ i j, i ≠ j → Apart (C i).fp (C j).fp
def upC {α : Type} (C : Nat → α) (i : Nat) (c : α) : Nat → α := fun k => if k = i then c else C k
theorem upC_at {α : Type} (C : Nat → α) (i : Nat) (c : α) : upC C i c i = c := if_pos rfl
theorem upC_ne {α : Type} (C : Nat → α) (i : Nat) (c : α) {k : Nat} (h : k ≠ i) : upC C i c k = C k := if_neg h
theorem Sep.start (w : World) (base : Nat) (h : base ≤ w.heap.size) : Sep base w (fun _ => Cm.no) := ⟨h, fun _ => Cm.no_ok _ _, (fun _ _ _ k hk => by cases hk)⟩
theorem Sep.here {base : Nat} {w : World} {C : Nat → Cm} (h : Sep base w C) (i : Nat) : (C i).P w := (h.ok i).here
theorem Sep.step {base : Nat} {w w1 : World} {C : Nat → Cm} (h : Sep base w C) (i : Nat) {c : Cm} (hf : Fr (C i).fp w w1) (hg : Gr w (C i).fp c.fp) (hc : c.ok base w1) : Sep base w1 (upC C i c) := by
 have old : ∀ j, j ≠ i → ∀ k ∈ (C j).fp, k ∉ (C i).fp := fun j hj k hk => h.ap j i hj k hk
 refine ⟨Nat.le_trans h.hb hf.size, fun j => ?_, fun a b hab => ?_⟩
 · by_cases e : j = i
   · subst e; rw [upC_at]; exact hc
   · rw [upC_ne _ _ _ e]; exact (h.ok j).to hf.size fun k hk => hf.block k ((h.ok j).1 k hk).2 (old j e k hk)
 · have far : ∀ j, j ≠ i → Apart c.fp (C j).fp := fun j hj k hk e => (hg k hk).elim (fun q => old j hj k e q) (fun q => by have := ((h.ok j).1 k e).2; omega)
   by_cases ea : a = i
   · subst ea; rw [upC_at, upC_ne _ _ _ (Ne.symm hab)]; exact far b (Ne.symm hab)
   · rw [upC_ne _ _ _ ea]
     by_cases eb : b = i
     · subst eb; rw [upC_at]; exact (far a ea).symm
     · rw [upC_ne _ _ _ eb]; exact h.ap a b hab
theorem Sep.step2 {base : Nat} {w w1 : World} {C : Nat → Cm} (h : Sep base w C) (i j : Nat) (hij : i ≠ j) {c d : Cm} {F : List Nat} (hf : Fr F w w1) (hF : ∀ k ∈ F, k ∈ (C i).fp ∨ k ∈ (C j).fp) (hg : ∀ k ∈ c.fp, k ∈ (C i).fp ∨ k ∈ (C j).fp ∨ w.heap.size ≤ k) (hd : ∀ k ∈ d.fp, k ∈ (C i).fp ∨ k ∈ (C j).fp ∨ w.heap.size ≤ k) (hcd : Apart c.fp d.fp) (hc : c.ok base w1) (hdo : d.ok base w1) : Sep base w1 (upC (upC C i c) j d) := by
 have old : ∀ x, x ≠ i → x ≠ j → ∀ k ∈ (C x).fp, k ∉ F := fun x h1 h2 k hk q => (hF k q).elim (fun e => h.ap x i h1 k hk e) (fun e => h.ap x j h2 k hk e)
 have far : ∀ x, x ≠ i → x ≠ j → ∀ e : Cm, (∀ k ∈ e.fp, k ∈ (C i).fp ∨ k ∈ (C j).fp ∨ w.heap.size ≤ k) → Apart e.fp (C x).fp := fun x h1 h2 e he k hk q => by
   rcases he k hk with z | z | z
   · exact h.ap x i h1 k q z
   · exact h.ap x j h2 k q z
   · have := ((h.ok x).1 k q).2; omega
 refine ⟨Nat.le_trans h.hb hf.size, fun x => ?_, fun a b hab => ?_⟩
 · by_cases e : x = j
   · subst e; rw [upC_at]; exact hdo
   · rw [upC_ne _ _ _ e]
     by_cases e2 : x = i
     · subst e2; rw [upC_at]; exact hc
     · rw [upC_ne _ _ _ e2]; exact (h.ok x).to hf.size fun k hk => hf.block k ((h.ok x).1 k hk).2 (old x e2 e k hk)
 · have sym : ∀ a b, a ≠ b → a = j → Apart ((upC (upC C i c) j d) a).fp ((upC (upC C i c) j d) b).fp := fun a b hab ea => by
     subst ea
     rw [upC_at, upC_ne _ _ _ (Ne.symm hab)]
     by_cases eb : b = i
     · subst eb; rw [upC_at]; exact hcd.symm
     · rw [upC_ne _ _ _ eb]; exact far b eb (Ne.symm hab) d hd
   by_cases ea : a = j
   · exact sym a b hab ea
   · by_cases eb : b = j
     · exact (sym b a (Ne.symm hab) eb).symm
     · rw [upC_ne _ _ _ ea, upC_ne _ _ _ eb]
       by_cases e1 : a = i
       · subst e1; rw [upC_at, upC_ne _ _ _ (Ne.symm hab)]; exact far b (Ne.symm hab) eb c hg
       · rw [upC_ne _ _ _ e1]
         by_cases e2 : b = i
         · subst e2; rw [upC_at]; exact (far a e1 ea c hg).symm
         · rw [upC_ne _ _ _ e2]; exact h.ap a b hab
theorem Sep.below {base : Nat} {w w1 : World} {C : Nat → Cm} (h : Sep base w C) (hb : Below w.heap.size w w1) : Sep base w1 C :=
 ⟨Nat.le_trans h.hb hb.size, fun j => (h.ok j).to hb.size fun k hk => hb.block k ((h.ok j).1 k hk).2, h.ap⟩
theorem Sep.new {base : Nat} {w w1 : World} {C : Nat → Cm} (h : Sep base w C) (i : Nat) {c : Cm} (hb : Below w.heap.size w w1) (hg : ∀ k ∈ c.fp, w.heap.size ≤ k) (hc : c.ok base w1) : Sep base w1 (upC C i c) :=
 h.step i (Fr.of_below hb) (fun k hk => Or.inr (hg k hk)) hc
structure FI where
 dk : Nat
 s : Sup
 nx : Int
 ep : Int
structure AW where
 d : Nat → Option DS
 f : Nat → Option FI
def XW (w : World) (xw : Nat) (Dv Fv : Value) : Prop := w.heap[xw]? = some (.cells #[Dv, Fv] 51 (0, 0))
def cmW (pw : Nat) (Dv Fv Rv : Value) : Cm := ⟨[pw], fun w => WK w pw Dv Fv Rv⟩
def cmX (xw : Nat) (Dv Fv : Value) : Cm := ⟨[xw], fun w => XW w xw Dv Fv⟩
def cmRow (base t : Nat) (v : Value) (n : Nat) (cs : List Value) : Cm := ⟨v.ownBlock.toList, fun w => w.ownsRow base t 1 v n cs⟩
def cmRoom (base : Nat) (v : Value) (rm : List Int) : Cm := ⟨v.ownBlock.toList, fun w => Own w base v rm⟩
def cmD (base : Nat) (F : List Nat) (p : Nat) : Option DS → Cm
 | none => Cm.no
 | some D => ⟨F, fun w => DA w base F p D⟩
def cmR (base : Nat) (F : List Nat) (p m : Nat) : Option DS → Cm
 | none => Cm.no
 | some D => ⟨F, fun w => RD w base F p m D⟩
def cmF (g : Nat) (pd : Nat → Nat) : Option FI → Cm
 | none => Cm.no
 | some x => ⟨[g], fun w => FK w g (pd x.dk) x.s x.nx x.ep⟩
def cmG (g : Nat) (px : Nat → Nat) : Option FI → Cm
 | none => Cm.no
 | some x => ⟨[g], fun w => XK w g (px x.dk) x.s x.nx x.ep⟩
theorem cmW_ok {w : World} {base pw : Nat} {Dv Fv Rv : Value} (h : WK w pw Dv Fv Rv) (hb : base ≤ pw) : (cmW pw Dv Fv Rv).ok base w := by
 refine ⟨fun k hk => ?_, fun w1 h1 => (h1 pw List.mem_cons_self).trans h⟩
 rw [List.mem_singleton.1 hk]; exact ⟨hb, hlt_ h⟩
theorem cmX_ok {w : World} {base xw : Nat} {Dv Fv : Value} (h : XW w xw Dv Fv) (hb : base ≤ xw) : (cmX xw Dv Fv).ok base w := by
 refine ⟨fun k hk => ?_, fun w1 h1 => (h1 xw List.mem_cons_self).trans h⟩
 rw [List.mem_singleton.1 hk]; exact ⟨hb, hlt_ h⟩
theorem cmRow_ok {w : World} {base t n : Nat} {v : Value} {cs : List Value} (h : w.ownsRow base t 1 v n cs) : (cmRow base t v n cs).ok base w := by
 refine ⟨fun k hk => ?_, fun w1 h1 => ownsRow_heap h fun i e => h1 i (by simp [cmRow, e])⟩
 have e : v.ownBlock = some k := by simpa [cmRow] using hk
 obtain ⟨h1, cur, h2⟩ := ownsRow_block h k e
 exact ⟨h1, hlt_ h2⟩
theorem cmRoom_ok {w : World} {base : Nat} {v : Value} {rm : List Int} (h : Own w base v rm) : (cmRoom base v rm).ok base w := by
 refine ⟨fun k hk => ?_, fun w1 h1 => h.of_heap fun i e => h1 i (by simp [cmRoom, e])⟩
 exact h.block k (by simpa [cmRoom] using hk)
theorem cmD_ok {w : World} {base : Nat} {F : List Nat} {p : Nat} {D : DS} (h : DA w base F p D) : (cmD base F p (some D)).ok base w := ⟨fun k hk => h.lt k hk, fun w1 h1 => h.of_heap h1⟩
theorem cmR_ok {w : World} {base : Nat} {F : List Nat} {p m : Nat} {D : DS} (h : RD w base F p m D) : (cmR base F p m (some D)).ok base w := ⟨fun k hk => h.lt k hk, fun w1 h1 => h.of_heap h1⟩
theorem cmF_ok {w : World} {base g : Nat} {pd : Nat → Nat} {x : FI} (h : FK w g (pd x.dk) x.s x.nx x.ep) (hb : base ≤ g) : (cmF g pd (some x)).ok base w := by
 refine ⟨fun k hk => ?_, fun w1 h1 => (h1 g List.mem_cons_self).trans h⟩
 rw [List.mem_singleton.1 hk]; exact ⟨hb, hlt_ h⟩
theorem cmG_ok {w : World} {base g : Nat} {px : Nat → Nat} {x : FI} (h : XK w g (px x.dk) x.s x.nx x.ep) (hb : base ≤ g) : (cmG g px (some x)).ok base w := by
 refine ⟨fun k hk => ?_, fun w1 h1 => (h1 g List.mem_cons_self).trans h⟩
 rw [List.mem_singleton.1 hk]; exact ⟨hb, hlt_ h⟩
structure PL where
 pw : Nat
 xw : Nat
 Dv : Value
 Fv : Value
 Rv : Value
 Dx : Value
 Fx : Value
 pd : Nat → Nat
 px : Nat → Nat
 Fd : Nat → List Nat
 Fr : Nat → List Nat
 gf : Nat → Nat
 gx : Nat → Nat
def ptrD (p : Nat → Nat) (A : AW) (i : Nat) : Value := .pointer ((A.d i).map fun _ => ⟨p i, 0, none⟩)
def ptrF (g : Nat → Nat) (A : AW) (j : Nat) : Value := .pointer ((A.f j).map fun _ => ⟨g j, 0, none⟩)
def comp (base m : Nat) (P : PL) (A B : AW) (rm : List Int) : Nat → Cm
 | 0 => cmW P.pw P.Dv P.Fv P.Rv
 | 1 => cmRow base 60 P.Dv 2 [ptrD P.pd A 0, ptrD P.pd A 1]
 | 2 => cmRow base 69 P.Fv 3 [ptrF P.gf A 0, ptrF P.gf A 1, ptrF P.gf A 2]
 | 3 => cmRoom base P.Rv rm
 | 4 => cmX P.xw P.Dx P.Fx
 | 5 => cmRow base 54 P.Dx 2 [ptrD P.px B 0, ptrD P.px B 1]
 | 6 => cmRow base 47 P.Fx 3 [ptrF P.gx B 0, ptrF P.gx B 1, ptrF P.gx B 2]
 | 7 => cmD base (P.Fd 0) (P.pd 0) (A.d 0)
 | 8 => cmD base (P.Fd 1) (P.pd 1) (A.d 1)
 | 9 => cmR base (P.Fr 0) (P.px 0) m (B.d 0)
 | 10 => cmR base (P.Fr 1) (P.px 1) m (B.d 1)
 | 11 => cmF (P.gf 0) P.pd (A.f 0)
 | 12 => cmF (P.gf 1) P.pd (A.f 1)
 | 13 => cmF (P.gf 2) P.pd (A.f 2)
 | 14 => cmG (P.gx 0) P.px (B.f 0)
 | 15 => cmG (P.gx 1) P.px (B.f 1)
 | 16 => cmG (P.gx 2) P.px (B.f 2)
 | _ => Cm.no
structure Good2 (A : AW) : Prop where
 fi : ∀ j x, A.f j = some x → (x.dk = 0 ∨ x.dk = 1) ∧ ∃ D, A.d x.dk = some D ∧ FiOk D x.s x.nx
 d2 : ∀ i, 2 ≤ i → A.d i = none
 f3 : ∀ j, 3 ≤ j → A.f j = none
structure Inv (base m : Nat) (w : World) (P : PL) (A B : AW) (rm : List Int) : Prop where
 sep : Sep base w (comp base m P A B rm)
 gl : Gl w
 b0 : 0 < base
 rm1 : 1 ≤ rm.length ∧ rm.length ≤ 10000000
 ga : Good2 A
 gb : Good2 B
theorem Inv.below {base m : Nat} {w w1 : World} {P : PL} {A B : AW} {rm : List Int} (h : Inv base m w P A B rm) (hb : Below w.heap.size w w1) : Inv base m w1 P A B rm :=
 ⟨h.sep.below hb, h.gl.below hb (by have := h.gl.1; omega), h.b0, h.rm1, h.ga, h.gb⟩
theorem Good2.setD {A : AW} (h : Good2 A) {i : Nat} {D D' : DS} (hi : i < 2) (hD : A.d i = some D) (hn : D'.np = D.np) : Good2 { A with d := upC A.d i (some D') } := by
 refine ⟨fun j x hx => ?_, fun k hk => ?_, h.f3⟩
 · obtain ⟨h1, D0, h2, h3⟩ := h.fi j x hx
   refine ⟨h1, ?_⟩
   by_cases e : x.dk = i
   · rw [e, hD] at h2
     cases h2
     exact ⟨D', by show upC A.d i (some D') x.dk = _; rw [e, upC_at], h3.to hn⟩
   · exact ⟨D0, by show upC A.d i (some D') x.dk = _; rw [upC_ne _ _ _ e]; exact h2, h3⟩
 · show upC A.d i (some D') k = none
   rw [upC_ne _ _ _ (by omega)]; exact h.d2 k hk
theorem Sep.more {base m m' : Nat} {w : World} {P : PL} {A B : AW} {rm : List Int} (h : Sep base w (comp base m P A B rm)) (hm : m ≤ m') : Sep base w (comp base m' P A B rm) := by
 have e : ∀ k, (comp base m' P A B rm k).fp = (comp base m P A B rm k).fp := fun k => by
   rcases k with _ | _ | _ | _ | _ | _ | _ | _ | _ | _ | _ | _ | _ | _ | _ | _ | _ | k
   all_goals first | rfl | skip
   · show (cmR base (P.Fr 0) (P.px 0) m' (B.d 0)).fp = (cmR base (P.Fr 0) (P.px 0) m (B.d 0)).fp
     cases B.d 0 <;> rfl
   · show (cmR base (P.Fr 1) (P.px 1) m' (B.d 1)).fp = (cmR base (P.Fr 1) (P.px 1) m (B.d 1)).fp
     cases B.d 1 <;> rfl
 refine ⟨h.hb, fun k => ?_, fun i j hij => by rw [e i, e j]; exact h.ap i j hij⟩
 have hk := h.ok k
 refine ⟨by rw [e k]; exact hk.1, fun w1 h1 => ?_⟩
 rw [e k] at h1
 have hP := hk.2 w1 h1
 rcases k with _ | _ | _ | _ | _ | _ | _ | _ | _ | _ | _ | _ | _ | _ | _ | _ | _ | k
 all_goals first | exact hP | skip
 · show (cmR base (P.Fr 0) (P.px 0) m' (B.d 0)).P w1
   have hP : (cmR base (P.Fr 0) (P.px 0) m (B.d 0)).P w1 := hP
   cases hB : B.d 0 with
   | none => trivial
   | some D => rw [hB] at hP; exact RD.more hP hm
 · show (cmR base (P.Fr 1) (P.px 1) m' (B.d 1)).P w1
   have hP : (cmR base (P.Fr 1) (P.px 1) m (B.d 1)).P w1 := hP
   cases hB : B.d 1 with
   | none => trivial
   | some D => rw [hB] at hP; exact RD.more hP hm
theorem ptrD_set (p : Nat → Nat) (A : AW) {i : Nat} {D D' : DS} (hD : A.d i = some D) (k : Nat) : ptrD p { A with d := upC A.d i (some D') } k = ptrD p A k := by
 unfold ptrD
 by_cases e : k = i
 · subst e; show Value.pointer ((upC A.d k (some D') k).map _) = _; rw [upC_at, hD]; rfl
 · show Value.pointer ((upC A.d i (some D') k).map _) = _; rw [upC_ne _ _ _ e]
theorem Inv.rdisk {base m m' : Nat} {w w1 : World} {P : PL} {A B : AW} {rm : List Int} (h : Inv base m w P A B rm) (i : Nat) (hi : i < 2) {D D' : DS} (hD : B.d i = some D) (hn : D'.np = D.np) (hm : m ≤ m') {F' : List Nat} (h1 : RD w1 base F' (P.px i) m' D') (h2 : Go.Proofs.YtjhocjjecfdphaaGreatDoor.Fr (P.Fr i) w w1) (h3 : Gr w (P.Fr i) F') : Inv base m' w1 { P with Fr := upC P.Fr i F' } A { B with d := upC B.d i (some D') } rm := by
 have hs := h.sep.more hm
 have hi2 : i = 0 ∨ i = 1 := by omega
 have hfp : (comp base m' P A B rm (9 + i)).fp = P.Fr i := by
   rcases hi2 with rfl | rfl
   · show (cmR base (P.Fr 0) (P.px 0) m' (B.d 0)).fp = _; rw [hD]; rfl
   · show (cmR base (P.Fr 1) (P.px 1) m' (B.d 1)).fp = _; rw [hD]; rfl
 have hst := hs.step (9 + i) (c := cmR base F' (P.px i) m' (some D')) (by rw [hfp]; exact h2) (by rw [hfp]; exact h3) (cmR_ok h1)
 have hg : Gl w1 := h.gl.fr h2 (fun k hk => by have := (hs.ok (9 + i)).1 k (by rw [hfp]; exact hk); exact this.1) h.b0
 refine ⟨?_, hg, h.b0, h.rm1, h.ga, h.gb.setD hi hD hn⟩
 have e : comp base m' { P with Fr := upC P.Fr i F' } A { B with d := upC B.d i (some D') } rm = upC (comp base m' P A B rm) (9 + i) (cmR base F' (P.px i) m' (some D')) := by
   funext k
   have p0 := ptrD_set P.px B (D' := D') hD
   rcases hi2 with rfl | rfl
   all_goals
     rcases k with _ | _ | _ | _ | _ | _ | _ | _ | _ | _ | _ | _ | _ | _ | _ | _ | _ | k
     all_goals first | rfl | (show cmRow base 54 P.Dx 2 _ = cmRow base 54 P.Dx 2 _; rw [p0, p0]) | (rw [upC_ne _ _ _ (by omega)]; rfl)
 rw [e]; exact hst
theorem ptrF_set (g : Nat → Nat) (A : AW) {j : Nat} {x x' : FI} {d : Nat → Option DS} (hx : A.f j = some x) (k : Nat) : ptrF g ⟨d, upC A.f j (some x')⟩ k = ptrF g A k := by
 unfold ptrF
 by_cases e : k = j
 · subst e; show Value.pointer ((upC A.f k (some x') k).map _) = _; rw [upC_at, hx]; rfl
 · show Value.pointer ((upC A.f j (some x') k).map _) = _; rw [upC_ne _ _ _ e]
theorem ptrD_set' (p : Nat → Nat) (A : AW) {i : Nat} {D D' : DS} {f : Nat → Option FI} (hD : A.d i = some D) (k : Nat) : ptrD p ⟨upC A.d i (some D'), f⟩ k = ptrD p A k := by
 unfold ptrD
 by_cases e : k = i
 · subst e; show Value.pointer ((upC A.d k (some D') k).map _) = _; rw [upC_at, hD]; rfl
 · show Value.pointer ((upC A.d i (some D') k).map _) = _; rw [upC_ne _ _ _ e]
theorem Good2.setF {A : AW} (h : Good2 A) {i j : Nat} {D D' : DS} {x : FI} (hi : i < 2) (hj : j < 3) (hD : A.d i = some D) (hn : D'.np = D.np) (hx : x.dk = i) (hf : FiOk D' x.s x.nx) : Good2 ⟨upC A.d i (some D'), upC A.f j (some x)⟩ := by
 have h1 := h.setD hi hD hn
 refine ⟨fun k y hy => ?_, h1.d2, fun k hk => ?_⟩
 · by_cases e : k = j
   · subst e
     have hy : upC A.f k (some x) k = some y := hy
     rw [upC_at] at hy
     cases hy
     exact ⟨by omega, D', by show upC A.d i (some D') x.dk = _; rw [hx, upC_at], hf⟩
   · have hy : upC A.f j (some x) k = some y := hy
     rw [upC_ne _ _ _ e] at hy
     exact h1.fi k y hy
 · show upC A.f j (some x) k = none
   rw [upC_ne _ _ _ (by omega)]; exact h.f3 k hk
theorem Inv.atD {base m : Nat} {w : World} {P : PL} {A B : AW} {rm : List Int} (h : Inv base m w P A B rm) (i : Nat) (hi : i < 2) {D : DS} (hD : A.d i = some D) : DA w base (P.Fd i) (P.pd i) D := by
 have hi2 : i = 0 ∨ i = 1 := by omega
 rcases hi2 with rfl | rfl
 · have := h.sep.here 7
   change (cmD base (P.Fd 0) (P.pd 0) (A.d 0)).P w at this
   rw [hD] at this; exact this
 · have := h.sep.here 8
   change (cmD base (P.Fd 1) (P.pd 1) (A.d 1)).P w at this
   rw [hD] at this; exact this
theorem Inv.atR {base m : Nat} {w : World} {P : PL} {A B : AW} {rm : List Int} (h : Inv base m w P A B rm) (i : Nat) (hi : i < 2) {D : DS} (hD : B.d i = some D) : RD w base (P.Fr i) (P.px i) m D := by
 have hi2 : i = 0 ∨ i = 1 := by omega
 rcases hi2 with rfl | rfl
 · have := h.sep.here 9
   change (cmR base (P.Fr 0) (P.px 0) m (B.d 0)).P w at this
   rw [hD] at this; exact this
 · have := h.sep.here 10
   change (cmR base (P.Fr 1) (P.px 1) m (B.d 1)).P w at this
   rw [hD] at this; exact this
theorem Inv.atF {base m : Nat} {w : World} {P : PL} {A B : AW} {rm : List Int} (h : Inv base m w P A B rm) (j : Nat) (hj : j < 3) {x : FI} (hx : A.f j = some x) : FK w (P.gf j) (P.pd x.dk) x.s x.nx x.ep := by
 have hj2 : j = 0 ∨ j = 1 ∨ j = 2 := by omega
 rcases hj2 with rfl | rfl | rfl
 · have := h.sep.here 11
   change (cmF (P.gf 0) P.pd (A.f 0)).P w at this
   rw [hx] at this; exact this
 · have := h.sep.here 12
   change (cmF (P.gf 1) P.pd (A.f 1)).P w at this
   rw [hx] at this; exact this
 · have := h.sep.here 13
   change (cmF (P.gf 2) P.pd (A.f 2)).P w at this
   rw [hx] at this; exact this
theorem Inv.atG {base m : Nat} {w : World} {P : PL} {A B : AW} {rm : List Int} (h : Inv base m w P A B rm) (j : Nat) (hj : j < 3) {x : FI} (hx : B.f j = some x) : XK w (P.gx j) (P.px x.dk) x.s x.nx x.ep := by
 have hj2 : j = 0 ∨ j = 1 ∨ j = 2 := by omega
 rcases hj2 with rfl | rfl | rfl
 · have := h.sep.here 14
   change (cmG (P.gx 0) P.px (B.f 0)).P w at this
   rw [hx] at this; exact this
 · have := h.sep.here 15
   change (cmG (P.gx 1) P.px (B.f 1)).P w at this
   rw [hx] at this; exact this
 · have := h.sep.here 16
   change (cmG (P.gx 2) P.px (B.f 2)).P w at this
   rw [hx] at this; exact this
theorem Inv.pdisk {base m : Nat} {w w1 : World} {P : PL} {A B : AW} {rm : List Int} (h : Inv base m w P A B rm) (i : Nat) (hi : i < 2) {D D' : DS} (hD : A.d i = some D) (hn : D'.np = D.np) {F' : List Nat} (h1 : DA w1 base F' (P.pd i) D') (h2 : Go.Proofs.YtjhocjjecfdphaaGreatDoor.Fr (P.Fd i) w w1) (h3 : Gr w (P.Fd i) F') : Inv base m w1 { P with Fd := upC P.Fd i F' } { A with d := upC A.d i (some D') } B rm := by
 have hs := h.sep
 have hi2 : i = 0 ∨ i = 1 := by omega
 have hfp : (comp base m P A B rm (7 + i)).fp = P.Fd i := by
   rcases hi2 with rfl | rfl
   · show (cmD base (P.Fd 0) (P.pd 0) (A.d 0)).fp = _; rw [hD]; rfl
   · show (cmD base (P.Fd 1) (P.pd 1) (A.d 1)).fp = _; rw [hD]; rfl
 have hst := hs.step (7 + i) (c := cmD base F' (P.pd i) (some D')) (by rw [hfp]; exact h2) (by rw [hfp]; exact h3) (cmD_ok h1)
 have hg : Gl w1 := h.gl.fr h2 (fun k hk => by have := (hs.ok (7 + i)).1 k (by rw [hfp]; exact hk); exact this.1) h.b0
 refine ⟨?_, hg, h.b0, h.rm1, h.ga.setD hi hD hn, h.gb⟩
 have e : comp base m { P with Fd := upC P.Fd i F' } { A with d := upC A.d i (some D') } B rm = upC (comp base m P A B rm) (7 + i) (cmD base F' (P.pd i) (some D')) := by
   funext k
   have p0 := ptrD_set P.pd A (D' := D') hD
   rcases hi2 with rfl | rfl
   all_goals
     rcases k with _ | _ | _ | _ | _ | _ | _ | _ | _ | _ | _ | _ | _ | _ | _ | _ | _ | k
     all_goals first | rfl | (show cmRow base 60 P.Dv 2 _ = cmRow base 60 P.Dv 2 _; rw [p0, p0]) | (rw [upC_ne _ _ _ (by omega)]; rfl)
 rw [e]; exact hst
theorem Inv.rfile {base m m' : Nat} {w w1 : World} {P : PL} {A B : AW} {rm : List Int} (h : Inv base m w P A B rm) (i j : Nat) (hi : i < 2) (hj : j < 3) {D D' : DS} {x : FI} (hD : B.d i = some D) (hx : B.f j = some x) (hxi : x.dk = i) (hn : D'.np = D.np) (hm : m ≤ m') {s' : Sup} {nx' : Int} (hf : FiOk D' s' nx') (hR : RNF base (P.Fr i) (P.px i) (P.gx j) w m' D' s' nx' x.ep w1) : ∃ F', Inv base m' w1 { P with Fr := upC P.Fr i F' } A ⟨upC B.d i (some D'), upC B.f j (some { x with s := s', nx := nx' })⟩ rm := by
 obtain ⟨F', h1, h2, h3, h4⟩ := hR
 refine ⟨F', ?_⟩
 have hs := h.sep.more hm
 have hi2 : i = 0 ∨ i = 1 := by omega
 have hj2 : j = 0 ∨ j = 1 ∨ j = 2 := by omega
 have hfp : (comp base m' P A B rm (9 + i)).fp = P.Fr i := by
   rcases hi2 with rfl | rfl
   · show (cmR base (P.Fr 0) (P.px 0) m' (B.d 0)).fp = _; rw [hD]; rfl
   · show (cmR base (P.Fr 1) (P.px 1) m' (B.d 1)).fp = _; rw [hD]; rfl
 have hfg : (comp base m' P A B rm (14 + j)).fp = [P.gx j] := by
   rcases hj2 with rfl | rfl | rfl
   · show (cmG (P.gx 0) P.px (B.f 0)).fp = _; rw [hx]; rfl
   · show (cmG (P.gx 1) P.px (B.f 1)).fp = _; rw [hx]; rfl
   · show (cmG (P.gx 2) P.px (B.f 2)).fp = _; rw [hx]; rfl
 have hgb : base ≤ P.gx j := ((hs.ok (14 + j)).1 (P.gx j) (by rw [hfg]; exact List.mem_cons_self)).1
 have hgl : P.gx j < w.heap.size := ((hs.ok (14 + j)).1 (P.gx j) (by rw [hfg]; exact List.mem_cons_self)).2
 have hst := hs.step2 (9 + i) (14 + j) (by omega) (c := cmR base F' (P.px i) m' (some D')) (d := cmG (P.gx j) P.px (some { x with s := s', nx := nx' })) h3 (fun k hk => by
     rcases List.mem_cons.1 hk with q | q
     · exact Or.inr (by rw [hfg, q]; exact List.mem_cons_self)
     · exact Or.inl (by rw [hfp]; exact q)) (fun k hk => by
     rcases h4 k hk with q | q
     · exact Or.inl (by rw [hfp]; exact q)
     · exact Or.inr (Or.inr q)) (fun k hk => Or.inr (Or.inl (by rw [hfg]; exact hk))) (fun k hk hg => by
     have e : k = P.gx j := List.mem_singleton.1 hg
     subst e
     rcases h4 _ hk with q | q
     · exact h.sep.more hm |>.ap (9 + i) (14 + j) (by omega) _ (by rw [hfp]; exact q) (by rw [hfg]; exact List.mem_cons_self)
     · omega) (cmR_ok h1) (cmG_ok (x := { x with s := s', nx := nx' }) (by show XK w1 (P.gx j) (P.px x.dk) s' nx' x.ep; rw [hxi]; exact h2) hgb)
 have hg : Gl w1 := h.gl.fr h3 (fun k hk => by
   rcases List.mem_cons.1 hk with q | q
   · rw [q]; exact hgb
   · exact ((hs.ok (9 + i)).1 k (by rw [hfp]; exact q)).1) h.b0
 refine ⟨?_, hg, h.b0, h.rm1, h.ga, h.gb.setF hi hj hD hn (x := { x with s := s', nx := nx' }) hxi hf⟩
 have e : comp base m' { P with Fr := upC P.Fr i F' } A ⟨upC B.d i (some D'), upC B.f j (some { x with s := s', nx := nx' })⟩ rm = upC (upC (comp base m' P A B rm) (9 + i) (cmR base F' (P.px i) m' (some D'))) (14 + j) (cmG (P.gx j) P.px (some { x with s := s', nx := nx' })) := by
   funext k
   have p0 := ptrD_set' P.px B (D' := D') (f := upC B.f j (some { x with s := s', nx := nx' })) hD
   have p1 := ptrF_set P.gx B (x' := { x with s := s', nx := nx' }) (d := upC B.d i (some D')) hx
   rcases hi2 with rfl | rfl <;> rcases hj2 with rfl | rfl | rfl
   all_goals
     rcases k with _ | _ | _ | _ | _ | _ | _ | _ | _ | _ | _ | _ | _ | _ | _ | _ | _ | k
     all_goals first | rfl | (show cmRow base 54 P.Dx 2 _ = cmRow base 54 P.Dx 2 _; rw [p0, p0]) | (show cmRow base 47 P.Fx 3 _ = cmRow base 47 P.Fx 3 _; rw [p1, p1, p1]) | (rw [upC_ne _ _ _ (by omega), upC_ne _ _ _ (by omega)]; rfl)
 rw [e]; exact hst
theorem Inv.pfile {base m : Nat} {w w1 : World} {P : PL} {A B : AW} {rm : List Int} (h : Inv base m w P A B rm) (i j : Nat) (hi : i < 2) (hj : j < 3) {D D' : DS} {x : FI} (hD : A.d i = some D) (hx : A.f j = some x) (hxi : x.dk = i) (hn : D'.np = D.np) {s' : Sup} {nx' : Int} (hf : FiOk D' s' nx') (hR : NxF base (P.Fd i) (P.pd i) (P.gf j) w D' s' nx' x.ep w1) : ∃ F', Inv base m w1 { P with Fd := upC P.Fd i F' } ⟨upC A.d i (some D'), upC A.f j (some { x with s := s', nx := nx' })⟩ B rm := by
 obtain ⟨F', h1, h2, h3, h4⟩ := hR
 refine ⟨F', ?_⟩
 have hs := h.sep
 have hi2 : i = 0 ∨ i = 1 := by omega
 have hj2 : j = 0 ∨ j = 1 ∨ j = 2 := by omega
 have hfp : (comp base m P A B rm (7 + i)).fp = P.Fd i := by
   rcases hi2 with rfl | rfl
   · show (cmD base (P.Fd 0) (P.pd 0) (A.d 0)).fp = _; rw [hD]; rfl
   · show (cmD base (P.Fd 1) (P.pd 1) (A.d 1)).fp = _; rw [hD]; rfl
 have hfg : (comp base m P A B rm (11 + j)).fp = [P.gf j] := by
   rcases hj2 with rfl | rfl | rfl
   · show (cmF (P.gf 0) P.pd (A.f 0)).fp = _; rw [hx]; rfl
   · show (cmF (P.gf 1) P.pd (A.f 1)).fp = _; rw [hx]; rfl
   · show (cmF (P.gf 2) P.pd (A.f 2)).fp = _; rw [hx]; rfl
 have hgb : base ≤ P.gf j := ((hs.ok (11 + j)).1 (P.gf j) (by rw [hfg]; exact List.mem_cons_self)).1
 have hgl : P.gf j < w.heap.size := ((hs.ok (11 + j)).1 (P.gf j) (by rw [hfg]; exact List.mem_cons_self)).2
 have hst := hs.step2 (7 + i) (11 + j) (by omega) (c := cmD base F' (P.pd i) (some D')) (d := cmF (P.gf j) P.pd (some { x with s := s', nx := nx' })) h3 (fun k hk => by
     rcases List.mem_cons.1 hk with q | q
     · exact Or.inr (by rw [hfg, q]; exact List.mem_cons_self)
     · exact Or.inl (by rw [hfp]; exact q)) (fun k hk => by
     rcases h4 k hk with q | q
     · exact Or.inl (by rw [hfp]; exact q)
     · exact Or.inr (Or.inr q)) (fun k hk => Or.inr (Or.inl (by rw [hfg]; exact hk))) (fun k hk hg => by
     have e : k = P.gf j := List.mem_singleton.1 hg
     subst e
     rcases h4 _ hk with q | q
     · exact h.sep.ap (7 + i) (11 + j) (by omega) _ (by rw [hfp]; exact q) (by rw [hfg]; exact List.mem_cons_self)
     · omega) (cmD_ok h1) (cmF_ok (x := { x with s := s', nx := nx' }) (by show FK w1 (P.gf j) (P.pd x.dk) s' nx' x.ep; rw [hxi]; exact h2) hgb)
 have hg : Gl w1 := h.gl.fr h3 (fun k hk => by
   rcases List.mem_cons.1 hk with q | q
   · rw [q]; exact hgb
   · exact ((hs.ok (7 + i)).1 k (by rw [hfp]; exact q)).1) h.b0
 refine ⟨?_, hg, h.b0, h.rm1, h.ga.setF hi hj hD hn (x := { x with s := s', nx := nx' }) hxi hf, h.gb⟩
 have e : comp base m { P with Fd := upC P.Fd i F' } ⟨upC A.d i (some D'), upC A.f j (some { x with s := s', nx := nx' })⟩ B rm = upC (upC (comp base m P A B rm) (7 + i) (cmD base F' (P.pd i) (some D'))) (11 + j) (cmF (P.gf j) P.pd (some { x with s := s', nx := nx' })) := by
   funext k
   have p0 := ptrD_set' P.pd A (D' := D') (f := upC A.f j (some { x with s := s', nx := nx' })) hD
   have p1 := ptrF_set P.gf A (x' := { x with s := s', nx := nx' }) (d := upC A.d i (some D')) hx
   rcases hi2 with rfl | rfl <;> rcases hj2 with rfl | rfl | rfl
   all_goals
     rcases k with _ | _ | _ | _ | _ | _ | _ | _ | _ | _ | _ | _ | _ | _ | _ | _ | _ | k
     all_goals first | rfl | (show cmRow base 60 P.Dv 2 _ = cmRow base 60 P.Dv 2 _; rw [p0, p0]) | (show cmRow base 69 P.Fv 3 _ = cmRow base 69 P.Fv 3 _; rw [p1, p1, p1]) | (rw [upC_ne _ _ _ (by omega), upC_ne _ _ _ (by omega)]; rfl)
 rw [e]; exact hst
theorem Sep.put {base : Nat} {w : World} {C : Nat → Cm} (h : Sep base w C) (i : Nat) {c : Cm} (hc : c.ok base w) (ha : ∀ j, j ≠ i → Apart c.fp (C j).fp) : Sep base w (upC C i c) := by
 refine ⟨h.hb, fun j => ?_, fun a b hab => ?_⟩
 · by_cases e : j = i
   · subst e; rw [upC_at]; exact hc
   · rw [upC_ne _ _ _ e]; exact h.ok j
 · by_cases ea : a = i
   · subst ea; rw [upC_at, upC_ne _ _ _ (Ne.symm hab)]; exact ha b (Ne.symm hab)
   · rw [upC_ne _ _ _ ea]
     by_cases eb : b = i
     · subst eb; rw [upC_at]; exact (ha a ea).symm
     · rw [upC_ne _ _ _ eb]; exact h.ap a b hab
theorem row_at {w : World} {base t n : Nat} {v : Value} {cs : List Value} (h : w.ownsRow base t 1 v n cs) (hn : 0 < n) : ∃ b cap, v = .slice (some ⟨b, 0, none⟩) n cap ∧ v.ownBlock = some b ∧ n ≤ cap ∧ cap ≤ maxLen ∧ (∀ j, j < n → w.cell? ⟨b, j, none⟩ = cs[j]? ∧ w.frozen? ⟨b, j, none⟩ = false) ∧ ∀ j x, j < n → (w.setCell ⟨b, j, none⟩ x).ownsRow base t 1 v n (cs.set j x) := by
 have hl := h.1
 rcases h.2 with ⟨_, h0⟩ | ⟨b, cap, cur, e, hb, hh, hc, hm, hs, ht⟩
 · omega
 · refine ⟨b, cap, e, by rw [e]; rfl, hc, hm, fun j hj => ⟨?_, frozen_of_row _ _ _ _ _ hh⟩, fun j x hj => ?_⟩
   · rw [cell_of_row _ _ _ _ _ _ hh, ← ht, List.getElem?_take, if_pos (by omega)]; simp
   · refine ⟨by rw [List.length_set]; exact hl, Or.inr ⟨b, cap, cur.setIfInBounds j x, e, hb, heap_setCell_same _ _ _ _ _ _ hh, hc, hm, by rw [Array.size_setIfInBounds]; exact hs, ?_⟩⟩
     rw [Array.toList_setIfInBounds, ← ht, List.take_set]
theorem cm_lt {base : Nat} {w : World} {C : Nat → Cm} (h : Sep base w C) (k i : Nat) (hk : k ∈ (C i).fp) : k < w.heap.size := ((h.ok i).1 k hk).2
theorem Inv.ropen {base m : Nat} {w : World} {P : PL} {A B : AW} {rm : List Int} (h : Inv base m w P A B rm) (i j : Nat) (hi : i < 2) (hj : j < 3) {D : DS} (hD : B.d i = some D) (x : FI) (hxi : x.dk = i) (hf : FiOk D x.s x.nx) (g : Nat) (hg : XK w g (P.px i) x.s x.nx x.ep) (hgb : base ≤ g) (hgn : ∀ k, g ∉ (comp base m P A B rm k).fp) :
   ∃ b cap, P.Fx = .slice (some ⟨b, 0, none⟩) 3 cap ∧ 3 ≤ cap ∧ w.cell? ⟨b, j, none⟩ = some (ptrF P.gx B j) ∧ w.frozen? ⟨b, j, none⟩ = false ∧ Inv base m (w.setCell ⟨b, j, none⟩ (.pointer (some ⟨g, 0, none⟩))) { P with gx := upC P.gx j g } A { B with f := upC B.f j (some x) } rm := by
 have hrow : w.ownsRow base 47 1 P.Fx 3 [ptrF P.gx B 0, ptrF P.gx B 1, ptrF P.gx B 2] := h.sep.here 6
 obtain ⟨b, cap, e, hob, hc, hm, hcell, hset⟩ := row_at hrow (by omega)
 have hj2 : j = 0 ∨ j = 1 ∨ j = 2 := by omega
 have hbg : b ≠ g := fun c => hgn 6 (by show g ∈ P.Fx.ownBlock.toList; rw [hob, c]; simp)
 refine ⟨b, cap, e, hc, ?_, (hcell j hj).2, ?_⟩
 · rw [(hcell j hj).1]; rcases hj2 with rfl | rfl | rfl <;> rfl
 · have hput := h.sep.put (14 + j) (c := cmG g P.px (some x)) (cmG_ok (by show XK w g (P.px x.dk) x.s x.nx x.ep; rw [hxi]; exact hg) hgb) (fun k hk q hq => by
     have : q = g := List.mem_singleton.1 hq
     subst this; exact hgn k)
   have h6 : (upC (comp base m P A B rm) (14 + j) (cmG g P.px (some x)) 6) = cmRow base 47 P.Fx 3 [ptrF P.gx B 0, ptrF P.gx B 1, ptrF P.gx B 2] := by rw [upC_ne _ _ _ (by omega)]; rfl
   have hfr : Go.Proofs.YtjhocjjecfdphaaGreatDoor.Fr [b] w (w.setCell ⟨b, j, none⟩ (.pointer (some ⟨g, 0, none⟩))) := (Fr.refl [b] w).setCell List.mem_cons_self j _
   have hst := hput.step 6 (c := cmRow base 47 P.Fx 3 ([ptrF P.gx B 0, ptrF P.gx B 1, ptrF P.gx B 2].set j (.pointer (some ⟨g, 0, none⟩)))) (w1 := w.setCell ⟨b, j, none⟩ (.pointer (some ⟨g, 0, none⟩))) (by rw [h6]; show Go.Proofs.YtjhocjjecfdphaaGreatDoor.Fr P.Fx.ownBlock.toList _ _; rw [hob]; exact hfr) (by rw [h6]; exact fun k hk => Or.inl hk) (cmRow_ok (hset j _ hj))
   have hb6 : base ≤ b := ((h.sep.ok 6).1 b (by show b ∈ P.Fx.ownBlock.toList; rw [hob]; simp)).1
   have hgl : Gl (w.setCell ⟨b, j, none⟩ (.pointer (some ⟨g, 0, none⟩))) := h.gl.fr hfr (fun k hk => by rw [List.mem_singleton.1 hk]; exact hb6) h.b0
   refine ⟨?_, hgl, h.b0, h.rm1, h.ga, ?_⟩
   · have ee : comp base m { P with gx := upC P.gx j g } A { B with f := upC B.f j (some x) } rm = upC (upC (comp base m P A B rm) (14 + j) (cmG g P.px (some x))) 6 (cmRow base 47 P.Fx 3 ([ptrF P.gx B 0, ptrF P.gx B 1, ptrF P.gx B 2].set j (.pointer (some ⟨g, 0, none⟩)))) := by
       funext k
       rcases hj2 with rfl | rfl | rfl
       all_goals
         rcases k with _ | _ | _ | _ | _ | _ | _ | _ | _ | _ | _ | _ | _ | _ | _ | _ | _ | k
         all_goals first | rfl | (rw [upC_ne _ _ _ (by omega), upC_ne _ _ _ (by omega)]; rfl)
     rw [ee]; exact hst
   · have hs := h.gb.setF hi hj hD rfl (x := x) hxi hf
     have e2 : upC B.d i (some D) = B.d := by
       funext k
       by_cases c : k = i
       · subst c; rw [upC_at, hD]
       · rw [upC_ne _ _ _ c]
     rw [e2] at hs
     exact hs
theorem Inv.popen {base m : Nat} {w : World} {P : PL} {A B : AW} {rm : List Int} (h : Inv base m w P A B rm) (i j : Nat) (hi : i < 2) (hj : j < 3) {D : DS} (hD : A.d i = some D) (x : FI) (hxi : x.dk = i) (hf : FiOk D x.s x.nx) (g : Nat) (hg : FK w g (P.pd i) x.s x.nx x.ep) (hgb : base ≤ g) (hgn : ∀ k, g ∉ (comp base m P A B rm k).fp) :
   ∃ b cap, P.Fv = .slice (some ⟨b, 0, none⟩) 3 cap ∧ 3 ≤ cap ∧ w.cell? ⟨b, j, none⟩ = some (ptrF P.gf A j) ∧ w.frozen? ⟨b, j, none⟩ = false ∧ Inv base m (w.setCell ⟨b, j, none⟩ (.pointer (some ⟨g, 0, none⟩))) { P with gf := upC P.gf j g } { A with f := upC A.f j (some x) } B rm := by
 have hrow : w.ownsRow base 69 1 P.Fv 3 [ptrF P.gf A 0, ptrF P.gf A 1, ptrF P.gf A 2] := h.sep.here 2
 obtain ⟨b, cap, e, hob, hc, hm, hcell, hset⟩ := row_at hrow (by omega)
 have hj2 : j = 0 ∨ j = 1 ∨ j = 2 := by omega
 refine ⟨b, cap, e, hc, ?_, (hcell j hj).2, ?_⟩
 · rw [(hcell j hj).1]; rcases hj2 with rfl | rfl | rfl <;> rfl
 · have hput := h.sep.put (11 + j) (c := cmF g P.pd (some x)) (cmF_ok (by show FK w g (P.pd x.dk) x.s x.nx x.ep; rw [hxi]; exact hg) hgb) (fun k hk q hq => by
     have : q = g := List.mem_singleton.1 hq
     subst this; exact hgn k)
   have h6 : (upC (comp base m P A B rm) (11 + j) (cmF g P.pd (some x)) 2) = cmRow base 69 P.Fv 3 [ptrF P.gf A 0, ptrF P.gf A 1, ptrF P.gf A 2] := by rw [upC_ne _ _ _ (by omega)]; rfl
   have hfr : Go.Proofs.YtjhocjjecfdphaaGreatDoor.Fr [b] w (w.setCell ⟨b, j, none⟩ (.pointer (some ⟨g, 0, none⟩))) := (Fr.refl [b] w).setCell List.mem_cons_self j _
   have hst := hput.step 2 (c := cmRow base 69 P.Fv 3 ([ptrF P.gf A 0, ptrF P.gf A 1, ptrF P.gf A 2].set j (.pointer (some ⟨g, 0, none⟩)))) (w1 := w.setCell ⟨b, j, none⟩ (.pointer (some ⟨g, 0, none⟩))) (by rw [h6]; show Go.Proofs.YtjhocjjecfdphaaGreatDoor.Fr P.Fv.ownBlock.toList _ _; rw [hob]; exact hfr) (by rw [h6]; exact fun k hk => Or.inl hk) (cmRow_ok (hset j _ hj))
   have hb6 : base ≤ b := ((h.sep.ok 2).1 b (by show b ∈ P.Fv.ownBlock.toList; rw [hob]; simp)).1
   have hgl : Gl (w.setCell ⟨b, j, none⟩ (.pointer (some ⟨g, 0, none⟩))) := h.gl.fr hfr (fun k hk => by rw [List.mem_singleton.1 hk]; exact hb6) h.b0
   refine ⟨?_, hgl, h.b0, h.rm1, ?_, h.gb⟩
   · have ee : comp base m { P with gf := upC P.gf j g } { A with f := upC A.f j (some x) } B rm = upC (upC (comp base m P A B rm) (11 + j) (cmF g P.pd (some x))) 2 (cmRow base 69 P.Fv 3 ([ptrF P.gf A 0, ptrF P.gf A 1, ptrF P.gf A 2].set j (.pointer (some ⟨g, 0, none⟩)))) := by
       funext k
       rcases hj2 with rfl | rfl | rfl
       all_goals
         rcases k with _ | _ | _ | _ | _ | _ | _ | _ | _ | _ | _ | _ | _ | _ | _ | _ | _ | k
         all_goals first | rfl | (rw [upC_ne _ _ _ (by omega), upC_ne _ _ _ (by omega)]; rfl)
     rw [ee]; exact hst
   · have hs := h.ga.setF hi hj hD rfl (x := x) hxi hf
     have e2 : upC A.d i (some D) = A.d := by
       funext k
       by_cases c : k = i
       · subst c; rw [upC_at, hD]
       · rw [upC_ne _ _ _ c]
     rw [e2] at hs
     exact hs
end
end Go.Proofs.YtjhocjjecfdphaaGreatDoor
