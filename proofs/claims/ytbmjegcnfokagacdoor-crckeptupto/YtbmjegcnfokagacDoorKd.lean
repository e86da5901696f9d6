import Derived.Test.YtbmjegcnfokagacDoorKc
import Derived.Lib.SlBytesConst
import Derived.Laws.IdiomStrings
namespace Go.Proofs.YtbmjegcnfokagacDoor
set_option linter.unusedVariables false
set_option linter.unusedSimpArgs false
open Go.RowKit
attribute [local go_sem ↓] Go.wp_at_zero Go.wp_at_succ

/-- A list that Seal answered: no spare room. -/
def AsV (w : World) (base : Nat) (v : Value) (zs : List Int) : Prop := ∃ g, v = .slice (some ⟨g, 0, none⟩) zs.length zs.length ∧ In w g [] zs ∧ base ≤ g
def AsL (w : World) (base : Nat) (v : Value) (n : Nat) : Prop := ∃ g os, v = .slice (some ⟨g, 0, none⟩) n n ∧ In w g [] os ∧ os.length = n ∧ base ≤ g
theorem AsV.l {w : World} {base : Nat} {v : Value} {zs : List Int} (h : AsV w base v zs) : AsL w base v zs.length := by
  obtain ⟨g, e, hI, hg⟩ := h; exact ⟨g, zs, e, hI, rfl, hg⟩
theorem AsV.of_heap {w w1 : World} {base : Nat} {v : Value} {zs : List Int} (h : AsV w base v zs) (hk : ∀ k, v.ownBlock = some k → w1.heap[k]? = w.heap[k]?) : AsV w1 base v zs := by
  obtain ⟨g, rfl, hI, hg⟩ := h; exact ⟨g, rfl, (hk g rfl).trans hI, hg⟩
theorem AsL.of_heap {w w1 : World} {base : Nat} {v : Value} {n : Nat} (h : AsL w base v n) (hk : ∀ k, v.ownBlock = some k → w1.heap[k]? = w.heap[k]?) : AsL w1 base v n := by
  obtain ⟨g, os, rfl, hI, hl, hg⟩ := h; exact ⟨g, os, rfl, (hk g rfl).trans hI, hl, hg⟩
theorem AsL.heap {w : World} {base : Nat} {v : Value} {n : Nat} (h : AsL w base v n) : ∀ k, v.ownBlock = some k → k < w.heap.size ∧ ∃ cs, w.heap[k]? = some (.cells cs 5 (0, 0)) := by
  obtain ⟨g, os, rfl, hI, _⟩ := h
  intro k hk
  simp [Value.ownBlock] at hk; subst hk
  exact ⟨hlt hI, _, hI⟩
def Dist (LA : List Value) : Prop := ∀ i j, i < j → j < LA.length → (LA.getD i undef).ownBlock ≠ (LA.getD j undef).ownBlock
def OffA (LA L1 L2 L3 L4 : List Value) (n : Nat) : Prop := ∀ j, n ≤ j → j < LA.length → ∀ g, (LA.getD j undef).ownBlock = some g → Off g L1 L2 L3 L4
theorem Off.snoc {g : Nat} {L1 L2 L3 L4 : List Value} (h : Off g L1 L2 L3 L4) {x1 x2 x3 x4 : Value} (h1 : x1.ownBlock ≠ some g) (h2 : x2.ownBlock ≠ some g) (h3 : x3.ownBlock ≠ some g) (h4 : x4.ownBlock ≠ some g) : Off g (L1 ++ [x1]) (L2 ++ [x2]) (L3 ++ [x3]) (L4 ++ [x4]) := fun i => by
  obtain ⟨a, b, c, d⟩ := h i
  rw [getD_snoc, getD_snoc, getD_snoc, getD_snoc]
  refine ⟨?_, ?_, ?_, ?_⟩ <;> split <;> assumption
theorem off_fresh {w : World} {base B g : Nat} {v1 v2 v3 v4 : Value} {L1 L2 L3 L4 : List Value} {ns : List Nat} (h : Bk w base B v1 v2 v3 v4 L1 L2 L3 L4 ns) (hg : w.heap.size ≤ g) : Off g L1 L2 L3 L4 := fun i => by
  obtain ⟨l1, l2, l3, l4, hen⟩ := h.en
  by_cases hi : i < ns.length
  · obtain ⟨a, b, c, d⟩ := hen i hi
    exact ⟨fun e => by have := (a.heap g e).1; omega, fun e => by have := (b.heap g e).1; omega, fun e => by have := (c.heap g e).1; omega, fun e => by have := (d.heap g e).1; omega⟩
  · have un : ∀ L : List Value, L.length = ns.length → (L.getD i undef).ownBlock ≠ some g := fun L hl => by
      rw [List.getD_eq_getElem?_getD, List.getElem?_eq_none (by omega)]; simp [undef, Value.ownBlock]
    exact ⟨un L1 l1, un L2 l2, un L3 l3, un L4 l4⟩
/-- What put leaves. -/
def PutFr (g B : Nat) (v1 v2 v3 v4 : Value) (w w' : World) : Prop := ∀ k, k < w.heap.size → k ≠ g → k ≠ B → v1.ownBlock ≠ some k → v2.ownBlock ≠ some k → v3.ownBlock ≠ some k → v4.ownBlock ≠ some k → w'.heap[k]? = w.heap[k]?
theorem byte_put {w w' : World} {base B g : Nat} {v1 v2 v3 v4 : Value} {L1 L2 L3 L4 : List Value} {ns : List Nat} (h : Bk w base B v1 v2 v3 v4 L1 L2 L3 L4 ns) (hf : PutFr g B v1 v2 v3 v4 w w') {k : Nat} {cs : Array Value} (hk : w.heap[k]? = some (.cells cs 5 (0, 0))) (hne : k ≠ g) : w'.heap[k]? = w.heap[k]? := by
  have ns' : ∀ {v : Value} {vs : List Value}, OwnS w base v vs → v.ownBlock ≠ some k := fun hv e => by
    obtain ⟨_, _, x, hx⟩ := hv.heap k e
    exact ne_of_type hk hx (by decide) rfl
  exact hf k (hlt hk) hne (ne_of_type hk h.bk (by decide)) (ns' h.o1) (ns' h.o2) (ns' h.o3) (ns' h.o4)
theorem ownS_put {w w' : World} {base B g : Nat} {v1 v2 v3 v4 va : Value} {L1 L2 L3 L4 LA : List Value} {ns : List Nat} {cs : Array Value} (h : Bk w base B v1 v2 v3 v4 L1 L2 L3 L4 ns) (hf : PutFr g B v1 v2 v3 v4 w w') (hg : w.heap[g]? = some (.cells cs 5 (0, 0))) (ha : OwnS w base va LA) (d1 : Dj v1 va) (d2 : Dj v2 va) (d3 : Dj v3 va) (d4 : Dj v4 va) : OwnS w' base va LA :=
  ha.of_heap fun k e => by
    obtain ⟨_, a2, x, a3⟩ := ha.heap k e
    exact hf k a2 (ne_of_type a3 hg (by decide)) (ne_of_type a3 h.bk (by decide)) (fun q => d1 k q e) (fun q => d2 k q e) (fun q => d3 k q e) (fun q => d4 k q e)
theorem own_put {w w' : World} {base b2 B g : Nat} {v1 v2 v3 v4 v : Value} {L1 L2 L3 L4 : List Value} {ns : List Nat} {zs : List Int} (h : Bk w base B v1 v2 v3 v4 L1 L2 L3 L4 ns) (hf : PutFr g B v1 v2 v3 v4 w w') (ho : Own w b2 v zs) (hg : v.ownBlock ≠ some g) : Own w' b2 v zs :=
  ho.of_heap fun k e => by
    rcases ho.parts with ⟨rfl, _⟩ | ⟨gg, _, _, rfl, _, hI, _⟩
    · simp [Value.ownBlock] at e
    · simp [Value.ownBlock] at e; subst e
      exact byte_put h hf hI (fun q => hg (by rw [q]; rfl))
/-- Another list of slices grows. -/
theorem Bk.other {w w' : World} {base B : Nat} {v1 v2 v3 v4 va : Value} {L1 L2 L3 L4 LA : List Value} {ns : List Nat} (h : Bk w base B v1 v2 v3 v4 L1 L2 L3 L4 ns) (ha : OwnS w base va LA) (d1 : Dj v1 va) (d2 : Dj v2 va) (d3 : Dj v3 va) (d4 : Dj v4 va)
    (hk : ∀ k, k < w.heap.size → va.ownBlock ≠ some k → w'.heap[k]? = w.heap[k]?) : Bk w' base B v1 v2 v3 v4 L1 L2 L3 L4 ns := by
  have hS : ∀ {v : Value} {vs : List Value}, OwnS w base v vs → Dj v va → OwnS w' base v vs := fun hv hd => hv.of_heap fun k e => hk k (hv.heap k e).2.1 (fun q => hd k e q)
  refine ⟨h.hb, (hk B (hlt h.bk) (own_ne ha h.bk)).trans h.bk, hS h.o1 d1, hS h.o2 d2, hS h.o3 d3, hS h.o4 d4, h.d12, h.d13, h.d14, h.d23, h.d24, h.d34, h.en.of_heap fun k cs a1 a2 _ _ => hk k a1 (fun e => ?_)⟩
  obtain ⟨_, _, x, hx⟩ := ha.heap k e
  exact ne_of_type a2 hx (by decide) rfl
theorem dj_put {w : World} {base : Nat} {v v' va : Value} {LA : List Value} (ha : OwnS w base va LA) (hd : Dj v va) (hv : v'.ownBlock = v.ownBlock ∨ ∃ k, v'.ownBlock = some k ∧ w.heap.size ≤ k) : Dj v' va := DjS.push ha hd hv
theorem in_seal {w : World} {g : Nat} {zs : List Int} (h : w.heap[g]? = some (.cells (ints .u8 zs).toArray 5 (0, 0))) : In w g [] zs := by unfold In; rw [List.append_nil]; exact h
theorem seal_abc : sealF [97, 98, 99] = [97, 98, 99, 194, 65, 36, 53] := by decide +kernel
theorem piece_lenK {ps : List (List Int)} {n : Nat} (hn : n < ps.length) : (ps.getD n []).length ≤ ps.flatten.length := by
  rw [List.getD_eq_getElem?_getD, List.getElem?_eq_getElem hn]
  have := List.getElem_mem hn
  generalize ps[n] = p at *
  clear hn
  show p.length ≤ _
  induction ps with
  | nil => simp at this
  | cons q ps ih =>
    rw [List.flatten_cons, List.length_append]
    rcases List.mem_cons.1 this with rfl | h
    · omega
    · have := ih h; omega
theorem piece_bytsK {ps : List (List Int)} (h : ∀ p ∈ ps, Byts p) {n : Nat} (hn : n < ps.length) : Byts (ps.getD n []) := by
  rw [List.getD_eq_getElem?_getD, List.getElem?_eq_getElem hn]; exact h _ (List.getElem_mem hn)
/-- What holds behind n texts. -/
structure KS (w wr : World) (B : Nat) (ps : List (List Int)) (n : Nat) (v1 v2 v3 v4 va : Value) (L1 L2 L3 L4 LA : List Value) (ns : List Nat) : Prop where
  bk : Bk wr w.heap.size B v1 v2 v3 v4 L1 L2 L3 L4 ns
  ln : ns.length = n
  bd : ∀ i, ns.getD i 0 ≤ 4000000
  oa : OwnS wr w.heap.size va LA
  la : LA.length = 2 * n
  e1 : Dj v1 va
  e2 : Dj v2 va
  e3 : Dj v3 va
  e4 : Dj v4 va
  asd : ∀ j, j < 2 * n → AsV wr w.heap.size (LA.getD j undef) (sealF (ps.getD (j / 2) []))
  di : Dist LA
  of : OffA LA L1 L2 L3 L4 0
  bl : Below w.heap.size w wr
theorem KS.below {w wr w1 : World} {B : Nat} {ps : List (List Int)} {n : Nat} {v1 v2 v3 v4 va : Value} {L1 L2 L3 L4 LA : List Value} {ns : List Nat} (h : KS w wr B ps n v1 v2 v3 v4 va L1 L2 L3 L4 LA ns) (hb : Below wr.heap.size wr w1) : KS w w1 B ps n v1 v2 v3 v4 va L1 L2 L3 L4 LA ns :=
  ⟨h.bk.below hb, h.ln, h.bd, h.oa.of_heap fun k e => hb.block k (h.oa.heap k e).2.1, h.la, h.e1, h.e2, h.e3, h.e4, fun j hj => (h.asd j hj).of_heap fun k e => hb.block k ((h.asd j hj).l.heap k e).1, h.di, h.of, h.bl.trans (hb.mono h.bl.size)⟩
theorem getD_two (LA : List Value) (a b : Value) (j : Nat) : (LA ++ [a, b]).getD j undef = if j = LA.length + 1 then b else if j = LA.length then a else LA.getD j undef := by
  have e : LA ++ [a, b] = (LA ++ [a]) ++ [b] := by simp
  rw [e, getD_snoc, getD_snoc]
  simp
set_option maxRecDepth 100000 in
set_option maxHeartbeats 4000000 in
theorem kept_any (w : World) (hG : Gl w) (ps : List (List Int)) (hp8 : ∀ p ∈ ps, Byts p) (sp : Option Addr) (cap : Nat) (hR : Rws w sp ps) (hcap : ps.length ≤ cap) (hcapm : cap ≤ maxLen) (hbulk : ps.flatten.length + ps.length ≤ 1048576) :
    Calls Tryd.prog 3 #[.slice sp ps.length cap] w fun e w' => e = .returned (.bool true) ∧ Below w.heap.size w w' := by
  have hw0 := hG.1
  have kc := fun (w : World) (C : Array Value) (n c : Nat) => Lib.run_convert_bytes_const (P := Tryd.prog) w 24 5 C n c Tryd.underlying24 Tryd.underlying5
  unfold maxLen at hcapm
  have i0 : (ps.length : Int) ≤ 1048576 := by omega
  go_enter Tryd.func3, Tryd.ntmps3
  go_wp2_with fail
  refine (seal_any _ [97, 98, 99] (fun x hx => by simp at hx; omega) (some ⟨w.heap.size, 0, none⟩) 3 (src_new w _ 5 (3, 4) 3 (by simp) (by simp [maxLen])) (by simp)).mono ?_
  rintro e w1 ⟨rfl, r1, b1⟩
  rw [seal_abc] at r1
  rw [show (w.alloc (.cells (ints .u8 [97, 98, 99]).toArray 5 (3, 4))).heap.size = w.heap.size + 1 by simp] at r1
  have B1 := (below_new w (.cells (ints .u8 [97, 98, 99]).toArray 5 (3, 4))).trans (b1.mono (below_new w (.cells (ints .u8 [97, 98, 99]).toArray 5 (3, 4))).size)
  clear b1
  have p1 := src_rowf (hold (o := (.cells (ints .u8 [97, 98, 99, 194, 65, 36, 53]).toArray 5 (0, 0))) r1) 7 (by simp) (by simp [maxLen])
  go_wp2_with fail
  refine (same_any _ [97, 98, 99, 194, 65, 36, 53] [97, 98, 99, 194, 65, 36, 53] _ (some ⟨w1.heap.size, 0, none⟩) 7 7 p1 (src_new w1 _ 5 (0, 0) 7 (by simp) (by simp [maxLen]))).mono ?_
  rintro e w2 ⟨rfl, b2⟩
  rw [decide_eq_true rfl]
  have B2 := (B1.alloc B1.size (.cells (ints .u8 [97, 98, 99, 194, 65, 36, 53]).toArray 5 (0, 0))).trans (b2.mono (B1.alloc B1.size (.cells (ints .u8 [97, 98, 99, 194, 65, 36, 53]).toArray 5 (0, 0))).size)
  clear p1 r1 b2 B1
  have hB0 := hnew w2 (Obj.cells #[Value.slice none 0 0, Value.slice none 0 0, Value.slice none 0 0, Value.slice none 0 0] 28)
  have B3 := B2.alloc B2.size (Obj.cells #[Value.slice none 0 0, Value.slice none 0 0, Value.slice none 0 0, Value.slice none 0 0] 28)
  have hBsz := B2.size
  have K0 : KS w (w2.alloc (Obj.cells #[Value.slice none 0 0, Value.slice none 0 0, Value.slice none 0 0, Value.slice none 0 0] 28)) w2.heap.size ps 0 (.slice none 0 0) (.slice none 0 0) (.slice none 0 0) (.slice none 0 0) (.slice none 0 0) [] [] [] [] [] [] :=
    ⟨⟨hBsz, hB0, OwnS.nil _ _, OwnS.nil _ _, OwnS.nil _ _, OwnS.nil _ _, Dj.nil _, Dj.nil _, Dj.nil _, Dj.nil _, Dj.nil _, Dj.nil _, ⟨rfl, rfl, rfl, rfl, fun i hi => by simp at hi⟩⟩, rfl, fun i => by simp, OwnS.nil _ _, rfl, Dj.nil _, Dj.nil _, Dj.nil _, Dj.nil _, fun j hj => by omega, fun i j _ hj => by simp at hj, fun j _ hj => by simp at hj, B3⟩
  go_wp2
  generalize w2.heap.size = B at *
  generalize w2.alloc (Obj.cells #[Value.slice none 0 0, Value.slice none 0 0, Value.slice none 0 0, Value.slice none 0 0] 28) = w3 at *
  clear hB0 B3 hBsz B2
  go_loopw [4, 5] (fun va i wr => ∃ (n : Nat) (v1 v2 v3 v4 : Value) (L1 L2 L3 L4 LA : List Value) (ns : List Nat), n ≤ ps.length ∧ i = .int .i64 n ∧ KS w wr B ps n v1 v2 v3 v4 va L1 L2 L3 L4 LA ns) (fun _ i _ => ps.length - (intOf i).toNat)
  case atStart => exact ⟨0, _, _, _, _, _, _, _, _, _, _, by omega, rfl, K0⟩
  case round =>
    clear K0
    obtain ⟨n, v1, v2, v3, v4, L1, L2, L3, L4, LA, ns, hn, rfl, hK⟩ := hrel
    have hB := hK.bl
    have hGr := hG.below hB hw0
    by_cases hnl : n < ps.length
    · have i1 : (n : Int) < (ps.length : Int) := by omega
      obtain ⟨b, o, ap, ac, rfl, c0, _, hA, _⟩ := hR.piece hB n hnl
      have hlen : (ps.getD n []).length ≤ 1048576 := by have := piece_lenK hnl; omega
      have h8 := piece_bytsK hp8 hnl
      have hAr := hA.below hB (Nat.le_refl _)
      have hASn : ps.getD ((2 * n) / 2) [] = ps.getD n [] ∧ ps.getD ((2 * n + 1) / 2) [] = ps.getD n [] := ⟨by congr 1; omega, by congr 1; omega⟩
      generalize ps.getD n [] = zs at *
      have i2 : (zs.length : Int) ≤ 1048576 := by omega
      go_wp2_with fail
      refine (copied_any wr zs ap ac hAr (by omega)).mono ?_
      rintro e w1 ⟨v, rfl, O1, b1⟩
      obtain ⟨tp, tc, rfl, T1, _⟩ := O1.form
      go_wp2_with fail
      refine (copied_any w1 zs tp tc T1 (by omega)).mono ?_
      rintro e w2 ⟨v, rfl, O2, b2⟩
      obtain ⟨up, uc, rfl, U2, _⟩ := O2.form
      have O12 := O1.below b2 (Nat.le_refl _)
      have T2 := T1.below b2 (Nat.le_refl _)
      go_wp2_with fail
      refine (seal_any w2 zs h8 up uc U2 (by omega)).mono ?_
      rintro e w3 ⟨rfl, r3, b3⟩
      have hne1 : (Value.slice tp zs.length tc).ownBlock ≠ some w2.heap.size := fun e => by have := (O12.block _ e).2; omega
      have hne2 : (Value.slice up zs.length uc).ownBlock ≠ some w2.heap.size := fun e => by have := (O2.block _ e).2; omega
      have O13 := O12.below b3 (Nat.le_refl _)
      have O23 := O2.below b3 (Nat.le_refl _)
      have T3 := T2.below b3 (Nat.le_refl _)
      have R3 : Below wr.heap.size wr w3 := (b1.trans (b2.mono b1.size)).trans (b3.mono (Nat.le_trans b1.size b2.size))
      have Bw3 := hB.trans (R3.mono hB.size)
      clear T1 T2 O1 O12
      go_wp2_with fail
      refine (rseal_any w3 (hG.below Bw3 hw0) zs h8 tp tc T3 hlen).mono ?_
      rintro e w4 ⟨v, rfl, O4, b4⟩
      obtain ⟨qp, qc, rfl, Q4, _⟩ := O4.form
      have r4 := hbel b4 r3 (hlt r3)
      have S8 := sealF_len zs
      have s4 := src_rowf r4 (sealF zs).length (Nat.le_refl _) (by rw [S8]; unfold maxLen; omega)
      have sm := same_any w4 (sealF zs) (sealF zs) _ qp _ qc s4 Q4
      rw [decide_eq_true rfl, S8] at sm
      rw [S8]
      go_wp2_with fail
      refine sm.mono ?_
      rintro e w5 ⟨rfl, b5⟩
      have b35 : Below w3.heap.size w3 w5 := b4.trans (b5.mono b4.size)
      have R5 : Below wr.heap.size wr w5 := R3.trans (b35.mono R3.size)
      have g5 : In w5 w2.heap.size [] (sealF zs) := in_seal (hbel b35 r3 (hlt r3))
      have O15 := O13.below b35 (Nat.le_refl _)
      have O25 := O23.below b35 (Nat.le_refl _)
      have hk5 := hK.bk.below R5
      have szW : wr.heap.size ≤ w2.heap.size := Nat.le_trans b1.size b2.size
      have hof := off_fresh hK.bk szW
      have hnsl : ns.length ≤ 4000000 := by have := hK.ln; omega
      go_wp2_with fail
      refine (put_any w5 w.heap.size B v1 v2 v3 v4 L1 L2 L3 L4 ns hk5 hnsl w2.heap.size (zs.length + 4) (sealF zs) g5 S8 (by omega) (by omega) (Nat.le_trans hB.size szW) hof).mono ?_
      rintro e w6 ⟨rfl, v1', v2', v3', v4', x2, x3, x4, hk6, ⟨f2, ef2, lf2⟩, ⟨f3, ef3, lf3⟩, ⟨f4, ef4, lf4⟩, t1, t2, t3, t4, hfr, b6⟩
      have hfr' : PutFr w2.heap.size B v1 v2 v3 v4 w5 w6 := hfr
      have oa5 : OwnS w5 w.heap.size u4 LA := hK.oa.of_heap fun k e => R5.block k (hK.oa.heap k e).2.1
      have oa6 := ownS_put hk5 hfr' g5 oa5 hK.e1 hK.e2 hK.e3 hK.e4
      have O16 := own_put hk5 hfr' O15 hne1
      have O26 := own_put hk5 hfr' O25 hne2
      have E1 := dj_put oa5 hK.e1 t1
      have E2 := dj_put oa5 hK.e2 t2
      have E3 := dj_put oa5 hK.e3 t3
      have E4 := dj_put oa5 hK.e4 t4
      have sz5 := R5.size
      have szG : w2.heap.size < w5.heap.size := hlt g5
      have sz6 := b6.size
      have as6 : ∀ j, j < 2 * n → AsV w6 w.heap.size (LA.getD j undef) (sealF (ps.getD (j / 2) [])) ∧ ∀ k, (LA.getD j undef).ownBlock = some k → k < wr.heap.size := fun j hj => by
        have a0 := hK.asd j hj
        have a1 : ∀ k, (LA.getD j undef).ownBlock = some k → k < wr.heap.size := fun k e => (a0.l.heap k e).1
        refine ⟨a0.of_heap fun k e => ?_, a1⟩
        obtain ⟨q1, cs, q2⟩ := a0.l.heap k e
        have q3 : w5.heap[k]? = some (.cells cs 5 (0, 0)) := (R5.block k q1).trans q2
        rw [byte_put hk5 hfr' q3 (by omega), R5.block k q1]
      have of6 : OffA LA (L1 ++ [.slice (some ⟨w2.heap.size, 0, none⟩) (zs.length + 4) (zs.length + 4)]) (L2 ++ [x2]) (L3 ++ [x3]) (L4 ++ [x4]) 0 := fun j h0 hj gg e => by
        have lt := (as6 j (by rw [← hK.la]; exact hj)).2 gg e
        refine (hK.of j h0 hj gg e).snoc (fun q => ?_) (fun q => ?_) (fun q => ?_) (fun q => ?_)
        · simp [Value.ownBlock] at q; omega
        · rw [ef2] at q; cases q; omega
        · rw [ef3] at q; cases q; omega
        · rw [ef4] at q; cases q; omega
      have Bw6 : Below w.heap.size w w6 := (hB.trans (R5.mono hB.size)).trans b6
      have bd6 : ∀ i, (ns ++ [zs.length + 4]).getD i 0 ≤ 4000000 := fun i => by
        by_cases hi : i < (ns ++ [zs.length + 4]).length
        · rw [getDn_snoc _ _ _ hi]; split
          · omega
          · exact hK.bd i
        · rw [List.getD_eq_getElem?_getD, List.getElem?_eq_none (by omega)]; simp
      have ln6 : (ns ++ [zs.length + 4]).length = n + 1 := by rw [List.length_append, hK.ln]; rfl
      have la := hK.la
      have di := hK.di
      obtain ⟨_, _, hdU, sU, _⟩ := O26.form
      obtain ⟨_, _, hdT, sT, _⟩ := O16.form
      simp only [Value.slice.injEq, true_and] at hdU hdT
      obtain ⟨rfl, rfl⟩ := hdU
      obtain ⟨rfl, rfl⟩ := hdT
      have szW6 : wr.heap.size ≤ w6.heap.size := by omega
      clear hK hk5 hfr hfr' oa5 O15 O25 hne1 hne2 g5 hof t1 t2 t3 t4 R5 R3 b35 sm s4 Q4 O4 r4 r3 b1 b2 b3 b4 b5 b6 O13 O23 T3 U2 O2 hAr hA c0 Bw3 hGr ef2 ef3 ef4 lf2 lf3 lf4 sz5 szG sz6 szW
      go_wp2_with fail
      refine (seal_any w6 zs h8 up uc sU (by omega)).mono ?_
      rintro e w7 ⟨rfl, r7, b7⟩
      have sU7 := sU.below b7 (Nat.le_refl _)
      go_wp2_with fail
      refine (seal_any w7 zs h8 up uc sU7 (by omega)).mono ?_
      rintro e w8 ⟨rfl, r8, b8⟩
      have b68 : Below w6.heap.size w6 w8 := b7.trans (b8.mono b7.size)
      have hk8 := hk6.below b68
      have oa8 : OwnS w8 w.heap.size u4 LA := oa6.of_heap fun k e => b68.block k (oa6.heap k e).2.1
      have I7 : In w8 w6.heap.size [] (sealF zs) := in_seal (hbel b8 r7 (hlt r7))
      have I8 : In w8 w7.heap.size [] (sealF zs) := in_seal r8
      have s67 : w6.heap.size < w7.heap.size := hlt r7
      have Bw8 := Bw6.trans (b68.mono Bw6.size)
      have T8 := sT.below b68 (Nat.le_refl _)
      have U8 := sU.below b68 (Nat.le_refl _)
      have O18 := O16.below b68 (Nat.le_refl _)
      have O28 := O26.below b68 (Nat.le_refl _)
      have of78 : Off w6.heap.size (L1 ++ [.slice (some ⟨w2.heap.size, 0, none⟩) (zs.length + 4) (zs.length + 4)]) (L2 ++ [x2]) (L3 ++ [x3]) (L4 ++ [x4]) ∧ Off w7.heap.size (L1 ++ [.slice (some ⟨w2.heap.size, 0, none⟩) (zs.length + 4) (zs.length + 4)]) (L2 ++ [x2]) (L3 ++ [x3]) (L4 ++ [x4]) := ⟨off_fresh hk6 (Nat.le_refl _), off_fresh hk6 (by omega)⟩
      have KL := hid (show LA.length + [Value.slice (some ⟨w6.heap.size, 0, none⟩) (zs.length + 4) (zs.length + 4), Value.slice (some ⟨w7.heap.size, 0, none⟩) (zs.length + 4) (zs.length + 4)].length ≤ 1000000000000 by rw [la]; simp; omega)
      have Hsz := hid Bw8.size
      go_wp2_with (first | (at_builtin; refine wpList_pushS rfl (.tmp 42) (.tmp 47) rfl w.heap.size _ _ [Value.slice (some ⟨w6.heap.size, 0, none⟩) (zs.length + 4) (zs.length + 4), Value.slice (some ⟨w7.heap.size, 0, none⟩) (zs.length + 4) (zs.length + 4)] rfl oa8 rfl (by intro y hy; simp at hy; rcases hy with rfl | rfl <;> rfl) KL.out Hsz.out _ _ ?_; intro va' w9 q1 q2 q3 q4))
      have By9 : ∀ (k : Nat) (cs : Array Value), w8.heap[k]? = some (Obj.cells cs 5 (0, 0)) → w9.heap[k]? = w8.heap[k]? := fun k cs hk => q3 k (hlt hk) (fun e => by
        obtain ⟨_, _, x, hx⟩ := oa8.heap k e
        exact ne_of_type hk hx (by decide) rfl)
      have K9 : KS w w9 B ps (n + 1) v1' v2' v3' v4' va' (L1 ++ [.slice (some ⟨w2.heap.size, 0, none⟩) (zs.length + 4) (zs.length + 4)]) (L2 ++ [x2]) (L3 ++ [x3]) (L4 ++ [x4]) (LA ++ [Value.slice (some ⟨w6.heap.size, 0, none⟩) (zs.length + 4) (zs.length + 4), Value.slice (some ⟨w7.heap.size, 0, none⟩) (zs.length + 4) (zs.length + 4)]) (ns ++ [zs.length + 4]) := by
        refine ⟨hk8.other oa8 E1 E2 E3 E4 q3, ln6, bd6, q1, by rw [List.length_append, la]; simp; omega, (DjS.push hk8.o1 E1.symm q4).symm, (DjS.push hk8.o2 E2.symm q4).symm, (DjS.push hk8.o3 E3.symm q4).symm, (DjS.push hk8.o4 E4.symm q4).symm, fun j hj => ?_, fun i j hij hj => ?_, fun j h0 hj gg e => ?_, Bw8.trans q2⟩
        · rw [getD_two, la]
          by_cases h1 : j = 2 * n + 1
          · rw [if_pos h1, h1, hASn.2]
            exact ⟨w7.heap.size, by rw [S8], (By9 _ _ I8).trans I8, by have := Bw6.size; omega⟩
          · rw [if_neg h1]
            by_cases h2 : j = 2 * n
            · rw [if_pos h2, h2, hASn.1]
              exact ⟨w6.heap.size, by rw [S8], (By9 _ _ I7).trans I7, by have := Bw6.size; omega⟩
            · rw [if_neg h2]
              obtain ⟨a1, a2⟩ := as6 j (by omega)
              refine a1.of_heap fun k e => ?_
              obtain ⟨z1, cs, z2⟩ := a1.l.heap k e
              have z3 : w8.heap[k]? = some (.cells cs 5 (0, 0)) := (b68.block k z1).trans z2
              rw [By9 k cs z3, b68.block k z1]
        · rw [List.length_append, la] at hj
          simp at hj
          rw [getD_two, getD_two, la]
          have old : ∀ t, t < 2 * n → ∀ q, w6.heap.size ≤ q → (LA.getD t undef).ownBlock ≠ some q := fun t ht q hq e => by have := (as6 t ht).2 q e; omega
          by_cases h1 : j = 2 * n + 1
          · rw [if_pos h1, if_neg (show ¬ i = 2 * n + 1 by omega)]
            by_cases h2 : i = 2 * n
            · rw [if_pos h2]; simp [Value.ownBlock]; omega
            · rw [if_neg h2]; exact old i (by omega) _ (Nat.le_of_lt s67)
          · rw [if_neg h1, if_neg (show ¬ i = 2 * n + 1 by omega)]
            by_cases h2 : j = 2 * n
            · rw [if_pos h2, if_neg (show ¬ i = 2 * n by omega)]; exact old i (by omega) _ (Nat.le_refl _)
            · rw [if_neg h2, if_neg (show ¬ i = 2 * n by omega)]; exact di i j hij (by rw [la]; omega)
        · rw [List.length_append, la] at hj
          simp at hj
          rw [getD_two, la] at e
          by_cases h1 : j = 2 * n + 1
          · rw [if_pos h1] at e; simp [Value.ownBlock] at e; subst e; exact of78.2
          · rw [if_neg h1] at e
            by_cases h2 : j = 2 * n
            · rw [if_pos h2] at e; simp [Value.ownBlock] at e; subst e; exact of78.1
            · rw [if_neg h2] at e; exact of6 j h0 (by rw [la]; omega) gg e
      have T9 : Src w9 tp tc zs := by
        obtain ⟨_, _, hd, hs, _⟩ := (O18.of_heap (w1 := w9) fun k e => by
          rcases O18.parts with ⟨h0, _⟩ | ⟨gg, _, _, h0, _, hI, _⟩
          · rw [h0] at e; simp [Value.ownBlock] at e
          · rw [h0] at e; simp [Value.ownBlock] at e; subst e; exact By9 _ _ hI).form
        simp only [Value.slice.injEq, true_and] at hd
        obtain ⟨rfl, rfl⟩ := hd
        exact hs
      have U9 : Src w9 up uc zs := by
        obtain ⟨_, _, hd, hs, _⟩ := (O28.of_heap (w1 := w9) fun k e => by
          rcases O28.parts with ⟨h0, _⟩ | ⟨gg, _, _, h0, _, hI, _⟩
          · rw [h0] at e; simp [Value.ownBlock] at e
          · rw [h0] at e; simp [Value.ownBlock] at e; subst e; exact By9 _ _ hI).form
        simp only [Value.slice.injEq, true_and] at hd
        obtain ⟨rfl, rfl⟩ := hd
        exact hs
      have hN9 : (ns ++ [zs.length + 4]).length ≤ 4000000 := by rw [ln6]; omega
      clear By9 q1 q2 q3 q4 O18 O28 T8 U8 of78 I7 I8 hk8 oa8 b68 r7 r8 b7 b8 sU7 sU sT as6 of6 oa6 E1 E2 E3 E4 hk6 Bw6 di la O16 O26 Bw8 s67 hB KL Hsz szW6
      go_wp2_with fail
      refine (held_any w9 _ B _ _ _ _ _ _ _ _ _ K9.bk hN9 bd6).mono ?_
      rintro e w10 ⟨rfl, b10⟩
      have T10 := T9.below b10 (Nat.le_refl _)
      have U10 := U9.below b10 (Nat.le_refl _)
      have K10 := K9.below b10
      have sm := same_any w10 zs zs tp up tc uc T10 U10
      rw [decide_eq_true rfl] at sm
      clear T9 U9 K9
      go_wp2_with fail
      refine sm.mono ?_
      rintro e w11 ⟨rfl, b11⟩
      have T11 := T10.below b11 (Nat.le_refl _)
      have U11 := U10.below b11 (Nat.le_refl _)
      have K11 := K10.below b11
      clear sm T10 U10 K10 b10
      go_wp2_with fail
      refine (sum_any w11 zs h8 up uc U11).mono ?_
      rintro e w12 ⟨rfl, b12⟩
      have T12 := T11.below b12 (Nat.le_refl _)
      have K12 := K11.below b12
      clear T11 U11 K11 b11
      go_wp2_with fail
      refine (rsum_any w12 (hG.below K12.bl hw0) zs h8 tp tc T12 hlen).mono ?_
      rintro e w13 ⟨rfl, b13⟩
      have K13 := K12.below b13
      clear T12 K12 b12
      go_wp2_with fail
      refine (held_any w13 _ B _ _ _ _ _ _ _ _ _ K13.bk hN9 bd6).mono ?_
      rintro e w14 ⟨rfl, b14⟩
      have K14 := K13.below b14
      clear K13 b13 b14
      go_wp2
      go_roundw
      case rel => exact ⟨n + 1, _, _, _, _, _, _, _, _, _, _, by omega, by go_num, K14⟩
      case measure => simp [intOf]; omega
    · obtain rfl : n = ps.length := by omega
      clear hnl
      obtain ⟨sa, ca, ba, hva, la1, la2, la3, la4⟩ := hK.oa.at
      rw [hK.la] at hva la1 la3 la4
      subst hva
      unfold maxLen at la2
      generalize hN2 : 2 * ps.length = N2 at *
      have HN2 := hid hN2
      clear hN2
      have j0 : (N2 : Int) ≤ 2097152 := by have := HN2.out; omega
      obtain ⟨wF, rfl⟩ : ∃ wF, wF = wr := ⟨wr, rfl⟩
      have Bsz := hB.size
      go_wp2
      go_loopw [9] (fun i wr => ∃ m : Nat, m ≤ N2 ∧ i = .int .i64 m ∧ Below wF.heap.size wF wr) (fun i _ => N2 - (intOf i).toNat)
      case atStart => exact ⟨0, by omega, rfl, Below.refl _ _⟩
      case round =>
        obtain ⟨m, hm, rfl, hC⟩ := hrel
        have hBr := hB.trans (hC.mono Bsz)
        by_cases hml : m < N2
        · have i1 : (m : Int) < (N2 : Int) := by omega
          have hm2 : m / 2 < ps.length := by have := HN2.out; omega
          obtain rfl := la3 (by omega)
          have y1 : wr.cell? ⟨ba, m, none⟩ = some (LA.getD m undef) := (hC.cell (p := ⟨ba, m, none⟩) (block_lt_of_cell (la4 m hml))).trans (la4 m hml)
          obtain ⟨b, o, ap, ac, rfl, c0, _, hA, _⟩ := hR.piece hBr (m / 2) hm2
          have hlen : (ps.getD (m / 2) []).length ≤ 1048576 := by have := piece_lenK hm2; omega
          have h8 := piece_bytsK hp8 hm2
          have hAr := hA.below hBr (Nat.le_refl _)
          obtain ⟨g, e0, g0, _⟩ := hK.asd m (by have := HN2.out; omega)
          have g1 : In wr g [] (sealF (ps.getD (m / 2) [])) := hbel hC g0 (hlt g0)
          have e1 : (m : Int) / 2 = ((m / 2 : Nat) : Int) := by omega
          generalize ps.getD (m / 2) [] = zs at *
          generalize m / 2 = q at *
          have i2 : (q : Int) < (ps.length : Int) := by omega
          rw [e0] at y1
          have S8 := sealF_len zs
          rw [S8] at y1
          clear g0 e0 hA
          have hGr := hG.below hBr hw0
          have hGd : Gl wr.drew := hGr
          have hAd : Src wr.drew ap ac zs := hAr
          have g1d : wr.drew.heap[g]? = some (.cells (ints .u8 (sealF zs) ++ []).toArray 5 (0, 0)) := g1
          have KR := hid (rseal_any wr.drew hGd zs h8 ap ac hAd hlen)
          have c1 : wr.drew.cell? ⟨ba, m, none⟩ = some (.slice (some ⟨g, 0, none⟩) (zs.length + 4) (zs.length + 4)) := y1
          have c2 : wr.drew.cell? ⟨b, o + ((m : Int) / 2).toNat, none⟩ = some (.slice ap zs.length ac) := by rw [show ((m : Int) / 2).toNat = q by omega]; exact c0
          have i3 : (0 : Int) ≤ (m : Int) / 2 := by omega
          have i4 : (m : Int) / 2 < (ps.length : Int) := by omega
          have iw : IntKind.i64.wrap ((m : Int) / 2) = (m : Int) / 2 := wrap_i64_id _ (by omega) (by omega)
          have eT : ((m : Int) / 2).toNat = q := by omega
          have HT := hid eT
          clear e1 i2
          have hCd := hC.drew
          have HS8 := hid S8
          have Hb1 := hid (block_lt_of_cell c1)
          have Hb2 := hid (block_lt_of_cell c2)
          clear S8 eT c0 y1
          go_wp2_with fail
          go_region_held3 (fun w' => w'.cell? ⟨ba, m, none⟩ = some (.slice (some ⟨g, 0, none⟩) (zs.length + 4) (zs.length + 4)) ∧ w'.cell? ⟨b, o + ((m : Int) / 2).toNat, none⟩ = some (.slice ap zs.length ac)) (first | exact ⟨c1, c2⟩ | exact ⟨k1, k2⟩ | exact ⟨l1, l2⟩ | assumption)
            (first
            | (go_at_call 8; refine KR.out.mono ?_; rintro e w4 ⟨v, rfl, O4, b4⟩; obtain ⟨qp, qc, rfl, Q4, _⟩ := O4.form; have k1 := (b4.cell (p := ⟨ba, m, none⟩) Hb1.out).trans c1; have k2 := (b4.cell (p := ⟨b, o + ((m : Int) / 2).toNat, none⟩) Hb2.out).trans c2; have I4 : In w4 g [] (sealF zs) := hbel b4 g1d (hlt g1d); have sm := same_any w4 (sealF zs) (sealF zs) (some ⟨g, 0, none⟩) qp (sealF zs).length qc (I4.src _ (Nat.le_refl _) (by rw [HS8.out]; unfold maxLen; omega)) Q4; rw [decide_eq_true rfl, HS8.out] at sm; rw [HS8.out]; have R4 := hCd.trans (b4.mono hCd.size))
            | (go_at_call 5; refine sm.mono ?_; rintro e w5 ⟨rfl, b5⟩; have l1 := (b5.cell (p := ⟨ba, m, none⟩) (block_lt_of_cell k1)).trans k1; have l2 := (b5.cell (p := ⟨b, o + ((m : Int) / 2).toNat, none⟩) (block_lt_of_cell k2)).trans k2; have R5 := R4.trans (b5.mono R4.size)))
          go_wp2
          go_roundw
          case rel => exact ⟨m + 1, by omega, by go_num, R5⟩
          case measure => simp [intOf]; omega
        · obtain rfl : m = N2 := by omega
          clear hml
          have K2 := hK.below hC
          have lns : ∀ j, j < m → ∃ nn, AsL wr w.heap.size (LA.getD j undef) nn ∧ nn ≤ 2000000 ∧ 0 < nn := fun j hj => by
            refine ⟨_, (K2.asd j (by have := HN2.out; omega)).l, ?_, ?_⟩
            · rw [sealF_len]
              have hm2 : j / 2 < ps.length := by have := HN2.out; omega
              have := piece_lenK hm2; omega
            · rw [sealF_len]; omega
          have K3 : ∃ (k : Nat) (v1 v2 v3 v4 : Value) (L1 L2 L3 L4 : List Value) (ns : List Nat), k ≤ m ∧ 0 = k ∧ Bk wr w.heap.size B v1 v2 v3 v4 L1 L2 L3 L4 ns ∧ ns.length = ps.length + k ∧ (∀ i, ns.getD i 0 ≤ 4000000) ∧ OwnS wr w.heap.size (.slice sa m ca) LA ∧ Dj v1 (.slice sa m ca) ∧ Dj v2 (.slice sa m ca) ∧ Dj v3 (.slice sa m ca) ∧ Dj v4 (.slice sa m ca) ∧ (∀ j, k ≤ j → j < m → ∃ nn, AsL wr w.heap.size (LA.getD j undef) nn ∧ nn ≤ 2000000 ∧ 0 < nn) ∧ OffA LA L1 L2 L3 L4 k ∧ Below w.heap.size w wr :=
            ⟨0, _, _, _, _, _, _, _, _, _, by omega, rfl, K2.bk, K2.ln, K2.bd, K2.oa, K2.e1, K2.e2, K2.e3, K2.e4, fun j _ hj => lns j hj, K2.of, K2.bl⟩
          have hdi := K2.di
          have hlaN : LA.length = m := by have := K2.la; have := HN2.out; omega
          have hN4 : ps.length + m ≤ 3500000 := by have := HN2.out; omega
          replace hlaN := hid hlaN
          replace K3 := hid K3
          obtain ⟨wG, rfl⟩ : ∃ wG, wG = wr := ⟨wr, rfl⟩
          clear lns K2 hK hC la4 hBr hGr
          go_wp2
          go_loopw [10] (fun i wr => ∃ (k : Nat) (v1 v2 v3 v4 : Value) (L1 L2 L3 L4 : List Value) (ns : List Nat), k ≤ m ∧ i = .int .i64 k ∧ Bk wr w.heap.size B v1 v2 v3 v4 L1 L2 L3 L4 ns ∧ ns.length = ps.length + k ∧ (∀ i, ns.getD i 0 ≤ 4000000) ∧ OwnS wr w.heap.size (.slice sa m ca) LA ∧ Dj v1 (.slice sa m ca) ∧ Dj v2 (.slice sa m ca) ∧ Dj v3 (.slice sa m ca) ∧ Dj v4 (.slice sa m ca) ∧ (∀ j, k ≤ j → j < m → ∃ nn, AsL wr w.heap.size (LA.getD j undef) nn ∧ nn ≤ 2000000 ∧ 0 < nn) ∧ OffA LA L1 L2 L3 L4 k ∧ Below w.heap.size w wr) (fun i _ => m - (intOf i).toNat)
          case atStart =>
            obtain ⟨k, a1, a2, a3, a4, a5, a6, a7, a8, a9, q1, rfl, q3⟩ := K3.out
            exact ⟨0, a1, a2, a3, a4, a5, a6, a7, a8, a9, q1, rfl, q3⟩
          case round =>
            clear K3
            obtain ⟨k, v1, v2, v3, v4, L1, L2, L3, L4, ns, hkm, rfl, hbk, hln, hbd, hoa, d1, d2, d3, d4, hal, hof, hBw⟩ := hrel
            replace hln := hid hln
            by_cases hkl : k < m
            · have i1 : (k : Int) < (m : Int) := by omega
              obtain ⟨sa', ca', ba', hva', _, _, la3', la4'⟩ := hoa.at
              simp only [Value.slice.injEq] at hva'
              obtain ⟨rfl, hlen', rfl⟩ := hva'
              rw [← hlen'] at la3' la4'
              obtain rfl := la3' (by omega)
              have y1 := la4' k hkl
              obtain ⟨nn, hAk, hn1, hn0⟩ := hal k (Nat.le_refl _) hkl
              obtain ⟨g, os, eg, hI, hl, hgb⟩ := id hAk
              have hob : (LA.getD k undef).ownBlock = some g := by rw [eg]; rfl
              have hog := hof k (Nat.le_refl _) (by rw [hlaN.out]; exact hkl) g hob
              have Hal := hid hal
              have Hof := hid hof
              have Hdi := hid hdi
              rw [eg] at y1
              have hnsl : ns.length ≤ 4000000 := by rw [hln.out]; omega
              clear hal hof la3' la4' hlen'
              go_wp2_with fail
              refine (put_any wr w.heap.size B v1 v2 v3 v4 L1 L2 L3 L4 ns hbk hnsl g nn os hI hl hn0 (by omega) hgb hog).mono ?_
              rintro e w6 ⟨rfl, v1', v2', v3', v4', x2, x3, x4, hk6, ⟨f2, ef2, lf2⟩, ⟨f3, ef3, lf3⟩, ⟨f4, ef4, lf4⟩, t1, t2, t3, t4, hfr, b6⟩
              have hfr' : PutFr g B v1 v2 v3 v4 wr w6 := hfr
              have oa6 := ownS_put hbk hfr' hI hoa d1 d2 d3 d4
              have E1 := dj_put hoa d1 t1
              have E2 := dj_put hoa d2 t2
              have E3 := dj_put hoa d3 t3
              have E4 := dj_put hoa d4 t4
              have hne : ∀ j, k + 1 ≤ j → j < m → (LA.getD j undef).ownBlock ≠ some g := fun j h1 h2 e => Hdi.out k j (by omega) (by rw [hlaN.out]; exact h2) (by rw [e, hob])
              have al6 : ∀ j, k + 1 ≤ j → j < m → ∃ nn, AsL w6 w.heap.size (LA.getD j undef) nn ∧ nn ≤ 2000000 ∧ 0 < nn := fun j h1 h2 => by
                obtain ⟨n2, a1, a2, a3⟩ := Hal.out j (by omega) h2
                refine ⟨n2, a1.of_heap fun q e => ?_, a2, a3⟩
                obtain ⟨z1, cs, z2⟩ := a1.heap q e
                exact byte_put hbk hfr' z2 (fun h => hne j h1 h2 (h ▸ e))
              have of6 : OffA LA (L1 ++ [.slice (some ⟨g, 0, none⟩) nn nn]) (L2 ++ [x2]) (L3 ++ [x3]) (L4 ++ [x4]) (k + 1) := fun j h0 hj gg e => by
                rw [hlaN.out] at hj
                obtain ⟨n2, a1, _⟩ := Hal.out j (by omega) hj
                have lt := (a1.heap gg e).1
                refine (Hof.out j (by omega) (by rw [hlaN.out]; exact hj) gg e).snoc (fun q => ?_) (fun q => ?_) (fun q => ?_) (fun q => ?_)
                · simp [Value.ownBlock] at q; subst q; exact hne j h0 hj e
                · rw [ef2] at q; cases q; omega
                · rw [ef3] at q; cases q; omega
                · rw [ef4] at q; cases q; omega
              have bd6 : ∀ i, (ns ++ [nn]).getD i 0 ≤ 4000000 := fun i => by
                by_cases hi : i < (ns ++ [nn]).length
                · rw [getDn_snoc _ _ _ hi]; split
                  · omega
                  · exact hbd i
                · rw [List.getD_eq_getElem?_getD, List.getElem?_eq_none (by omega)]; simp
              have ln6 : (ns ++ [nn]).length = ps.length + (k + 1) := by rw [List.length_append, hln.out]; rfl
              have Bw6 := hBw.trans b6
              clear hfr
              go_wp2
              go_roundw
              case rel => exact ⟨k + 1, _, _, _, _, _, _, _, _, _, by omega, by go_num, hk6, ln6, bd6, oa6, E1, E2, E3, E4, al6, of6, Bw6⟩
              case measure => simp [intOf]; omega
            · obtain rfl : k = m := by omega
              clear hkl
              have hnsl : ns.length ≤ 4000000 := by rw [hln.out]; omega
              go_wp2_with fail
              refine (held_any wr _ B _ _ _ _ _ _ _ _ _ hbk hnsl hbd).mono ?_
              rintro e w6 ⟨rfl, b6⟩
              have Bw6 := hBw.trans (b6.mono hBw.size)
              go_wp2
              go_ret
              exact ⟨rfl, Bw6⟩
end Go.Proofs.YtbmjegcnfokagacDoor
