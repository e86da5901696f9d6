import Derived.Test.YtbpamknebjdicaaL2
import Derived.WalkKit
import Derived.ProofKit
import Derived.OpenShut
import Derived.SizedLaws
import Derived.Deep.DeepHandedRow
import Derived.Deep.Slices
import Derived.Lib.LaidTab
namespace Go.Proofs.Ytbpamknebjdicaa
set_option linter.unusedVariables false
set_option linter.unusedSimpArgs false
open Go.ChangeShapes Go.WideShapes Go.ChangeAt Go.RowKit

theorem own_knob : ownKnob Try.prog.godebug = none := by kernel_rfl
theorem Try.laidOut : laidOutB Try.prog = true := by kernel_rfl
/-- No slice in it is beyond the reach. -/
def WS {H : Type} (t : TypeId) (d : DataW H) : Prop := ∀ n ∈ d.weights Try.prog t, n ≤ reachBytes
theorem weightsAll_mem {H : Type} {P : Program} {e : TypeId} : ∀ {l : List (DataW H)} {d : DataW H}, d ∈ l → ∀ n ∈ d.weights P e, n ∈ DataW.weightsAll P e l
  | x :: l, d, hd, n, hn => by
    simp only [DataW.weightsAll, List.mem_append]
    rcases List.mem_cons.1 hd with rfl | h
    · exact Or.inl hn
    · exact Or.inr (weightsAll_mem h n hn)
theorem WS.slice {H : Type} {t e : TypeId} {el sp : List (DataW H)} (hu : Try.prog.underlying t = some (.slice e)) (h : WS t (.slice el sp)) : (el.length + sp.length) * Try.prog.bytesOf e ≤ reachBytes ∧ ∀ d ∈ el, WS e d :=
  ⟨h _ (by simp [DataW.weights, hu]), fun d hd n hn => h n (by
    simp only [DataW.weights, hu, List.mem_cons, List.mem_append]
    exact Or.inr (Or.inl (weightsAll_mem hd n hn)))⟩
theorem WS.field {H : Type} {t : TypeId} {fs : Array Field} {ds : List (DataW H)} (hu : Try.prog.underlying t = some (.struct fs)) (h : WS t (.agg ds)) {j : Nat} {f : Field} {d : DataW H} (hf : fs[j]? = some f) (hd : ds[j]? = some d) : WS f.type d :=
  fun n hn => h n (by
    simp only [DataW.weights, hu]
    exact DataW.weights_mem_each (by rw [List.getElem?_map]; simp [hf]) hd n hn)

/-! Steps that came in. -/
structure OP where
  kind : Int
  c : Int
  k : Int
  v : Int
def dO : OP := ⟨0, 0, 0, 0⟩
def I64 (x : Int) : Prop := -9223372036854775808 ≤ x ∧ x ≤ 9223372036854775807
def OpOk (q : OP) : Prop := I64 q.kind ∧ I64 q.c ∧ I64 q.k ∧ I64 q.v
def opL (q : OP) : List Value := [.int .i64 q.kind, .int .i64 q.c, .int .i64 q.k, .int .i64 q.v]
def Ops (w : World) (B : Nat) (sp : Option Addr) (ac : List OP) : Prop := ∃ b o, (0 < ac.length → b < B ∧ sp = some ⟨b, o, none⟩) ∧ ∀ i, i < ac.length → w.rangeAt b (o + i * 4) (opL (ac.getD i dO))
theorem Ops.at {w w1 : World} {B : Nat} {sp : Option Addr} {ac : List OP} (h : Ops w B sp ac) (hb : Below B w w1) (i : Nat) (hi : i < ac.length) : ∃ b o, sp = some ⟨b, o, none⟩ ∧ b < B ∧ w1.rangeAt b (o + i * 4) (opL (ac.getD i dO)) := by
  obtain ⟨b, o, h1, h2⟩ := h
  obtain ⟨q1, q2⟩ := h1 (by omega)
  exact ⟨b, o, q2, q1, rng_below (h2 i hi) hb q1⟩
theorem op_mem {ac : List OP} (h : ∀ q ∈ ac, OpOk q) (i : Nat) (hi : i < ac.length) : OpOk (ac.getD i dO) := by
  rw [List.getD_eq_getElem?_getD, List.getElem?_eq_getElem hi]; exact h _ (List.getElem_mem hi)
theorem size_op : (Try.prog.info? 37).map (·.size) = some 4 := by kernel_rfl
theorem bytes_op : Try.prog.bytesOf 37 = 32 := by kernel_rfl
section
variable {H : Type} {enc : TypeId × Value → H} {W : World}
theorem cellsO : Try.prog.cellsOf 37 = 4 := by kernel_rfl
theorem cells3 : Try.prog.cellsOf 3 = 1 := by kernel_rfl
set_option maxRecDepth 100000 in
theorem open_ops {fuel : Nat} {v : Value} {d : DataW H} {p : List MemPlace} (hw : WS 34 d) (hf : DataW.trod enc Try.prog W 0 (fun _ => true) true fuel 34 [v] = some (d, p)) :
    ∃ (ac : List OP) (sp : Option Addr) (cap : Nat), v = .slice sp ac.length cap ∧ Ops W W.heap.size sp ac ∧ (∀ c ∈ ac, OpOk c) ∧ ac.length ≤ 4398046510976 := by
  rcases Deep.open_slice Try.underlying34 hf with ⟨hcs, hx⟩ | ⟨a, len, cap, m, n, D, Pl, hcs, _, hl, hm, hmm, hx, hrow⟩
  · simp at hcs
    subst hcs
    exact ⟨[], none, 0, rfl, ⟨0, 0, fun h => by simp at h, fun i hi => by simp at hi⟩, fun c hc => by simp at hc, by simp⟩
  · simp at hcs
    subst hcs
    simp only [Prod.mk.injEq] at hx
    obtain ⟨rfl, _⟩ := hx
    simp only [if_true] at hmm
    subst hmm
    obtain ⟨w1, w2⟩ := hw.slice Try.underlying34
    have each : ∀ i, i < len → ∃ q : OP, (∀ j u, (opL q)[j]? = some u → W.cell? (a.add (i * 4 + j)) = some u) ∧ OpOk q := by
      intro i hi
      obtain ⟨cs', h1, h2⟩ := hrow i (by omega)
      rw [cellsO] at h1
      obtain ⟨_, hlen, hcell⟩ := World.cells?_some h1
      obtain ⟨xs, k, hk, hxy, _, hxl, hfd⟩ := DataW.trod_struct Try.underlying37 h2
      have hxl' : xs.length = 4 := hxl
      have g0 : DataW.trod enc Try.prog W 0 (fun _ => true) true k 3 ((cs'.drop 0).take 1) = some xs[0] := by
        have := hfd 0 _ rfl
        rw [List.getElem?_eq_getElem (by omega)] at this
        change DataW.trod enc Try.prog W 0 (fun _ => true) true k 3 ((cs'.drop 0).take (Try.prog.cellsOf 3)) = _ at this
        rw [cells3] at this; exact this
      have g1 : DataW.trod enc Try.prog W 0 (fun _ => true) true k 3 ((cs'.drop 1).take 1) = some xs[1] := by
        have := hfd 1 _ rfl
        rw [List.getElem?_eq_getElem (by omega)] at this
        change DataW.trod enc Try.prog W 0 (fun _ => true) true k 3 ((cs'.drop 1).take (Try.prog.cellsOf 3)) = _ at this
        rw [cells3] at this; exact this
      have g2 : DataW.trod enc Try.prog W 0 (fun _ => true) true k 3 ((cs'.drop 2).take 1) = some xs[2] := by
        have := hfd 2 _ rfl
        rw [List.getElem?_eq_getElem (by omega)] at this
        change DataW.trod enc Try.prog W 0 (fun _ => true) true k 3 ((cs'.drop 2).take (Try.prog.cellsOf 3)) = _ at this
        rw [cells3] at this; exact this
      have g3 : DataW.trod enc Try.prog W 0 (fun _ => true) true k 3 ((cs'.drop 3).take 1) = some xs[3] := by
        have := hfd 3 _ rfl
        rw [List.getElem?_eq_getElem (by omega)] at this
        change DataW.trod enc Try.prog W 0 (fun _ => true) true k 3 ((cs'.drop 3).take (Try.prog.cellsOf 3)) = _ at this
        rw [cells3] at this; exact this
      obtain ⟨z0, e0, _, b0⟩ := DataW.trod_int Try.underlying3 g0
      obtain ⟨z1, e1, _, b1⟩ := DataW.trod_int Try.underlying3 g1
      obtain ⟨z2, e2, _, b2⟩ := DataW.trod_int Try.underlying3 g2
      obtain ⟨z3, e3, _, b3⟩ := DataW.trod_int Try.underlying3 g3
      have hcs : cs' = [.int .i64 z0, .int .i64 z1, .int .i64 z2, .int .i64 z3] := by
        have key : ∀ c : List Value, c.length = 4 → (c.drop 0).take 1 = [.int .i64 z0] → (c.drop 1).take 1 = [.int .i64 z1] → (c.drop 2).take 1 = [.int .i64 z2] → (c.drop 3).take 1 = [.int .i64 z3] → c = [.int .i64 z0, .int .i64 z1, .int .i64 z2, .int .i64 z3] := by
          intro c hc q0 q1 q2 q3
          match c, hc with
          | [x0, x1, x2, x3], _ =>
            simp at q0 q1 q2 q3
            rw [q0, q1, q2, q3]
        exact key cs' hlen e0 e1 e2 e3
      refine ⟨⟨z0, z1, z2, z3⟩, fun j u hu => ?_, bounds_i64 b0, bounds_i64 b1, bounds_i64 b2, bounds_i64 b3⟩
      have hu2 : cs'[j]? = some u := by rw [hcs]; exact hu
      have hj := (List.getElem?_eq_some_iff.1 hu2).1
      have := hcell j (by omega)
      rw [Deep.add_add] at this
      rw [this, hu2]
    haveI : Inhabited OP := ⟨dO⟩
    obtain ⟨q, hq⟩ := Deep.choose_lt (α := OP) each
    have gm : ∀ i, i < len → ((List.range len).map q).getD i dO = q i := fun i hi => by simp [hi]
    have hlen : ((List.range len).map q).length = len := by simp
    have okc : ∀ c ∈ (List.range len).map q, OpOk c := fun c hc => by
      obtain ⟨i, hi, rfl⟩ := List.mem_map.1 hc
      exact (hq i (List.mem_range.1 hi)).2
    have hmx : len ≤ 4398046510976 := by
      rw [bytes_op] at w1
      simp [reachBytes] at w1
      omega
    by_cases hz : 0 < len
    · have c00 := (hq 0 hz).1 0 _ rfl
      have hsp : a.spot = none := by
        have := World.cell?_spot c00
        unfold Addr.add at this; split at this <;> simp_all
      obtain ⟨b, o, spot⟩ := a
      obtain rfl : spot = none := hsp
      have hblk : b < W.heap.size := by
        have := block_lt_of_cell c00; rwa [Addr.add_mid] at this
      refine ⟨(List.range len).map q, some ⟨b, o, none⟩, m, by rw [hlen], ⟨b, o, fun _ => ⟨hblk, rfl⟩, fun i hi => ?_⟩, okc, by rw [hlen]; exact hmx⟩
      rw [hlen] at hi
      rw [gm i hi]
      intro j u hu
      have := (hq i hi).1 j u hu
      rw [Addr.add_mid, ← Nat.add_assoc] at this
      exact this
    · exact ⟨(List.range len).map q, some a, m, by rw [hlen], ⟨0, 0, fun h => by rw [hlen] at h; omega, fun i hi => by rw [hlen] at hi; omega⟩, okc, by rw [hlen]; exact hmx⟩
end
end Go.Proofs.Ytbpamknebjdicaa
