import Derived.Test.YtcifbnldohmbnabOa
namespace Go.Proofs.Ytcifbnldohmbnab
set_option linter.unusedVariables false
set_option linter.unusedSimpArgs false
open Go.ChangeShapes Go.WideShapes Go.ChangeAt Go.RowKit

/-! Steps of a script. -/
structure BOp where
  kind : Int
  n : Int
  a : List Int
  b : List Int
  raw : List Int
  cs : List Chg
  ds : List Chg
structure MO where
  kind : Int
  n : Int
  a : List Int
  b : List Int
  rv : Value
  cv : Value
  dv : Value
def encO (m : MO) : List Value := [Value.int .i64 m.kind] ++ ([Value.int .i64 m.n] ++ (ints .u8 m.a ++ (ints .u8 m.b ++ ([m.rv] ++ ([m.cv] ++ [m.dv])))))
def Lst (w : World) (v : Value) (cs : List Chg) : Prop := ∃ sp cap b o ms, v = .slice sp cs.length cap ∧ Chs w sp cap cs b o ms ∧ (∀ c ∈ cs, OkC c) ∧ cs.length ≤ 2199023255488
def Txt (w : World) (v : Value) (zs : List Int) : Prop := ∃ sp cap, v = .slice sp zs.length cap ∧ Byts zs ∧ Src w sp cap zs ∧ (sp = none → cap = 0) ∧ zs.length ≤ 140737488351232
structure SaysO (w : World) (m : MO) (p : BOp) : Prop where
  k : m.kind = p.kind
  n : m.n = p.n
  a : m.a = p.a
  b : m.b = p.b
  la : p.a.length = 32
  lb : p.b.length = 32
  ya : Byts p.a
  yb : Byts p.b
  kw : (Lit.int .i64 p.kind).wf = true
  nw : (Lit.int .i64 p.n).wf = true
  rv : Txt w m.rv p.raw
  cv : Lst w m.cv p.cs
  dv : Lst w m.dv p.ds
theorem Lst.one {w : World} {v : Value} {cs : List Chg} (h : Lst w v cs) : v.oneCell' = true := by obtain ⟨_, _, _, _, _, rfl, _⟩ := h; rfl
theorem Txt.one {w : World} {v : Value} {cs : List Int} (h : Txt w v cs) : v.oneCell' = true := by obtain ⟨_, _, rfl, _⟩ := h; rfl
theorem SaysO.len {w : World} {m : MO} {p : BOp} (h : SaysO w m p) : (encO m).length = 69 := by simp [encO, ints, h.a, h.b, h.la, h.lb]
theorem SaysO.one {w : World} {m : MO} {p : BOp} (h : SaysO w m p) : ∀ v ∈ encO m, v.oneCell' = true := by
  intro v hv
  simp only [encO, List.mem_append, List.mem_singleton] at hv
  rcases hv with rfl | rfl | hv | hv | rfl | rfl | rfl
  · rfl
  · rfl
  · exact ints_one _ _ v hv
  · exact ints_one _ _ v hv
  · exact h.rv.one
  · exact h.cv.one
  · exact h.dv.one
def dO : MO := ⟨0, 0, [], [], .slice none 0 0, .slice none 0 0, .slice none 0 0⟩
def dB : BOp := ⟨0, 0, [], [], [], [], []⟩
structure Scr (w : World) (sp : Option Addr) (ps : List BOp) (b o : Nat) (ms : List MO) : Prop where
  pos : 0 < ps.length → b < w.heap.size ∧ sp = some ⟨b, o, none⟩
  len : ms.length = ps.length
  rd : ∀ i, i < ps.length → w.rangeAt b (o + i * 69) (encO (ms.getD i dO))
  says : ∀ i, i < ps.length → SaysO w (ms.getD i dO) (ps.getD i dB)
theorem piece {α : Type} (l : List α) (a n : Nat) : l.drop a = (l.drop a).take n ++ l.drop (a + n) := by rw [← List.drop_drop, List.take_append_drop]
theorem piece1 {l : List Value} {a : Nat} (h : a < l.length) : ∃ v, (l.drop a).take 1 = [v] := by
  rw [List.take_one, List.head?_drop, List.getElem?_eq_getElem h]; exact ⟨_, rfl⟩
theorem cells3 : Try.prog.cellsOf 3 = 1 := by kernel_rfl
theorem cellsO : Try.prog.cellsOf 30 = 69 := by kernel_rfl
section
variable {H : Type} {enc : TypeId × Value → H} {W : World}
set_option maxHeartbeats 1000000 in
theorem open_ops {fuel : Nat} {v : Value} {d : DataW H} {p : List MemPlace} (hw : WS 22 d) (hf : DataW.trod enc Try.prog W 0 (fun _ => true) true fuel 22 [v] = some (d, p)) :
    ∃ (ps : List BOp) (sp : Option Addr) (cap b o : Nat) (ms : List MO), v = .slice sp ps.length cap ∧ Scr W sp ps b o ms ∧ ps.length ≤ 140737488351232 := by
  rcases Deep.open_slice Try.underlying22 hf with ⟨hcs, hx⟩ | ⟨a, len, cap, m, n, D, Pl, hcs, _, hl, hm, hmm, hx, hrow⟩
  · simp at hcs
    subst hcs
    exact ⟨[], none, 0, 0, 0, [], rfl, ⟨fun h => by simp at h, rfl, fun i hi => by simp at hi, fun i hi => by simp at hi⟩, by simp⟩
  · simp at hcs
    subst hcs
    simp only [Prod.mk.injEq] at hx
    obtain ⟨rfl, _⟩ := hx
    simp only [if_true] at hmm
    subst hmm
    obtain ⟨w1, w2⟩ := hw.slice Try.underlying22
    rw [show Try.prog.bytesOf 30 = 152 by kernel_rfl] at w1
    simp [reachBytes] at w1
    have each : ∀ i, i < len → ∃ q : MO × BOp, (∀ j u, (encO q.1)[j]? = some u → W.cell? (a.add (i * 69 + j)) = some u) ∧ SaysO W q.1 q.2 := by
      intro i hi
      obtain ⟨cs', h1, h2⟩ := hrow i (by omega)
      rw [cellsO] at h1
      obtain ⟨_, hlen, hcell⟩ := World.cells?_some h1
      obtain ⟨xs, k, hk, hxy, _, hxl, hfd⟩ := DataW.trod_struct Try.underlying30 h2
      have hd := w2 (D i) (List.mem_map.2 ⟨i, List.mem_range.2 hi, rfl⟩)
      have hxl' : xs.length = 7 := hxl
      simp only [Prod.mk.injEq] at hxy
      rw [hxy.1] at hd
      have G : ∀ (j : Nat) (f : Field) (hj : j < 7), (Try.prog.underlying 30).bind (fun d => match d with | .struct fs => fs[j]? | _ => none) = some f → DataW.trod enc Try.prog W 0 (fun _ => true) true k f.type ((cs'.drop f.offset).take (Try.prog.cellsOf f.type)) = some (xs[j]'(by omega)) ∧ WS f.type (xs[j]'(by omega)).1 := by
        intro j f hj hf
        rw [Try.underlying30] at hf
        have hf' := hfd j f hf
        rw [List.getElem?_eq_getElem (by omega)] at hf'
        exact ⟨hf', hd.field Try.underlying30 hf (by rw [List.getElem?_map, List.getElem?_eq_getElem (by omega)]; rfl)⟩
      have g0 := (G 0 _ (by omega) (by rw [Try.underlying30]; rfl)).1
      have g1 := (G 1 _ (by omega) (by rw [Try.underlying30]; rfl)).1
      have g2 := (G 2 _ (by omega) (by rw [Try.underlying30]; rfl)).1
      have g3 := (G 3 _ (by omega) (by rw [Try.underlying30]; rfl)).1
      obtain ⟨g4, s4⟩ := G 4 _ (by omega) (by rw [Try.underlying30]; rfl)
      obtain ⟨g5, s5⟩ := G 5 _ (by omega) (by rw [Try.underlying30]; rfl)
      obtain ⟨g6, s6⟩ := G 6 _ (by omega) (by rw [Try.underlying30]; rfl)
      change DataW.trod enc Try.prog W 0 (fun _ => true) true k 3 ((cs'.drop 0).take (Try.prog.cellsOf 3)) = _ at g0
      change DataW.trod enc Try.prog W 0 (fun _ => true) true k 3 ((cs'.drop 1).take (Try.prog.cellsOf 3)) = _ at g1
      change DataW.trod enc Try.prog W 0 (fun _ => true) true k 26 ((cs'.drop 2).take (Try.prog.cellsOf 26)) = _ at g2
      change DataW.trod enc Try.prog W 0 (fun _ => true) true k 26 ((cs'.drop 34).take (Try.prog.cellsOf 26)) = _ at g3
      change DataW.trod enc Try.prog W 0 (fun _ => true) true k 27 ((cs'.drop 66).take (Try.prog.cellsOf 27)) = _ at g4
      change DataW.trod enc Try.prog W 0 (fun _ => true) true k 28 ((cs'.drop 67).take (Try.prog.cellsOf 28)) = _ at g5
      change DataW.trod enc Try.prog W 0 (fun _ => true) true k 28 ((cs'.drop 68).take (Try.prog.cellsOf 28)) = _ at g6
      rw [cells3] at g0 g1
      rw [cellsK] at g2 g3
      rw [cellsB] at g4
      rw [cellsL] at g5 g6
      obtain ⟨kd, e0, _, kw⟩ := DataW.trod_int Try.underlying3 g0
      obtain ⟨nn, e1, _, nw⟩ := DataW.trod_int Try.underlying3 g1
      obtain ⟨ka, e2, la, ya⟩ := open_key g2
      obtain ⟨kb, e3, lb, yb⟩ := open_key g3
      obtain ⟨v4, e4⟩ := piece1 (l := cs') (a := 66) (by omega)
      obtain ⟨v5, e5⟩ := piece1 (l := cs') (a := 67) (by omega)
      obtain ⟨v6, e6⟩ := piece1 (l := cs') (a := 68) (by omega)
      rw [e4] at g4
      rw [e5] at g5
      rw [e6] at g6
      obtain ⟨zs, sp4, c4, t1, t2, t3, t4, t5⟩ := open_bytesN (d := (xs[4]).1) (p := (xs[4]).2) s4 g4
      obtain ⟨cs, spc, cc, bc, oc, mc, u1, u2, u3, u4⟩ := open_chs (d := (xs[5]).1) (p := (xs[5]).2) s5 g5
      obtain ⟨ds, spd, cd, bd, od, md, x1, x2, x3, x4⟩ := open_chs (d := (xs[6]).1) (p := (xs[6]).2) s6 g6
      have hcs : cs' = encO ⟨kd, nn, ka, kb, v4, v5, v6⟩ := by
        have p0 : cs' = cs'.drop 0 := rfl
        have hz : cs'.drop (68 + 1) = [] := List.drop_eq_nil_of_le (by omega)
        rw [p0, piece cs' 0 1, piece cs' (0 + 1) 1, piece cs' (0 + 1 + 1) 32, piece cs' (0 + 1 + 1 + 32) 32, piece cs' (0 + 1 + 1 + 32 + 32) 1, piece cs' (0 + 1 + 1 + 32 + 32 + 1) 1, piece cs' (0 + 1 + 1 + 32 + 32 + 1 + 1) 1]
        simp only [Nat.reduceAdd]
        rw [e0, e1, e2, e3, e4, e5, e6, List.drop_eq_nil_of_le (show cs'.length ≤ 69 by omega), List.append_nil]
        rfl
      refine ⟨(⟨kd, nn, ka, kb, v4, v5, v6⟩, ⟨kd, nn, ka, kb, zs, cs, ds⟩), fun j u hu => ?_, ⟨rfl, rfl, rfl, rfl, la, lb, ya, yb, kw, nw, ⟨sp4, c4, t1, t2, t3, t4, t5⟩, ⟨spc, cc, bc, oc, mc, u1, u2, u3, u4⟩, ⟨spd, cd, bd, od, md, x1, x2, x3, x4⟩⟩⟩
      rw [← hcs] at hu
      have hj := (List.getElem?_eq_some_iff.1 hu).1
      have := hcell j (by omega)
      rw [Deep.add_add] at this
      rw [this, hu]
    haveI : Inhabited (MO × BOp) := ⟨(dO, dB)⟩
    obtain ⟨q, hq⟩ := Deep.choose_lt (α := MO × BOp) each
    have gm : ∀ i, i < len → ((List.range len).map fun i => (q i).1).getD i dO = (q i).1 := fun i hi => by simp [hi]
    have gc : ∀ i, i < len → ((List.range len).map fun i => (q i).2).getD i dB = (q i).2 := fun i hi => by simp [hi]
    have hlen : ((List.range len).map fun i => (q i).2).length = len := by simp
    have says : ∀ i, i < ((List.range len).map fun i => (q i).2).length → SaysO W (((List.range len).map fun i => (q i).1).getD i dO) (((List.range len).map fun i => (q i).2).getD i dB) := fun i hi => by
      rw [hlen] at hi
      rw [gm i hi, gc i hi]; exact (hq i hi).2
    by_cases hz : 0 < len
    · have c0 := (hq 0 hz).1 0 ((encO (q 0).1)[0]'(by rw [(hq 0 hz).2.len]; omega)) (List.getElem?_eq_getElem _)
      have hsp : a.spot = none := by
        have := World.cell?_spot c0
        unfold Addr.add at this; split at this <;> simp_all
      obtain ⟨b, o, spot⟩ := a
      obtain rfl : spot = none := hsp
      have hblk : b < W.heap.size := by
        have := block_lt_of_cell c0; rwa [Addr.add_mid] at this
      refine ⟨(List.range len).map fun i => (q i).2, some ⟨b, o, none⟩, m, b, o, (List.range len).map fun i => (q i).1, by rw [hlen], ⟨fun _ => ⟨hblk, rfl⟩, by simp, fun i hi j u hu => ?_, says⟩, by rw [hlen]; omega⟩
      rw [hlen] at hi
      rw [gm i hi] at hu
      have := (hq i hi).1 j u hu
      rw [Addr.add_mid, ← Nat.add_assoc] at this
      exact this
    · exact ⟨(List.range len).map fun i => (q i).2, some a, m, 0, 0, (List.range len).map fun i => (q i).1, by rw [hlen], ⟨fun h => by rw [hlen] at h; omega, by simp, fun i hi => by rw [hlen] at hi; omega, says⟩, by rw [hlen]; omega⟩
end
end Go.Proofs.Ytcifbnldohmbnab
