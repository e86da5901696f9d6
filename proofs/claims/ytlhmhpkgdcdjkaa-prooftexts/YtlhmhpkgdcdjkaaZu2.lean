import Derived.Test.YtlhmhpkgdcdjkaaZs2
import Derived.Test.YtlhmhpkgdcdjkaaZk2
namespace Go.Proofs.Ytlhmhpkgdcdjkaa
set_option linter.unusedVariables false
set_option linter.unusedSimpArgs false
open Go.ChangeShapes Go.WideShapes Go.ChangeAt Go.RowKit

theorem cellsT : Try.prog.cellsOf 52 = 37 := by kernel_rfl
set_option maxRecDepth 100000 in
theorem open_text {H : Type} {enc : TypeId × Value → H} {W : World} {fuel : Nat} {nd : List Value} {x : DataW H × List MemPlace} (hd : WS 52 x.1) (hnl : nd.length = 37) (g8 : DataW.trod enc Try.prog W 0 (fun _ => true) true fuel 52 nd = some x) : TxIn W nd := by
  obtain ⟨ys, kn, _, hxy, _, hyl, hfn⟩ := DataW.trod_struct (x := x) Try.underlying52 g8
  have hyl' : ys.length = 3 := hyl
  rw [hxy] at hd
  have n0 : DataW.trod enc Try.prog W 0 (fun _ => true) true kn 4 ((nd.drop 0).take 1) = some ys[0] := by
    have := hfn 0 _ rfl
    rw [List.getElem?_eq_getElem (by omega)] at this
    change DataW.trod enc Try.prog W 0 (fun _ => true) true kn 4 ((nd.drop 0).take (Try.prog.cellsOf 4)) = _ at this
    rw [show Try.prog.cellsOf 4 = 1 by kernel_rfl] at this; exact this
  have n1 : DataW.trod enc Try.prog W 0 (fun _ => true) true kn 26 ((nd.drop 1).take 35) = some ys[1] := by
    have := hfn 1 _ rfl
    rw [List.getElem?_eq_getElem (by omega)] at this
    change DataW.trod enc Try.prog W 0 (fun _ => true) true kn 26 ((nd.drop 1).take (Try.prog.cellsOf 26)) = _ at this
    rw [show Try.prog.cellsOf 26 = 35 by kernel_rfl] at this; exact this
  have n2 : DataW.trod enc Try.prog W 0 (fun _ => true) true kn 22 ((nd.drop 36).take 1) = some ys[2] := by
    have := hfn 2 _ rfl
    rw [List.getElem?_eq_getElem (by omega)] at this
    change DataW.trod enc Try.prog W 0 (fun _ => true) true kn 22 ((nd.drop 36).take (Try.prog.cellsOf 22)) = _ at this
    rw [show Try.prog.cellsOf 22 = 1 by kernel_rfl] at this; exact this
  obtain ⟨y0, f0, _⟩ := DataW.trod_bool Try.underlying4 n0
  have hwp : WS 26 (ys[1]).1 := hd.field Try.underlying52 (j := 1) rfl (by rw [List.getElem?_map, List.getElem?_eq_getElem (by omega)]; rfl)
  obtain ⟨p, s1, s2, c1, c2, f1, ok, yp, hS, ⟨hn1, hn2⟩, hT, hv, hs⟩ := open_proof (x := ys[1]) hwp (nd := (nd.drop 1).take 35) (by simp; omega) n1
  obtain ⟨sn, f2⟩ := trod_one (enc := enc) (W := W) (l := nd) (n := 36) (by omega)
  rw [f2] at n2
  have hws : WS 22 (ys[2]).1 := hd.field Try.underlying52 (j := 2) rfl (by rw [List.getElem?_map, List.getElem?_eq_getElem (by omega)]; rfl)
  obtain ⟨r, s3, c3, e8, yr, hR, hnil, hrl⟩ := open_bytesN (d := (ys[2]).1) (p := (ys[2]).2) hws n2
  subst e8
  have hne : nd = [.bool y0] ++ (pfC p (.slice s1 p.vs.length c1) (.slice s2 p.ss.length c2) ++ ([.slice s3 r.length c3] ++ nd.drop 37)) := by
    rw [← f0, ← f1, ← f2, ← cut_at nd 36 1, ← cut_at nd 1 35, ← cut_at nd 0 1]; rfl
  rw [List.drop_of_length_le (by omega : nd.length ≤ 37)] at hne
  exact ⟨y0, p, r, s1, s2, s3, c1, c2, c3, hne, ok, yp, hS, hT, hv, hs, yr, hR, hrl⟩
theorem open_texts {H : Type} {enc : TypeId × Value → H} {W : World} {v : Value} {d : DataW H} {p : List MemPlace} {b0 : Nat} (hw : WS 39 d) (hv : Value.okWide Try.prog W .any b0 39 v) (h : DataW.Trod enc Try.prog W 0 (fun _ => true) true 39 v d p) :
    ∃ (N : Nat) (sp : Option Addr) (cap : Nat), v = .slice sp N cap ∧ N ≤ 9223372036854775807 ∧ ∀ j, j < N → ∃ b o cs, sp = some ⟨b, o, none⟩ ∧ b < W.heap.size ∧ W.rangeAt b (o + j * 37) cs ∧ TxIn W cs := by
  obtain ⟨a0, len0, cap0, rfl⟩ := okWide_slice Try.underlying39 hv
  obtain ⟨fuel, hf⟩ := h
  rcases Deep.open_slice Try.underlying39 hf with ⟨hcs, hx⟩ | ⟨a, len, cap, m, n, D, Pl, hcs, _, hl, hm, hmm, hx, hrow⟩
  · simp [Value.cells] at hcs
    obtain ⟨rfl, rfl, rfl⟩ := hcs
    exact ⟨0, none, 0, rfl, by omega, fun j hj => by omega⟩
  · simp [Value.cells] at hcs
    obtain ⟨rfl, rfl, rfl⟩ := hcs
    simp only [Prod.mk.injEq] at hx
    obtain ⟨rfl, _⟩ := hx
    simp only [if_true] at hmm
    subst hmm
    obtain ⟨w1, w2⟩ := hw.slice Try.underlying39
    refine ⟨len0, some a, _, rfl, by unfold maxLen at hm; omega, fun j hj => ?_⟩
    obtain ⟨cs', h1, h2⟩ := hrow j (by omega)
    rw [cellsT] at h1
    obtain ⟨_, hlen, hcell⟩ := World.cells?_some h1
    have hT := open_text (x := (D j, Pl j)) (w2 _ (List.mem_map.2 ⟨j, List.mem_range.2 hj, rfl⟩)) hlen h2
    have c0 := hcell 0 (by omega)
    rw [List.getElem?_eq_getElem (by omega)] at c0
    have hsp : a.spot = none := by
      obtain ⟨cs0, q1, q2⟩ := hrow 0 (by omega)
      rw [cellsT] at q1
      obtain ⟨_, ql, qc⟩ := World.cells?_some q1
      have z0 := qc 0 (by omega)
      rw [List.getElem?_eq_getElem (by omega)] at z0
      have := World.cell?_spot z0
      simp only [Nat.zero_mul] at this
      unfold Addr.add at this; split at this <;> simp_all
    obtain ⟨b, o, spot⟩ := a
    obtain rfl : spot = none := hsp
    have hblk : b < W.heap.size := by
      have := block_lt_of_cell c0
      rw [Deep.add_add, Addr.add_mid] at this
      exact this
    refine ⟨b, o, cs', rfl, hblk, fun i u hu => ?_, hT⟩
    have hi := (List.getElem?_eq_some_iff.1 hu).1
    have := hcell i (by omega)
    rw [Deep.add_add, Addr.add_mid, hu, ← Nat.add_assoc] at this
    exact this
end Go.Proofs.Ytlhmhpkgdcdjkaa
