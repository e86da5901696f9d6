import Derived.Test.YtjlakgojbfglhaaG16
namespace Go.Proofs.Ytjlakgojbfglhaa
set_option linter.unusedVariables false
set_option linter.unusedSimpArgs false
open Go.RowKit
attribute [local go_sem ↓] Go.wp_at_zero Go.wp_at_succ

/-- The pages below m are those of the book. -/
def Pgs (D : DS) (B : Bk) (m : Nat) : Prop := ∀ q, 2 ≤ q → q < m → unpackF q (D.readOf q) = (B.Ks.getD (q - 2) 0, B.Ls.getD (q - 2) [], 0)
theorem BI.at {w : World} {base : Nat} {G : List Nat} {gb : Nat} {lv kv : Value} {vs : List Value} {B : Bk} (h : BI w base G gb lv kv vs B) (hKL : B.Ks.length = B.Ls.length) (i : Nat) (hi : i < B.Ls.length) :
    ∃ lg lc kg kc sv cv, lv = .slice (some ⟨lg, 0, none⟩) B.Ls.length lc ∧ kv = .slice (some ⟨kg, 0, none⟩) B.Ls.length kc ∧ w.cell? ⟨gb, 0, none⟩ = some (.slice (some ⟨lg, 0, none⟩) B.Ls.length lc) ∧ w.cell? ⟨gb, 1, none⟩ = some (.slice (some ⟨kg, 0, none⟩) B.Ls.length kc) ∧ w.cell? ⟨lg, i, none⟩ = some (.slice sv (B.Ls.getD i []).length cv) ∧ w.cell? ⟨kg, i, none⟩ = some (.int .i64 (B.Ks.getD i 0)) ∧ Src w sv cv (B.Ls.getD i []) := by
  obtain ⟨lg, lc, e1, e2, e3, e4⟩ := ownsRow_at h.rl i hi
  have hrk := h.rk
  rw [hKL] at hrk
  obtain ⟨kg, kc, f1, f2, f3, f4⟩ := ownsRow_at hrk i hi
  obtain ⟨sv, cv, g1, g2, _⟩ := (h.own i hi).form
  refine ⟨lg, lc, kg, kc, sv, cv, e1, f1, ?_, ?_, ?_, ?_, g2⟩
  · rw [cell_of_row _ _ _ _ _ _ h.cell, ← e1]; rfl
  · rw [cell_of_row _ _ _ _ _ _ h.cell, ← f1]; rfl
  · rw [e2, g1]
  · rw [f2, List.getD_eq_getElem?_getD, List.getD_eq_getElem?_getD]
    unfold ints
    rw [List.getElem?_map, List.getElem?_eq_getElem (by omega)]; rfl
set_option maxRecDepth 100000 in
set_option maxHeartbeats 1000000 in
theorem holds_in (w : World) (base : Nat) (F : List Nat) (p : Nat) (D : DS) (h : DA w base F p D) (g : Nat) (s : Sup) (nx ep : Int) (hf : FK w g p s nx ep) (hlv : liveF D ep = 0) (G : List Nat) (gb : Nat) (B : Bk) (hb : BA w base G gb B) (hap : Apart F G) (hKL : B.Ks.length = B.Ls.length) (m : Nat) (hm : 2 ≤ m ∧ m - 2 ≤ B.Ls.length ∧ (m : Int) ≤ nx ∧ m ≤ D.np) (hpg : Pgs D B m) (hr : D.reads + m < 4000000000000000000) :
    Calls Try.prog 26 #[.pointer (some ⟨gb, 0, none⟩), .pointer (some ⟨g, 0, none⟩), .int .i64 m] w fun e w' => e = .returned (.bool true) ∧ DA w' base F p { D with reads := D.reads + ((m - 2 : Nat) : Int) } ∧ Fr F w w' := by
  obtain ⟨lv, kv, vs, hb⟩ := hb
  have hnp := h.ok.np
  have i0 : 2 ≤ (m : Int) := by omega
  have i1 : (m : Int) ≤ 4096 := by omega
  obtain ⟨lp, lc, hlv2, _⟩ := ownsRow_shape hb.rl
  have c0 : w.cell? ⟨gb, 0, none⟩ = some (.slice lp B.Ls.length lc) := by rw [cell_of_row _ _ _ _ _ _ hb.cell, ← hlv2]; rfl
  have i2 : (m : Int) - 2 ≤ (B.Ls.length : Int) := by omega
  have HD := hid h
  have HF := hid hf
  have HB := hid hb
  have HM := hid hm
  have HPG := hid hpg
  have HR := hid hr
  have HAP := hid hap
  have HKL := hid hKL
  have HLV := hid hlv
  clear h hf hb hm hpg hr hap hKL hlv hnp hlv2
  go_enter Try.func26, Try.ntmps26
  go_wp2
  go_loopw [7, 8, 9, 10] (fun iv _ _ _ wr => ∃ k : Nat, 2 ≤ k ∧ k ≤ m ∧ iv = .int .i64 k ∧ DA wr base F p { D with reads := D.reads + ((k - 2 : Nat) : Int) } ∧ Fr F w wr) (fun iv _ _ _ _ => m - (intOf iv).toNat)
  case atStart => exact ⟨2, by omega, by have := HM.out.1; omega, rfl, by simpa using HD.out, Fr.refl _ _⟩
  case round =>
    clear c0
    obtain ⟨k, hk2, hkm, rfl, hDk, hFk⟩ := hrel
    by_cases hlt : k < m
    · have j1 : (k : Int) < (m : Int) := by omega
      have hm := HM.out
      have hi : k - 2 < B.Ls.length := by omega
      have hfk := HF.out.other HD.out hFk
      have HRD := hid (FRead_ok wr base F p _ hDk g s nx ep hfk (show liveF { D with reads := D.reads + ((k - 2 : Nat) : Int) } ep = 0 from HLV.out) k ⟨hk2, by omega, by show k < D.np; omega⟩ (by show D.reads + ((k - 2 : Nat) : Int) < _; have := HR.out; omega) _ _ (HPG.out k hk2 hlt) k rfl)
      have HDk := hid hDk
      have HFk := hid hFk
      have HI := hid hi
      have HBk := hid (HB.out.of_heap hFk.size fun x hx => hFk.block x (HB.out.lt x hx).2 (fun e => HAP.out x e hx))
      have HKM := hid (show k ≤ m from hkm)
      have HKT := hid hlt
      clear hDk hFk hfk hm hi
      go_wp2_with fail
      refine HRD.out.mono ?_
      rintro e w2 ⟨v, rfl, hO2, hD2, hK2, hF2⟩
      have hBk2 := HBk.out.of_heap hF2.size fun x hx => hF2.block x (HBk.out.lt x hx).2 (fun e => HAP.out x e hx)
      obtain ⟨lg, lc2, kg, kc, sv, cv, _, _, e1, e2, e3, e4, e5⟩ := hBk2.at HKL.out (k - 2) HI.out
      obtain ⟨s2, c2, hv2, hs2, _⟩ := hO2.form
      subst hv2
      have HSM := hid (same_any w2 _ _ _ _ _ _ hs2 e5)
      rw [show decide (B.Ls.getD (k - 2) [] = B.Ls.getD (k - 2) []) = true from decide_eq_true rfl] at HSM
      have HD2 := hid hD2
      have HF2 := hid hF2
      have n2 : (k : Int) - 2 = ((k - 2 : Nat) : Int) := by omega
      have n3 := wrap_nat (k - 2) (by have := HM.out; have := HKT.out; omega)
      have n4 : ((k - 2 : Nat) : Int) < (B.Ls.length : Int) := by have := HI.out; omega
      have n5 : k - 2 < B.Ls.length := HI.out
      have n6 : 0 ≤ ((k - 2 : Nat) : Int) := by omega
      clear hO2 hD2 hF2 hK2 hs2 e5 hBk2 HRD HBk
      generalize B.Ls.getD (k - 2) [] = L at *
      generalize B.Ks.getD (k - 2) 0 = KK at *
      go_wp2_with (first | (go_at_call 51; refine HSM.out.mono ?_; rintro e w3 ⟨rfl, hb3⟩))
      refine ⟨⟨k + 1, by omega, by omega, by go_num, ?_, ?_⟩, by simp [intOf]; omega⟩
      · have q := HD2.out.below hb3
        rw [show (({ D with reads := D.reads + ((k + 1 - 2 : Nat) : Int) } : DS)) = { D with reads := D.reads + ((k - 2 : Nat) : Int) + 1 } by congr 1; omega]
        exact q
      · exact ((HFk.out.trans HF2.out (Gr.refl _ _)).tail (F' := F) hb3)
    · obtain rfl : k = m := by omega
      have HDk := hid hDk
      have HFk := hid hFk
      clear hDk hFk hlt
      go_wp2
      go_ret
      exact ⟨rfl, HDk.out, HFk.out⟩
end Go.Proofs.Ytjlakgojbfglhaa
