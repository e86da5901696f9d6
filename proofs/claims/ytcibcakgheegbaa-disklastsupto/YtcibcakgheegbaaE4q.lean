import Derived.Test.YtcibcakgheegbaaE4n
namespace Go.Proofs.Ytcibcakgheegbaa
set_option linter.unusedVariables false
set_option linter.unusedSimpArgs false
open Go.RowKit

theorem getD_sub (l : List Int) (a b k : Nat) (h : a ≤ k) (h2 : k < a + b) : ((l.drop a).take b).getD (k - a) 0 = l.getD k 0 := by
  rw [List.getD_eq_getElem?_getD, List.getElem?_take, if_pos (by omega), List.getElem?_drop, show a + (k - a) = k by omega, ← List.getD_eq_getElem?_getD]
theorem tornTo_get {img : List Int} {n : Nat} {o : OW} (f : Nat) (h : img.length = 256 * n) (ho : OwOk n o) : ∀ j, j ≤ 4 → ∀ k, (tornTo img o f j).getD k 0 = if o.page * 256 ≤ k ∧ k < o.page * 256 + j * 64 ∧ f.testBit ((k - o.page * 256) / 64) = true then o.data.getD (k - o.page * 256) 0 else img.getD k 0
  | 0, _, k => by rw [if_neg (by omega)]; rfl
  | j + 1, hj, k => by
    have ih := tornTo_get f h ho j (by omega) k
    have hl := tornTo_len f h ho j (by omega)
    obtain ⟨h1, h2, h3⟩ := ho
    unfold tornTo
    split
    · rename_i hb
      have el : ((o.data.drop (j * 64)).take 64).length = 64 := by simp; omega
      rw [putAt_get _ _ _ (by rw [el, hl]; omega), el]
      by_cases c : o.page * 256 + j * 64 ≤ k ∧ k < o.page * 256 + j * 64 + 64
      · have hs : (k - o.page * 256) / 64 = j := by omega
        rw [if_pos c, if_pos ⟨by omega, by omega, by rw [hs]; exact hb⟩, show k - (o.page * 256 + j * 64) = (k - o.page * 256) - j * 64 by omega, getD_sub _ _ _ _ (by omega) (by omega)]
      · rw [if_neg c, ih]
        by_cases d : o.page * 256 ≤ k ∧ k < o.page * 256 + j * 64 ∧ f.testBit ((k - o.page * 256) / 64) = true
        · rw [if_pos d, if_pos ⟨d.1, by omega, d.2.2⟩]
        · rw [if_neg d, if_neg (fun e => d ⟨e.1, by omega, e.2.2⟩)]
    · rename_i hb
      rw [ih]
      by_cases d : o.page * 256 ≤ k ∧ k < o.page * 256 + j * 64 ∧ f.testBit ((k - o.page * 256) / 64) = true
      · rw [if_pos d, if_pos ⟨d.1, by omega, d.2.2⟩]
      · rw [if_neg d, if_neg]
        rintro ⟨e1, e2, e3⟩
        by_cases c : k < o.page * 256 + j * 64
        · exact d ⟨e1, c, e3⟩
        · rw [show (k - o.page * 256) / 64 = j by omega] at e3
          exact hb e3
theorem lay1_get {img : List Int} {n : Nat} {o : OW} (h : img.length = 256 * n) (ho : OwOk n o) (k : Nat) : (lay1 img o).getD k 0 = if o.page * 256 ≤ k ∧ k < o.page * 256 + 256 then o.data.getD (k - o.page * 256) 0 else img.getD k 0 := by
  obtain ⟨h1, h2, h3⟩ := ho
  unfold lay1
  rw [putAt_get _ _ _ (by rw [h2, h]; omega), h2]
theorem bit15 : ∀ s, s < 4 → Nat.testBit 15 s = true := by decide
theorem torn15 {img : List Int} {n : Nat} {o : OW} (h : img.length = 256 * n) (ho : OwOk n o) : tornTo img o 15 4 = lay1 img o := by
  apply list_ext0
  · rw [tornTo_len 15 h ho 4 (Nat.le_refl _), lay1_len h ho]
  · intro k hk
    rw [tornTo_get 15 h ho 4 (Nat.le_refl _), lay1_get h ho]
    by_cases c : o.page * 256 ≤ k ∧ k < o.page * 256 + 256
    · rw [if_pos ⟨c.1, c.2, bit15 _ (by omega)⟩, if_pos c]
    · rw [if_neg (fun e => c ⟨e.1, e.2.1⟩), if_neg c]
theorem crash15 {img : List Int} {ops : List OW} {n : Nat} (h : img.length = 256 * n) (ho : ∀ o ∈ ops, OwOk n o) (m : Nat) (hm : ops.length ≤ m) : ∀ i, i ≤ ops.length → crashTo img ops (List.replicate m 15) i = layTo img ops i
  | 0, _ => rfl
  | i + 1, hi => by
    have ih := crash15 h ho m hm i (by omega)
    have hf : fateOf (List.replicate m 15) i = 15 := by unfold fateOf; rw [List.getD_eq_getElem?_getD, List.getElem?_replicate, if_pos (by omega)]; rfl
    rw [crashTo, if_pos (by rw [List.length_replicate]; omega), hf, ih, layTo_succ _ _ _ (by omega), torn15 (layTo_len h ho i (by omega)) (ho _ (getD_memW ops i (by omega)))]
theorem crash0 (img : List Int) (ops : List OW) : ∀ i, crashTo img ops [] i = img
  | 0 => rfl
  | i + 1 => by rw [crashTo, if_neg (by simp)]; exact crash0 img ops i
theorem owOf_ok {n : Nat} (hn : 0 < n) {r : WR} (h : WrOk r) : OwOk n (owOf n r) := ⟨pg_lt r n hn, fil_len r, fil_bts h⟩
theorem laid_ok {D : DS} (h : DsOk D) {rs : List WR} (hr : ∀ r ∈ rs, WrOk r) (h1 : D.ops.length + rs.length ≤ 400000000000) (h2 : D.writes + rs.length ≤ 4000000000000000000) : DsOk (D.laid rs) := by
  obtain ⟨a, b, c, d⟩ := h.np
  refine ⟨⟨D.np, a, b, c, fun o ho => ?_⟩, h.bts, ?_, h.reads, ?_, h.syncs, h.epoch, h.armed⟩
  · rcases List.mem_append.1 ho with q | q
    · exact d o q
    · obtain ⟨r, hrr, rfl⟩ := List.mem_map.1 q
      exact owOf_ok (by omega) (hr r hrr)
  · simp [DS.laid]; omega
  · have := h.writes; show 0 ≤ D.writes + rs.length ∧ D.writes + rs.length ≤ _; omega
/-- A disk that is not armed, behind a sync. -/
def DS.sy0 (D : DS) : DS := { D with img := layTo D.img D.ops D.ops.length, ops := [], syncs := D.syncs + 1 }
theorem sy0_ok {D : DS} (hok : DsOk D) (hsy : D.syncs < 4000000000000000000) : DsOk D.sy0 := by
  obtain ⟨h3, h4, hn, hop⟩ := hok.np
  exact ⟨⟨D.np, h3, h4, layTo_len hn hop _ (Nat.le_refl _), fun o ho => by cases ho⟩, layTo_bts hok.bts hop _ (Nat.le_refl _), by simp [DS.sy0], hok.reads, hok.writes, by show 0 ≤ D.syncs + 1 ∧ D.syncs + 1 ≤ _; have := hok.syncs; omega, hok.epoch, hok.armed⟩
theorem sy0_np {D : DS} (hok : DsOk D) : D.sy0.np = D.np := by
  obtain ⟨h3, h4, hn, hop⟩ := hok.np
  show (layTo D.img D.ops D.ops.length).length / 256 = _
  rw [layTo_len hn hop _ (Nat.le_refl _)]; omega
theorem crashed_np {D : DS} (hok : DsOk D) (fs : List Int) : (D.crashed fs).np = D.np := by
  obtain ⟨h3, h4, hn, hop⟩ := hok.np
  show (crashTo D.img D.ops fs D.ops.length).length / 256 = _
  rw [crashTo_len fs hn hop _ (Nat.le_refl _)]; omega
/-- Fates that are all whole, and none. -/
theorem whole_img {D : DS} (hok : DsOk D) (m : Nat) (hm : D.ops.length ≤ m) : D.sy0.img = (D.crashed (List.replicate m 15)).img := (crash15 hok.np.2.2.1 hok.np.2.2.2 m hm _ (Nat.le_refl _)).symm
theorem none_img (D : DS) : (D.crashed []).img = D.img := crash0 _ _ _
theorem newZ_ok {k : Nat} (h3 : 3 ≤ k) (h4 : k ≤ 4096) : DsOk (newD (List.replicate (256 * k) 0)) := newD_ok h3 h4 (by simp) (bts_rep _)
end Go.Proofs.Ytcibcakgheegbaa
