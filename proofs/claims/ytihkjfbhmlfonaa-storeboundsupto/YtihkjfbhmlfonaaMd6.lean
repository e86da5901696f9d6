import Derived.Test.YtihkjfbhmlfonaaE4j
namespace Go.Proofs.Ytihkjfbhmlfonaa
set_option linter.unusedVariables false
set_option linter.unusedSimpArgs false
open Go.RowKit
attribute [local go_sem ↓] Go.wp_at_zero Go.wp_at_succ

/-! Each call of a disk, with its footprint. -/
theorem Nx.of_same {w w' : World} {base : Nat} {P : DP} {D : DS} (h : DK w' base P D) (hok : DsOk D) (hF : Fr P.fp w w') : Nx base P.fp P.p w D w' := ⟨P.fp, ⟨P, rfl, rfl, h, hok⟩, hF, Gr.refl _ _⟩
theorem Nx.of_drop {w w' : World} {base : Nat} {P : DP} {D : DS} {M : DataW Unit} (h : DK w' base { P with ov := .slice none 0 0, M := M } D) (hok : DsOk D) (hF : Fr P.fp w w') : Nx base P.fp P.p w D w' := by
  refine ⟨_, ⟨{ P with ov := .slice none 0 0, M := M }, rfl, rfl, h, hok⟩, hF, fun k hk => Or.inl ?_⟩
  rcases (DP.mem _ k).1 hk with e | e | e | e
  · exact (P.mem k).2 (Or.inl e)
  · exact (P.mem k).2 (Or.inr (Or.inl e))
  · exact (P.mem k).2 (Or.inr (Or.inr (Or.inl e)))
  · simp [Value.ownBlock] at e
theorem Pages_any (w : World) (base : Nat) (F : List Nat) (p : Nat) (D : DS) (h : DA w base F p D) :
    Calls Try.prog 35 #[.pointer (some ⟨p, 0, none⟩)] w fun e w' => e = .returned (.int .i64 D.np) ∧ w = w' := by
  obtain ⟨P, rfl, rfl, hk, hok⟩ := h
  exact Pages_in w base P D hk D.np hok.np.2.2.1 hok.np.2.1
theorem Power_any (w : World) (base : Nat) (F : List Nat) (p : Nat) (D : DS) (h : DA w base F p D) :
    Calls Try.prog 33 #[.pointer (some ⟨p, 0, none⟩)] w fun e w' => e = .returned (.bool D.power) ∧ w = w' := by
  obtain ⟨P, rfl, rfl, hk, hok⟩ := h
  exact Power_in w base P D hk
theorem Epoch_any (w : World) (base : Nat) (F : List Nat) (p : Nat) (D : DS) (h : DA w base F p D) :
    Calls Try.prog 62 #[.pointer (some ⟨p, 0, none⟩)] w fun e w' => e = .returned (.int .i64 D.epoch) ∧ w = w' := by
  obtain ⟨P, rfl, rfl, hk, hok⟩ := h
  exact Epoch_in w base P D hk
theorem Counts_any (w : World) (base : Nat) (F : List Nat) (p : Nat) (D : DS) (h : DA w base F p D) :
    Calls Try.prog 9 #[.pointer (some ⟨p, 0, none⟩)] w fun e w' => e = .returned (.agg #[.int .i64 D.reads, .int .i64 D.writes, .int .i64 D.syncs, .int .i64 D.ops.length]) ∧ Below w.heap.size w w' := by
  obtain ⟨P, rfl, rfl, hk, hok⟩ := h
  exact Counts_in w base P D hk
theorem arm_ok {D : DS} (h : DsOk D) (n : Int) (hn : n ≤ 9223372036854775807) : DsOk (D.arm n) := by
  unfold DS.arm
  split
  · exact ⟨h.n, h.bts, h.ops, h.reads, h.writes, h.syncs, h.epoch, by show 0 ≤ max n 0 ∧ max n 0 ≤ _; omega⟩
  · exact h
theorem Read_any (w : World) (base : Nat) (F : List Nat) (p : Nat) (D : DS) (h : DA w base F p D) (hpw : D.power = true) (q : Nat) (hq : q < D.np) (hr : D.reads < 4000000000000000000) :
    Calls Try.prog 54 #[.pointer (some ⟨p, 0, none⟩), .int .i64 q] w fun e w' => ∃ v, e = .returned (.tuple #[v, .int .i64 0]) ∧ Own w' w.heap.size v (D.readOf q) ∧ Nx base F p w { D with reads := D.reads + 1 } w' := by
  obtain ⟨P, rfl, rfl, hk, hok⟩ := h
  refine (Read_in w base P D hk hok hpw q hq hr).mono ?_
  rintro e w' ⟨v, rfl, h1, h2, h3⟩
  exact ⟨v, rfl, h1, Nx.of_same h2 ⟨hok.n, hok.bts, hok.ops, by show 0 ≤ D.reads + 1 ∧ D.reads + 1 ≤ _; have := hok.reads; omega, hok.writes, hok.syncs, hok.epoch, hok.armed⟩ h3⟩
theorem Read_off (w : World) (base : Nat) (F : List Nat) (p : Nat) (D : DS) (h : DA w base F p D) (hpw : D.power = false) (q : Int) :
    Calls Try.prog 54 #[.pointer (some ⟨p, 0, none⟩), .int .i64 q] w fun e w' => e = .returned (.tuple #[.slice none 0 0, .int .i64 2]) ∧ w = w' := by
  obtain ⟨P, rfl, rfl, hk, hok⟩ := h
  exact Read_down w base P D hk hpw q
/-- A disk behind a sync that closed. -/
def DS.synced (D : DS) : DS := { D.acted with img := layTo D.img D.ops D.ops.length, ops := [], syncs := D.syncs + 1 }
theorem synced_ok {D : DS} (hok : DsOk D) (hsy : D.syncs < 4000000000000000000) : DsOk D.synced := by
  obtain ⟨h3, h4, hn, hop⟩ := hok.np
  have hA := acted_ok hok
  exact ⟨⟨D.np, h3, h4, layTo_len hn hop _ (Nat.le_refl _), fun o ho => by cases ho⟩, layTo_bts hok.bts hop _ (Nat.le_refl _), by simp [DS.synced], hA.reads, hA.writes, by show 0 ≤ D.syncs + 1 ∧ D.syncs + 1 ≤ _; have := hok.syncs; omega, hA.epoch, hA.armed⟩
theorem Sync_any (w : World) (base : Nat) (F : List Nat) (p : Nat) (D : DS) (h : DA w base F p D) (hpw : D.power = true) (hac : D.armed ≠ 1) (hsy : D.syncs < 4000000000000000000) :
    Calls Try.prog 38 #[.pointer (some ⟨p, 0, none⟩)] w fun e w' => e = .returned (.int .i64 0) ∧ Nx base F p w D.synced w' := by
  obtain ⟨P, rfl, rfl, hk, hok⟩ := h
  refine (Sync_loop w base P D hk hok hpw hac hsy).mono ?_
  rintro e w' ⟨rfl, h1, h2⟩
  exact ⟨rfl, Nx.of_drop h1 (synced_ok hok hsy) h2⟩
theorem Sync_last (w : World) (base : Nat) (F : List Nat) (p : Nat) (D : DS) (h : DA w base F p D) (hpw : D.power = true) (hac : D.armed = 1) :
    Calls Try.prog 38 #[.pointer (some ⟨p, 0, none⟩)] w fun e w' => e = .returned (.int .i64 2) ∧ Nx base F p w D.acted w' := by
  obtain ⟨P, rfl, rfl, hk, hok⟩ := h
  refine (Sync_goes w base P D hk hok hpw hac).mono ?_
  rintro e w' ⟨rfl, h1, h2⟩
  exact ⟨rfl, Nx.of_same h1 (acted_ok hok) h2⟩
theorem Sync_off (w : World) (base : Nat) (F : List Nat) (p : Nat) (D : DS) (h : DA w base F p D) (hpw : D.power = false) :
    Calls Try.prog 38 #[.pointer (some ⟨p, 0, none⟩)] w fun e w' => e = .returned (.int .i64 2) ∧ w = w' := by
  obtain ⟨P, rfl, rfl, hk, hok⟩ := h
  exact Sync_down w base P D hk hpw
theorem Write_off (w : World) (base : Nat) (F : List Nat) (p : Nat) (D : DS) (h : DA w base F p D) (hpw : D.power = false) (q : Int) (v : Value) :
    Calls Try.prog 58 #[.pointer (some ⟨p, 0, none⟩), .int .i64 q, v] w fun e w' => e = .returned (.int .i64 2) ∧ w = w' := by
  obtain ⟨P, rfl, rfl, hk, hok⟩ := h
  exact Write_down w base P D hk hpw q v
theorem Write_no (w : World) (base : Nat) (F : List Nat) (p : Nat) (D : DS) (h : DA w base F p D) (hpw : D.power = true) (q : Int) (hq : q < 0 ∨ (D.np : Int) ≤ q) (v : Value) :
    Calls Try.prog 58 #[.pointer (some ⟨p, 0, none⟩), .int .i64 q, v] w fun e w' => e = .returned (.int .i64 41) ∧ w = w' := by
  obtain ⟨P, rfl, rfl, hk, hok⟩ := h
  exact Write_page w base P D hk D.np hok.np.2.2.1 hok.np.2.1 hpw q hq v
theorem Write_few (w : World) (base : Nat) (F : List Nat) (p : Nat) (D : DS) (h : DA w base F p D) (hpw : D.power = true) (q : Int) (hq : 0 ≤ q ∧ q < (D.np : Int)) (sp : Option Addr) (l c : Nat) (hl : ((l : Int) != 256) = true) :
    Calls Try.prog 58 #[.pointer (some ⟨p, 0, none⟩), .int .i64 q, .slice sp l c] w fun e w' => e = .returned (.int .i64 42) ∧ w = w' := by
  obtain ⟨P, rfl, rfl, hk, hok⟩ := h
  exact Write_size w base P D hk D.np hok.np.2.2.1 hok.np.2.1 hpw q hq sp l c hl
theorem crashed_ok {D : DS} (hok : DsOk D) (hep : D.epoch < 4000000000000000000) (fs : List Int) : DsOk (D.crashed fs) := by
  obtain ⟨h3, h4, hn, hop⟩ := hok.np
  exact ⟨⟨D.np, h3, h4, crashTo_len fs hn hop _ (Nat.le_refl _), fun o ho => by cases ho⟩, crashTo_bts fs hok.bts hop _ (Nat.le_refl _), by simp [DS.crashed], hok.reads, hok.writes, hok.syncs, by show 0 ≤ D.epoch + 1 ∧ D.epoch + 1 ≤ _; have := hok.epoch; omega, by simp [DS.crashed]⟩
/-- A disk behind a flip. -/
def DS.flipped (D : DS) (q bit pat : Nat) : DS := { D with img := flipTo D.img q bit pat (min 32 (2048 - bit)) }
theorem flipped_ok {D : DS} (hok : DsOk D) (q bit pat : Nat) : DsOk (D.flipped q bit pat) := by
  obtain ⟨h3, h4, hn, hop⟩ := hok.np
  exact ⟨⟨D.np, h3, h4, (flipTo_len _ _ _ _ _).trans hn, hop⟩, flipTo_bts hok.bts _ _ _ _, hok.ops, hok.reads, hok.writes, hok.syncs, hok.epoch, hok.armed⟩
theorem own_in {w : World} {base : Nat} {v : Value} {zs : List Int} (h : Own w base v zs) (hz : 0 < zs.length) : ∃ g cap rest, v = .slice (some ⟨g, 0, none⟩) zs.length cap ∧ base ≤ g ∧ w.heap[g]? = some (.cells (ints .u8 zs ++ rest).toArray 5 (0, 0)) ∧ zs.length ≤ cap ∧ cap ≤ maxLen ∧ v.ownBlock = some g := by
  rcases h.2 with ⟨_, h0⟩ | ⟨g, cap, cur, rfl, hg, hh, hc, hm, hs, ht⟩
  · omega
  · refine ⟨g, cap, cur.toList.drop zs.length, rfl, hg, ?_, hc, hm, rfl⟩
    rw [hh]
    congr 2
    rw [← ht, Nat.mul_one, List.take_append_drop]
end Go.Proofs.Ytihkjfbhmlfonaa
namespace Go.Proofs.Ytihkjfbhmlfonaa
set_option linter.unusedVariables false
set_option linter.unusedSimpArgs false
open Go.RowKit
attribute [local go_sem ↓] Go.wp_at_zero Go.wp_at_succ

/-! What crashes and syncs leave; Claim, New with their footprints. -/
theorem list_ext0 {z y : List Int} (hl : z.length = y.length) (h : ∀ j, j < z.length → z.getD j 0 = y.getD j 0) : z = y := by
  apply List.ext_getElem hl
  intro i h1 h2
  have := h i h1
  rwa [List.getD_eq_getElem?_getD, List.getD_eq_getElem?_getD, List.getElem?_eq_getElem h1, List.getElem?_eq_getElem h2] at this
set_option maxRecDepth 100000 in
set_option maxHeartbeats 400000 in
theorem getD_sub (l : List Int) (a b k : Nat) (h : a ≤ k) (h2 : k < a + b) : ((l.drop a).take b).getD (k - a) 0 = l.getD k 0 := by
  rw [List.getD_eq_getElem?_getD, List.getElem?_take, if_pos (by omega), List.getElem?_drop, show a + (k - a) = k by omega, ← List.getD_eq_getElem?_getD]
theorem tornTo_get {img : List Int} {n : Nat} {o : OW} (f : Nat) (h : img.length = 256 * n) (ho : OwOk n o) : ∀ j, j ≤ 4 → ∀ k, (tornTo img o f j).getD k 0 = if o.page * 256 ≤ k ∧ k < o.page * 256 + j * 64 ∧ f.testBit ((k - o.page * 256) / 64) = true then o.data.getD (k - o.page * 256) 0 else img.getD k 0
  | 0, _, k => by rw [if_neg (by omega)]; rfl
  | j + 1, hj, k => by
    have ih := tornTo_get f h ho j (by omega) k
    have hl := tornTo_len f h ho j (by omega)
    obtain ⟨h1, h2, h3⟩ := ho
    unfold tornTo
    split
    · rename_i hb
      have el : ((o.data.drop (j * 64)).take 64).length = 64 := by simp; omega
      rw [putAt_get _ _ _ (by rw [el, hl]; omega), el]
      by_cases c : o.page * 256 + j * 64 ≤ k ∧ k < o.page * 256 + j * 64 + 64
      · have hs : (k - o.page * 256) / 64 = j := by omega
        rw [if_pos c, if_pos ⟨by omega, by omega, by rw [hs]; exact hb⟩, show k - (o.page * 256 + j * 64) = (k - o.page * 256) - j * 64 by omega, getD_sub _ _ _ _ (by omega) (by omega)]
      · rw [if_neg c, ih]
        by_cases d : o.page * 256 ≤ k ∧ k < o.page * 256 + j * 64 ∧ f.testBit ((k - o.page * 256) / 64) = true
        · rw [if_pos d, if_pos ⟨d.1, by omega, d.2.2⟩]
        · rw [if_neg d, if_neg (fun e => d ⟨e.1, by omega, e.2.2⟩)]
    · rename_i hb
      rw [ih]
      by_cases d : o.page * 256 ≤ k ∧ k < o.page * 256 + j * 64 ∧ f.testBit ((k - o.page * 256) / 64) = true
      · rw [if_pos d, if_pos ⟨d.1, by omega, d.2.2⟩]
      · rw [if_neg d, if_neg]
        rintro ⟨e1, e2, e3⟩
        by_cases c : k < o.page * 256 + j * 64
        · exact d ⟨e1, c, e3⟩
        · rw [show (k - o.page * 256) / 64 = j by omega] at e3
          exact hb e3
theorem lay1_get {img : List Int} {n : Nat} {o : OW} (h : img.length = 256 * n) (ho : OwOk n o) (k : Nat) : (lay1 img o).getD k 0 = if o.page * 256 ≤ k ∧ k < o.page * 256 + 256 then o.data.getD (k - o.page * 256) 0 else img.getD k 0 := by
  obtain ⟨h1, h2, h3⟩ := ho
  unfold lay1
  rw [putAt_get _ _ _ (by rw [h2, h]; omega), h2]
theorem bit15 : ∀ s, s < 4 → Nat.testBit 15 s = true := by decide
theorem torn15 {img : List Int} {n : Nat} {o : OW} (h : img.length = 256 * n) (ho : OwOk n o) : tornTo img o 15 4 = lay1 img o := by
  apply list_ext0
  · rw [tornTo_len 15 h ho 4 (Nat.le_refl _), lay1_len h ho]
  · intro k hk
    rw [tornTo_get 15 h ho 4 (Nat.le_refl _), lay1_get h ho]
    by_cases c : o.page * 256 ≤ k ∧ k < o.page * 256 + 256
    · rw [if_pos ⟨c.1, c.2, bit15 _ (by omega)⟩, if_pos c]
    · rw [if_neg (fun e => c ⟨e.1, e.2.1⟩), if_neg c]
theorem crash15 {img : List Int} {ops : List OW} {n : Nat} (h : img.length = 256 * n) (ho : ∀ o ∈ ops, OwOk n o) (m : Nat) (hm : ops.length ≤ m) : ∀ i, i ≤ ops.length → crashTo img ops (List.replicate m 15) i = layTo img ops i
  | 0, _ => rfl
  | i + 1, hi => by
    have ih := crash15 h ho m hm i (by omega)
    have hf : fateOf (List.replicate m 15) i = 15 := by unfold fateOf; rw [List.getD_eq_getElem?_getD, List.getElem?_replicate, if_pos (by omega)]; rfl
    rw [crashTo, if_pos (by rw [List.length_replicate]; omega), hf, ih, layTo_succ _ _ _ (by omega), torn15 (layTo_len h ho i (by omega)) (ho _ (getD_memW ops i (by omega)))]
theorem crash0 (img : List Int) (ops : List OW) : ∀ i, crashTo img ops [] i = img
  | 0 => rfl
  | i + 1 => by rw [crashTo, if_neg (by simp)]; exact crash0 img ops i
/-- A disk that is not armed, behind a sync. -/
def DS.sy0 (D : DS) : DS := { D with img := layTo D.img D.ops D.ops.length, ops := [], syncs := D.syncs + 1 }
theorem sy0_ok {D : DS} (hok : DsOk D) (hsy : D.syncs < 4000000000000000000) : DsOk D.sy0 := by
  obtain ⟨h3, h4, hn, hop⟩ := hok.np
  exact ⟨⟨D.np, h3, h4, layTo_len hn hop _ (Nat.le_refl _), fun o ho => by cases ho⟩, layTo_bts hok.bts hop _ (Nat.le_refl _), by simp [DS.sy0], hok.reads, hok.writes, by show 0 ≤ D.syncs + 1 ∧ D.syncs + 1 ≤ _; have := hok.syncs; omega, hok.epoch, hok.armed⟩
theorem sy0_np {D : DS} (hok : DsOk D) : D.sy0.np = D.np := by
  obtain ⟨h3, h4, hn, hop⟩ := hok.np
  show (layTo D.img D.ops D.ops.length).length / 256 = _
  rw [layTo_len hn hop _ (Nat.le_refl _)]; omega
theorem crashed_np {D : DS} (hok : DsOk D) (fs : List Int) : (D.crashed fs).np = D.np := by
  obtain ⟨h3, h4, hn, hop⟩ := hok.np
  show (crashTo D.img D.ops fs D.ops.length).length / 256 = _
  rw [crashTo_len fs hn hop _ (Nat.le_refl _)]; omega
/-- Fates that are all whole, and none. -/
theorem whole_img {D : DS} (hok : DsOk D) (m : Nat) (hm : D.ops.length ≤ m) : D.sy0.img = (D.crashed (List.replicate m 15)).img := (crash15 hok.np.2.2.1 hok.np.2.2.2 m hm _ (Nat.le_refl _)).symm
theorem none_img (D : DS) : (D.crashed []).img = D.img := crash0 _ _ _
theorem newZ_ok {k : Nat} (h3 : 3 ≤ k) (h4 : k ≤ 4096) : DsOk (newD (List.replicate (256 * k) 0)) := newD_ok h3 h4 (by simp) (bts_rep _)
theorem lay_other {img : List Int} {n : Nat} {ops : List OW} (h : img.length = 256 * n) (ho : ∀ o ∈ ops, OwOk n o) (x : Nat) (hx : ∀ o ∈ ops, o.page ≠ x / 256) : ∀ i, i ≤ ops.length → (layTo img ops i).getD x 0 = img.getD x 0
  | 0, _ => rfl
  | i + 1, hi => by
    have hm := getD_memW ops i (by omega)
    have := hx _ hm
    rw [layTo_succ _ _ _ (by omega), lay1_get (layTo_len h ho i (by omega)) (ho _ hm), if_neg (by omega), lay_other h ho x hx i (by omega)]
theorem crash_other {img : List Int} {n : Nat} {ops : List OW} (fs : List Int) (h : img.length = 256 * n) (ho : ∀ o ∈ ops, OwOk n o) (x : Nat) (hx : ∀ o ∈ ops, o.page ≠ x / 256) : ∀ i, i ≤ ops.length → (crashTo img ops fs i).getD x 0 = img.getD x 0
  | 0, _ => rfl
  | i + 1, hi => by
    have hm := getD_memW ops i (by omega)
    have := hx _ hm
    have ih := crash_other fs h ho x hx i (by omega)
    rw [crashTo]
    split
    · rw [tornTo_get _ (crashTo_len fs h ho i (by omega)) (ho _ hm) 4 (Nat.le_refl _), if_neg (fun e => by omega), ih]
    · exact ih
theorem kept_page {img X : List Int} {k p : Nat} (h1 : img.length = 256 * k) (h2 : X.length = 256 * k) (hp : p < k) (h : ∀ x, x / 256 = p → img.getD x 0 = X.getD x 0) : (img.drop (256 * p)).take 256 = (X.drop (256 * p)).take 256 := by
  apply list_ext0
  · simp [h1, h2]
  · intro j hj
    have hj2 : j < 256 := by simp at hj; omega
    have := h (256 * p + j) (by omega)
    rw [List.getD_eq_getElem?_getD, List.getElem?_take, if_pos hj2, List.getElem?_drop, ← List.getD_eq_getElem?_getD, this, List.getD_eq_getElem?_getD (l := (X.drop (256 * p)).take 256), List.getElem?_take, if_pos hj2, List.getElem?_drop, ← List.getD_eq_getElem?_getD]
theorem page_get {img X : List Int} {p : Nat} (h : (img.drop (256 * p)).take 256 = (X.drop (256 * p)).take 256) (x : Nat) (hx : x / 256 = p) : img.getD x 0 = X.getD x 0 := by
  have : ((img.drop (256 * p)).take 256).getD (x - 256 * p) 0 = ((X.drop (256 * p)).take 256).getD (x - 256 * p) 0 := by rw [h]
  rwa [getD_sub _ _ _ _ (by omega) (by omega), getD_sub _ _ _ _ (by omega) (by omega)] at this
set_option maxHeartbeats 400000 in
theorem Claim_in (w : World) (base : Nat) (P : DP) (D : DS) (h : DK w base P D) (ha : 0 ≤ D.epoch ∧ D.epoch < 4000000000000000000) :
    Calls Try.prog 39 #[.pointer (some ⟨P.p, 0, none⟩)] w fun e w' => e = .returned (.int .i64 (D.epoch + 1)) ∧ DK w' base P { D with epoch := D.epoch + 1 } ∧ Fr P.fp w w' := by
  have c := h.c9
  have f := h.fz 9
  have hq := h.put (D' := { D with epoch := D.epoch + 1 }) 9 (.int .i64 (D.epoch + 1)) rfl rfl rfl
  have q := hq.c9
  have HQ := hid hq
  have hp := h.hp
  clear hq
  simp only at q
  generalize D.epoch = a at *
  go_enter Try.func39, Try.ntmps39
  go_wp2
  go_ret
  exact ⟨rfl, HQ.out, (Fr.refl _ w).setCell hp _ _⟩
theorem Claim_any (w : World) (base : Nat) (F : List Nat) (p : Nat) (D : DS) (h : DA w base F p D) (hep : D.epoch < 4000000000000000000) :
    Calls Try.prog 39 #[.pointer (some ⟨p, 0, none⟩)] w fun e w' => e = .returned (.int .i64 (D.epoch + 1)) ∧ Nx base F p w { D with epoch := D.epoch + 1 } w' := by
  obtain ⟨P, rfl, rfl, hk, hok⟩ := h
  refine (Claim_in w base P D hk ⟨hok.epoch.1, hep⟩).mono ?_
  rintro e w' ⟨rfl, h1, h2⟩
  exact ⟨rfl, Nx.of_same h1 ⟨hok.n, hok.bts, hok.ops, hok.reads, hok.writes, hok.syncs, by show 0 ≤ D.epoch + 1 ∧ D.epoch + 1 ≤ _; have := hok.epoch; omega, hok.armed⟩ h2⟩
end Go.Proofs.Ytihkjfbhmlfonaa
