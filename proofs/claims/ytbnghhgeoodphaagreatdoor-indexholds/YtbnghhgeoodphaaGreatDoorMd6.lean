import Derived.Test.YtbnghhgeoodphaaGreatDoorE4j
namespace Go.Proofs.YtbnghhgeoodphaaGreatDoor
set_option linter.unusedVariables false
set_option linter.unusedSimpArgs false
open Go.RowKit
attribute [local go_sem ↓] Go.wp_at_zero Go.wp_at_succ

/-! Each call of a disk, with its footprint. -/
theorem Nx.of_same {w w' : World} {base : Nat} {P : DP} {D : DS} (h : DK w' base P D) (hok : DsOk D) (hF : Fr P.fp w w') : Nx base P.fp P.p w D w' := ⟨P.fp, ⟨P, rfl, rfl, h, hok⟩, hF, Gr.refl _ _⟩
theorem Nx.of_drop {w w' : World} {base : Nat} {P : DP} {D : DS} {M : DataW Unit} (h : DK w' base { P with ov := .slice none 0 0, M := M } D) (hok : DsOk D) (hF : Fr P.fp w w') : Nx base P.fp P.p w D w' := by
  refine ⟨_, ⟨{ P with ov := .slice none 0 0, M := M }, rfl, rfl, h, hok⟩, hF, fun k hk => Or.inl ?_⟩
  rcases (DP.mem _ k).1 hk with e | e | e | e
  · exact (P.mem k).2 (Or.inl e)
  · exact (P.mem k).2 (Or.inr (Or.inl e))
  · exact (P.mem k).2 (Or.inr (Or.inr (Or.inl e)))
  · simp [Value.ownBlock] at e
theorem Pages_any (w : World) (base : Nat) (F : List Nat) (p : Nat) (D : DS) (h : DA w base F p D) :
    Calls Tryz.prog 54 #[.pointer (some ⟨p, 0, none⟩)] w fun e w' => e = .returned (.int .i64 D.np) ∧ w = w' := by
  obtain ⟨P, rfl, rfl, hk, hok⟩ := h
  exact Pages_in w base P D hk D.np hok.np.2.2.1 hok.np.2.1
theorem Power_any (w : World) (base : Nat) (F : List Nat) (p : Nat) (D : DS) (h : DA w base F p D) :
    Calls Tryz.prog 52 #[.pointer (some ⟨p, 0, none⟩)] w fun e w' => e = .returned (.bool D.power) ∧ w = w' := by
  obtain ⟨P, rfl, rfl, hk, hok⟩ := h
  exact Power_in w base P D hk
theorem Epoch_any (w : World) (base : Nat) (F : List Nat) (p : Nat) (D : DS) (h : DA w base F p D) :
    Calls Tryz.prog 91 #[.pointer (some ⟨p, 0, none⟩)] w fun e w' => e = .returned (.int .i64 D.epoch) ∧ w = w' := by
  obtain ⟨P, rfl, rfl, hk, hok⟩ := h
  exact Epoch_in w base P D hk
/-- A disk behind a sync that closed. -/
def DS.synced (D : DS) : DS := { D.acted with img := layTo D.img D.ops D.ops.length, ops := [], syncs := D.syncs + 1 }
theorem synced_ok {D : DS} (hok : DsOk D) (hsy : D.syncs < 4000000000000000000) : DsOk D.synced := by
  obtain ⟨h3, h4, hn, hop⟩ := hok.np
  have hA := acted_ok hok
  exact ⟨⟨D.np, h3, h4, layTo_len hn hop _ (Nat.le_refl _), fun o ho => by cases ho⟩, layTo_bts hok.bts hop _ (Nat.le_refl _), by simp [DS.synced], hA.reads, hA.writes, by show 0 ≤ D.syncs + 1 ∧ D.syncs + 1 ≤ _; have := hok.syncs; omega, hA.epoch, hA.armed⟩
theorem Sync_any (w : World) (base : Nat) (F : List Nat) (p : Nat) (D : DS) (h : DA w base F p D) (hpw : D.power = true) (hac : D.armed ≠ 1) (hsy : D.syncs < 4000000000000000000) :
    Calls Tryz.prog 57 #[.pointer (some ⟨p, 0, none⟩)] w fun e w' => e = .returned (.int .i64 0) ∧ Nx base F p w D.synced w' := by
  obtain ⟨P, rfl, rfl, hk, hok⟩ := h
  refine (Sync_loop w base P D hk hok hpw hac hsy).mono ?_
  rintro e w' ⟨rfl, h1, h2⟩
  exact ⟨rfl, Nx.of_drop h1 (synced_ok hok hsy) h2⟩
theorem Sync_last (w : World) (base : Nat) (F : List Nat) (p : Nat) (D : DS) (h : DA w base F p D) (hpw : D.power = true) (hac : D.armed = 1) :
    Calls Tryz.prog 57 #[.pointer (some ⟨p, 0, none⟩)] w fun e w' => e = .returned (.int .i64 2) ∧ Nx base F p w D.acted w' := by
  obtain ⟨P, rfl, rfl, hk, hok⟩ := h
  refine (Sync_goes w base P D hk hok hpw hac).mono ?_
  rintro e w' ⟨rfl, h1, h2⟩
  exact ⟨rfl, Nx.of_same h1 (acted_ok hok) h2⟩
theorem own_in {w : World} {base : Nat} {v : Value} {zs : List Int} (h : Own w base v zs) (hz : 0 < zs.length) : ∃ g cap rest, v = .slice (some ⟨g, 0, none⟩) zs.length cap ∧ base ≤ g ∧ w.heap[g]? = some (.cells (ints .u8 zs ++ rest).toArray 5 (0, 0)) ∧ zs.length ≤ cap ∧ cap ≤ maxLen ∧ v.ownBlock = some g := by
  rcases h.2 with ⟨_, h0⟩ | ⟨g, cap, cur, rfl, hg, hh, hc, hm, hs, ht⟩
  · omega
  · refine ⟨g, cap, cur.toList.drop zs.length, rfl, hg, ?_, hc, hm, rfl⟩
    rw [hh]
    congr 2
    rw [← ht, Nat.mul_one, List.take_append_drop]
end Go.Proofs.YtbnghhgeoodphaaGreatDoor
namespace Go.Proofs.YtbnghhgeoodphaaGreatDoor
set_option linter.unusedVariables false
set_option linter.unusedSimpArgs false
open Go.RowKit
attribute [local go_sem ↓] Go.wp_at_zero Go.wp_at_succ

/-! What crashes and syncs leave; Claim, New with their footprints. -/
theorem list_ext0 {z y : List Int} (hl : z.length = y.length) (h : ∀ j, j < z.length → z.getD j 0 = y.getD j 0) : z = y := by
  apply List.ext_getElem hl
  intro i h1 h2
  have := h i h1
  rwa [List.getD_eq_getElem?_getD, List.getD_eq_getElem?_getD, List.getElem?_eq_getElem h1, List.getElem?_eq_getElem h2] at this
set_option maxRecDepth 100000 in
set_option maxHeartbeats 400000 in
theorem getD_sub (l : List Int) (a b k : Nat) (h : a ≤ k) (h2 : k < a + b) : ((l.drop a).take b).getD (k - a) 0 = l.getD k 0 := by
  rw [List.getD_eq_getElem?_getD, List.getElem?_take, if_pos (by omega), List.getElem?_drop, show a + (k - a) = k by omega, ← List.getD_eq_getElem?_getD]
theorem tornTo_get {img : List Int} {n : Nat} {o : OW} (f : Nat) (h : img.length = 256 * n) (ho : OwOk n o) : ∀ j, j ≤ 4 → ∀ k, (tornTo img o f j).getD k 0 = if o.page * 256 ≤ k ∧ k < o.page * 256 + j * 64 ∧ f.testBit ((k - o.page * 256) / 64) = true then o.data.getD (k - o.page * 256) 0 else img.getD k 0
  | 0, _, k => by rw [if_neg (by omega)]; rfl
  | j + 1, hj, k => by
    have ih := tornTo_get f h ho j (by omega) k
    have hl := tornTo_len f h ho j (by omega)
    obtain ⟨h1, h2, h3⟩ := ho
    unfold tornTo
    split
    · rename_i hb
      have el : ((o.data.drop (j * 64)).take 64).length = 64 := by simp; omega
      rw [putAt_get _ _ _ (by rw [el, hl]; omega), el]
      by_cases c : o.page * 256 + j * 64 ≤ k ∧ k < o.page * 256 + j * 64 + 64
      · have hs : (k - o.page * 256) / 64 = j := by omega
        rw [if_pos c, if_pos ⟨by omega, by omega, by rw [hs]; exact hb⟩, show k - (o.page * 256 + j * 64) = (k - o.page * 256) - j * 64 by omega, getD_sub _ _ _ _ (by omega) (by omega)]
      · rw [if_neg c, ih]
        by_cases d : o.page * 256 ≤ k ∧ k < o.page * 256 + j * 64 ∧ f.testBit ((k - o.page * 256) / 64) = true
        · rw [if_pos d, if_pos ⟨d.1, by omega, d.2.2⟩]
        · rw [if_neg d, if_neg (fun e => d ⟨e.1, by omega, e.2.2⟩)]
    · rename_i hb
      rw [ih]
      by_cases d : o.page * 256 ≤ k ∧ k < o.page * 256 + j * 64 ∧ f.testBit ((k - o.page * 256) / 64) = true
      · rw [if_pos d, if_pos ⟨d.1, by omega, d.2.2⟩]
      · rw [if_neg d, if_neg]
        rintro ⟨e1, e2, e3⟩
        by_cases c : k < o.page * 256 + j * 64
        · exact d ⟨e1, c, e3⟩
        · rw [show (k - o.page * 256) / 64 = j by omega] at e3
          exact hb e3
theorem lay1_get {img : List Int} {n : Nat} {o : OW} (h : img.length = 256 * n) (ho : OwOk n o) (k : Nat) : (lay1 img o).getD k 0 = if o.page * 256 ≤ k ∧ k < o.page * 256 + 256 then o.data.getD (k - o.page * 256) 0 else img.getD k 0 := by
  obtain ⟨h1, h2, h3⟩ := ho
  unfold lay1
  rw [putAt_get _ _ _ (by rw [h2, h]; omega), h2]
theorem crash_other {img : List Int} {n : Nat} {ops : List OW} (fs : List Int) (h : img.length = 256 * n) (ho : ∀ o ∈ ops, OwOk n o) (x : Nat) (hx : ∀ o ∈ ops, o.page ≠ x / 256) : ∀ i, i ≤ ops.length → (crashTo img ops fs i).getD x 0 = img.getD x 0
  | 0, _ => rfl
  | i + 1, hi => by
    have hm := getD_memW ops i (by omega)
    have := hx _ hm
    have ih := crash_other fs h ho x hx i (by omega)
    rw [crashTo]
    split
    · rw [tornTo_get _ (crashTo_len fs h ho i (by omega)) (ho _ hm) 4 (Nat.le_refl _), if_neg (fun e => by omega), ih]
    · exact ih
set_option maxHeartbeats 400000 in
theorem Claim_in (w : World) (base : Nat) (P : DP) (D : DS) (h : DK w base P D) (ha : 0 ≤ D.epoch ∧ D.epoch < 4000000000000000000) :
    Calls Tryz.prog 70 #[.pointer (some ⟨P.p, 0, none⟩)] w fun e w' => e = .returned (.int .i64 (D.epoch + 1)) ∧ DK w' base P { D with epoch := D.epoch + 1 } ∧ Fr P.fp w w' := by
  have c := h.c9
  have f := h.fz 9
  have hq := h.put (D' := { D with epoch := D.epoch + 1 }) 9 (.int .i64 (D.epoch + 1)) rfl rfl rfl
  have q := hq.c9
  have HQ := hid hq
  have hp := h.hp
  clear hq
  simp only at q
  generalize D.epoch = a at *
  go_enter Tryz.func70, Tryz.ntmps70
  go_wp2
  go_ret
  exact ⟨rfl, HQ.out, (Fr.refl _ w).setCell hp _ _⟩
end Go.Proofs.YtbnghhgeoodphaaGreatDoor
