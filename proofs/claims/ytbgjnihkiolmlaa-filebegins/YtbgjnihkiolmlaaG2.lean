import Derived.Test.YtbgjnihkiolmlaaG1
import Derived.Test.YtbgjnihkiolmlaaG0
namespace Go.Proofs.Ytbgjnihkiolmlaa
set_option linter.unusedVariables false
set_option linter.unusedSimpArgs false
open Go.RowKit

/-! Pages of an image; what is read, what is synced. -/
def pgO (img : List Int) (q : Nat) : List Int := (img.drop (q * 256)).take 256
theorem pgO_len {img : List Int} {n q : Nat} (h : img.length = 256 * n) (hq : q < n) : (pgO img q).length = 256 := by
  unfold pgO; rw [List.length_take, List.length_drop]; omega
theorem pgO_get (img : List Int) (q j : Nat) (hj : j < 256) : (pgO img q).getD j 0 = img.getD (q * 256 + j) 0 := by
  unfold pgO
  rw [List.getD_eq_getElem?_getD, List.getElem?_take, if_pos hj, List.getElem?_drop, ← List.getD_eq_getElem?_getD]
theorem pgO_eq {img : List Int} {n q : Nat} {L : List Int} (h : img.length = 256 * n) (hq : q < n) (hL : L.length = 256) (hg : ∀ j, j < 256 → img.getD (q * 256 + j) 0 = L.getD j 0) : pgO img q = L :=
  list_ext0 (by rw [pgO_len h hq, hL]) fun j hj => by rw [pgO_len h hq] at hj; rw [pgO_get _ _ _ hj, hg j hj]
theorem bts_byts {zs : List Int} (h : Bts zs) : Byts zs := h
theorem pgO_byts {img : List Int} (h : Bts img) (q : Nat) : Byts (pgO img q) := fun x hx => h x (List.mem_of_mem_drop (List.mem_of_mem_take hx))
theorem pgO_zero (n q : Nat) (hq : q < n) : pgO (List.replicate (256 * n) 0) q = zz 256 := by
  unfold pgO zz
  rw [List.drop_replicate, List.take_replicate]
  congr 1
  omega
theorem readOf_nil {D : DS} (h : D.ops = []) (q : Nat) : D.readOf q = pgO D.img q := by
  unfold DS.readOf pgO; rw [h, lastOf_nil]
theorem getD_snocW (ops : List OW) (o : OW) (i : Nat) (hi : i < ops.length) : (ops ++ [o]).getD i dW = ops.getD i dW := by
  rw [List.getD_eq_getElem?_getD, List.getElem?_append_left hi, ← List.getD_eq_getElem?_getD]
theorem readOf_snoc {D D' : DS} {o : OW} (hi : D'.img = D.img) (ho : D'.ops = D.ops ++ [o]) (q : Nat) : D'.readOf q = if o.page = q then o.data else D.readOf q := by
  unfold DS.readOf
  rw [hi, ho, lastOf_snoc]
  by_cases c : o.page = q
  · rw [if_pos c, if_pos c]
    show ((D.ops ++ [o]).getD D.ops.length dW).data = _
    rw [List.getD_eq_getElem?_getD, List.getElem?_append_right (Nat.le_refl _), Nat.sub_self]
    rfl
  · rw [if_neg c, if_neg c]
    cases hl : lastOf D.ops q with
    | none => rfl
    | some i => exact congrArg OW.data (getD_snocW _ _ _ (lastOf_lt hl))
/-- What a sync lays down is what was read. -/
theorem layTo_snoc (img : List Int) (ops : List OW) (o : OW) : layTo img (ops ++ [o]) (ops ++ [o]).length = lay1 (layTo img ops ops.length) o := by
  unfold layTo
  rw [List.take_length, List.take_length, List.foldl_append]; rfl
theorem lay_read {img : List Int} {n : Nat} (h : img.length = 256 * n) : ∀ (r : List OW), (∀ o ∈ r, OwOk n o) → ∀ q, q < n → pgO (layTo img r.reverse r.reverse.length) q = (match lastOf r.reverse q with | some i => (r.reverse.getD i dW).data | none => pgO img q)
  | [], _, q, _ => rfl
  | o :: r, ho, q, hq => by
    have ih := lay_read h r (fun x hx => ho x (List.mem_cons_of_mem _ hx)) q hq
    have ho1 := ho o (List.mem_cons_self)
    have hr : ∀ x ∈ r.reverse, OwOk n x := fun x hx => ho x (List.mem_cons_of_mem _ (List.mem_reverse.1 hx))
    have hl := layTo_len h hr _ (Nat.le_refl _)
    rw [List.reverse_cons, layTo_snoc, lastOf_snoc]
    have hL := lay1_len hl ho1
    by_cases c : o.page = q
    · rw [if_pos c]
      have e : ((r.reverse ++ [o]).getD r.reverse.length dW).data = o.data := by
        rw [List.getD_eq_getElem?_getD, List.getElem?_append_right (Nat.le_refl _), Nat.sub_self]; rfl
      show pgO _ q = ((r.reverse ++ [o]).getD r.reverse.length dW).data
      rw [e]
      refine pgO_eq hL hq ho1.2.1 fun j hj => ?_
      rw [lay1_get hl ho1, if_pos (by omega)]
      congr 1; omega
    · rw [if_neg c]
      have e : pgO (lay1 (layTo img r.reverse r.reverse.length) o) q = pgO (layTo img r.reverse r.reverse.length) q := by
        refine pgO_eq hL hq (pgO_len hl hq) fun j hj => ?_
        rw [lay1_get hl ho1, pgO_get _ _ _ hj, if_neg (by omega)]
      rw [e, ih]
      cases hx : lastOf r.reverse q with
      | none => rfl
      | some i => exact (congrArg OW.data (getD_snocW _ _ _ (lastOf_lt hx))).symm
theorem sync_read {D : DS} (hok : DsOk D) (q : Nat) (hq : q < D.np) : pgO (layTo D.img D.ops D.ops.length) q = D.readOf q := by
  obtain ⟨_, _, hn, hop⟩ := hok.np
  have := lay_read hn D.ops.reverse (fun x hx => hop x (List.mem_reverse.1 hx)) q hq
  rw [List.reverse_reverse] at this
  rw [this]; rfl
/-- A page that no open write names stays. -/
theorem crash_page {D : DS} (hok : DsOk D) (fs : List Int) (q : Nat) (hq : q < D.np) (hx : ∀ o ∈ D.ops, o.page ≠ q) : pgO (crashTo D.img D.ops fs D.ops.length) q = pgO D.img q := by
  obtain ⟨_, _, hn, hop⟩ := hok.np
  refine pgO_eq (crashTo_len fs hn hop _ (Nat.le_refl _)) hq (pgO_len hn hq) fun j hj => ?_
  rw [crash_other fs hn hop _ (fun o ho => by have := hx o ho; omega) _ (Nat.le_refl _), pgO_get _ _ _ hj]
theorem read_page {D : DS} (q : Nat) (hx : ∀ o ∈ D.ops, o.page ≠ q) : D.readOf q = pgO D.img q := by
  unfold DS.readOf
  have : lastOf D.ops q = none := by
    cases h : lastOf D.ops q with
    | none => rfl
    | some i =>
      exfalso
      have key : ∀ r : List OW, (∀ o ∈ r, o.page ≠ q) → lastR q r = none := by
        intro r
        induction r with
        | nil => intro _; rfl
        | cons o r ih => intro hr; unfold lastR; rw [if_neg (hr o (List.mem_cons_self))]; exact ih fun x hx => hr x (List.mem_cons_of_mem _ hx)
      have := key D.ops.reverse (fun o ho => hx o (List.mem_reverse.1 ho))
      unfold lastOf at h
      rw [this] at h; cases h
  rw [this]; rfl
/-- One open write: its first sector is there or is not. -/
theorem crash_one {D : DS} (hok : DsOk D) (fs : List Int) (q : Nat) (hq : q < D.np) (d : List Int) (h1 : D.ops = [⟨q, d⟩]) : ∃ (b : Bool) (T : List Int), T.length = 192 ∧ Byts T ∧ pgO (crashTo D.img D.ops fs D.ops.length) q = (if b then d else pgO D.img q).take 64 ++ T := by
  obtain ⟨_, _, hn, hop⟩ := hok.np
  have ho := hop ⟨q, d⟩ (by rw [h1]; exact List.mem_singleton.2 rfl)
  have hcl := crashTo_len fs hn hop _ (Nat.le_refl _)
  have hb8 := crashTo_bts fs hok.bts hop _ (Nat.le_refl _)
  have hP := pgO_len hcl hq
  have hd : d.length = 256 := ho.2.1
  have key : ∀ X : List Int, X.length = 256 → (∀ j, j < 64 → (pgO (crashTo D.img D.ops fs D.ops.length) q).getD j 0 = X.getD j 0) → pgO (crashTo D.img D.ops fs D.ops.length) q = X.take 64 ++ (pgO (crashTo D.img D.ops fs D.ops.length) q).drop 64 := by
    intro X hX hj
    refine list_ext0 (by simp [hP, hX]) fun j hj2 => ?_
    rw [hP] at hj2
    by_cases c : j < 64
    · rw [List.getD_eq_getElem?_getD (l := X.take 64 ++ _), List.getElem?_append_left (by rw [List.length_take]; omega), List.getElem?_take, if_pos c, ← List.getD_eq_getElem?_getD]; exact hj j c
    · rw [List.getD_eq_getElem?_getD (l := X.take 64 ++ _), List.getElem?_append_right (by rw [List.length_take]; omega), List.getElem?_drop, ← List.getD_eq_getElem?_getD]
      congr 1; rw [List.length_take]; omega
  have hT : ((pgO (crashTo D.img D.ops fs D.ops.length) q).drop 64).length = 192 := by rw [List.length_drop, hP]
  have hT8 : Byts ((pgO (crashTo D.img D.ops fs D.ops.length) q).drop 64) := fun x hx => pgO_byts hb8 q x (List.mem_of_mem_drop hx)
  have hval : ∀ j, j < 64 → (pgO (crashTo D.img D.ops fs D.ops.length) q).getD j 0 = if 0 < fs.length ∧ (fateOf fs 0).testBit 0 = true then d.getD j 0 else (pgO D.img q).getD j 0 := by
    intro j hj
    rw [pgO_get _ _ _ (by omega), pgO_get _ _ _ (by omega), h1]
    show (if 0 < fs.length then tornTo D.img ⟨q, d⟩ (fateOf fs 0) 4 else D.img).getD (q * 256 + j) 0 = _
    by_cases c : 0 < fs.length
    · rw [if_pos c, tornTo_get _ hn ho 4 (Nat.le_refl _)]
      have e : (q * 256 + j - q * 256) / 64 = 0 := by omega
      have e2 : q * 256 + j - q * 256 = j := by omega
      by_cases b : (fateOf fs 0).testBit 0 = true
      · rw [if_pos (by refine ⟨?_, ?_, ?_⟩ <;> first | (show (fateOf fs 0).testBit ((q * 256 + j - q * 256) / 64) = true; rw [e]; exact b) | (show _ ≤ _; simp only; omega) | (show _ < _; simp only; omega)), if_pos ⟨c, b⟩]
        exact congrArg (fun i => d.getD i 0) e2
      · rw [if_neg (fun x => by have x2 := x.2.2; change (fateOf fs 0).testBit ((q * 256 + j - q * 256) / 64) = true at x2; rw [e] at x2; exact b x2), if_neg (fun x => b x.2)]
    · rw [if_neg c, if_neg (fun x => c x.1)]
  by_cases c : 0 < fs.length ∧ (fateOf fs 0).testBit 0 = true
  · exact ⟨true, _, hT, hT8, key d hd fun j hj => by rw [hval j hj, if_pos c]⟩
  · exact ⟨false, _, hT, hT8, key (pgO D.img q) (pgO_len hn hq) fun j hj => by rw [hval j hj, if_neg c]⟩
/-! Superblocks' slots. -/
def secP (s : Sup) : List Int := secS s ++ List.replicate 192 0
theorem secP_len (s : Sup) : (secP s).length = 256 := by rw [secP, List.length_append, secS_len, List.length_replicate]
theorem secP_byts {s : Sup} (h : validS s = true) : Byts (secP s) := byts_app (secS_byts s h) (rep_byts _)
theorem secP_take (s : Sup) : (secP s).take 64 = secS s := by
  unfold secP; rw [List.take_append_of_le_length (by rw [secS_len]; omega), List.take_of_length_le (by rw [secS_len]; omega)]
theorem zz_take : (zz 256).take 64 = zz 64 := by decide +kernel
theorem empty_app {Y : List Int} (hY : Y.length = 192) : emptyF (zz 64 ++ Y) = true := by
  unfold emptyF
  rw [List.length_append, hY, List.take_append_of_le_length (by simp [zz])]
  simp [zz]
theorem un_empty {Y : List Int} (hY : Y.length = 192) : (unSuperF (zz 64 ++ Y)).2 ≠ 0 := by
  intro h
  obtain ⟨_, hv, ht⟩ := unSuper_ok _ h
  rw [List.take_append_of_le_length (by simp [zz])] at ht
  have h76 := (secS_cons (unSuperF (zz 64 ++ Y)).1).1
  rw [← ht] at h76
  revert h76; decide +kernel
/-- Slots of a disk that is blank. -/
def Blank (L0 L1 : List Int) : Prop := ∃ Y Z : List Int, Y.length = 192 ∧ Z.length = 192 ∧ L1 = zz 64 ++ Z ∧ (L0 = zz 64 ++ Y ∨ ∃ s, validS s = true ∧ s.ge = 0 ∧ L0 = secS s ++ Y)
theorem Blank.choose {L0 L1 : List Int} (h : Blank L0 L1) : chooseF L0 L1 = (sup0, 55) := by
  obtain ⟨Y, Z, hY, hZ, rfl, rfl | ⟨s, hv, hg, rfl⟩⟩ := h
  · unfold chooseF
    rw [if_neg (fun h => un_empty hY h.1), if_pos (Or.inr (empty_app hY)), if_pos (empty_app hZ)]
  · unfold chooseF
    rw [unS_app s Y hv hY, if_neg (fun h => un_empty hZ h.2), if_pos (Or.inl ⟨rfl, hg⟩), if_pos (empty_app hZ)]
theorem Good.first {s u : Sup} (vs : validS s = true) (vu : validS u = true) (hf : Fol u s) (he : s.ge = 0) {Y Z : List Int} (hY : Y.length = 192) (hZ : Z.length = 192) (y8 : Byts Y) (z8 : Byts Z) : Good u s (secS s ++ Y) (secS u ++ Z) :=
  ⟨vu, vs, hf, Y, Z, hY, hZ, y8, z8, Or.inr ⟨by have := hf.1; omega, rfl, rfl⟩⟩
end Go.Proofs.Ytbgjnihkiolmlaa
