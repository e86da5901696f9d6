import Derived.Test.YtihkjfbhmlfonaaG1
import Derived.Test.YtihkjfbhmlfonaaMd6
import Derived.Laws.EntriesVeiled
import Derived.Shelf.Abstract
namespace Go.Proofs.Ytihkjfbhmlfonaa
set_option linter.unusedVariables false
set_option linter.unusedSimpArgs false
open Go.RowKit

/-! Pages of an image; what is read, what is synced. -/
def pgO (img : List Int) (q : Nat) : List Int := (img.drop (q * 256)).take 256
theorem pgO_len {img : List Int} {n q : Nat} (h : img.length = 256 * n) (hq : q < n) : (pgO img q).length = 256 := by
  unfold pgO; rw [List.length_take, List.length_drop]; omega
theorem pgO_get (img : List Int) (q j : Nat) (hj : j < 256) : (pgO img q).getD j 0 = img.getD (q * 256 + j) 0 := by
  unfold pgO
  rw [List.getD_eq_getElem?_getD, List.getElem?_take, if_pos hj, List.getElem?_drop, ← List.getD_eq_getElem?_getD]
theorem pgO_eq {img : List Int} {n q : Nat} {L : List Int} (h : img.length = 256 * n) (hq : q < n) (hL : L.length = 256) (hg : ∀ j, j < 256 → img.getD (q * 256 + j) 0 = L.getD j 0) : pgO img q = L :=
  list_ext0 (by rw [pgO_len h hq, hL]) fun j hj => by rw [pgO_len h hq] at hj; rw [pgO_get _ _ _ hj, hg j hj]
theorem bts_byts {zs : List Int} (h : Bts zs) : Byts zs := h
theorem pgO_byts {img : List Int} (h : Bts img) (q : Nat) : Byts (pgO img q) := fun x hx => h x (List.mem_of_mem_drop (List.mem_of_mem_take hx))
theorem pgO_zero (n q : Nat) (hq : q < n) : pgO (List.replicate (256 * n) 0) q = zz 256 := by
  unfold pgO zz
  rw [List.drop_replicate, List.take_replicate]
  congr 1
  omega
theorem readOf_nil {D : DS} (h : D.ops = []) (q : Nat) : D.readOf q = pgO D.img q := by
  unfold DS.readOf pgO; rw [h, lastOf_nil]
theorem getD_snocW (ops : List OW) (o : OW) (i : Nat) (hi : i < ops.length) : (ops ++ [o]).getD i dW = ops.getD i dW := by
  rw [List.getD_eq_getElem?_getD, List.getElem?_append_left hi, ← List.getD_eq_getElem?_getD]
theorem readOf_snoc {D D' : DS} {o : OW} (hi : D'.img = D.img) (ho : D'.ops = D.ops ++ [o]) (q : Nat) : D'.readOf q = if o.page = q then o.data else D.readOf q := by
  unfold DS.readOf
  rw [hi, ho, lastOf_snoc]
  by_cases c : o.page = q
  · rw [if_pos c, if_pos c]
    show ((D.ops ++ [o]).getD D.ops.length dW).data = _
    rw [List.getD_eq_getElem?_getD, List.getElem?_append_right (Nat.le_refl _), Nat.sub_self]
    rfl
  · rw [if_neg c, if_neg c]
    cases hl : lastOf D.ops q with
    | none => rfl
    | some i => exact congrArg OW.data (getD_snocW _ _ _ (lastOf_lt hl))
/-- What a sync lays down is what was read. -/
theorem layTo_snoc (img : List Int) (ops : List OW) (o : OW) : layTo img (ops ++ [o]) (ops ++ [o]).length = lay1 (layTo img ops ops.length) o := by
  unfold layTo
  rw [List.take_length, List.take_length, List.foldl_append]; rfl
theorem lay_read {img : List Int} {n : Nat} (h : img.length = 256 * n) : ∀ (r : List OW), (∀ o ∈ r, OwOk n o) → ∀ q, q < n → pgO (layTo img r.reverse r.reverse.length) q = (match lastOf r.reverse q with | some i => (r.reverse.getD i dW).data | none => pgO img q)
  | [], _, q, _ => rfl
  | o :: r, ho, q, hq => by
    have ih := lay_read h r (fun x hx => ho x (List.mem_cons_of_mem _ hx)) q hq
    have ho1 := ho o (List.mem_cons_self)
    have hr : ∀ x ∈ r.reverse, OwOk n x := fun x hx => ho x (List.mem_cons_of_mem _ (List.mem_reverse.1 hx))
    have hl := layTo_len h hr _ (Nat.le_refl _)
    rw [List.reverse_cons, layTo_snoc, lastOf_snoc]
    have hL := lay1_len hl ho1
    by_cases c : o.page = q
    · rw [if_pos c]
      have e : ((r.reverse ++ [o]).getD r.reverse.length dW).data = o.data := by
        rw [List.getD_eq_getElem?_getD, List.getElem?_append_right (Nat.le_refl _), Nat.sub_self]; rfl
      show pgO _ q = ((r.reverse ++ [o]).getD r.reverse.length dW).data
      rw [e]
      refine pgO_eq hL hq ho1.2.1 fun j hj => ?_
      rw [lay1_get hl ho1, if_pos (by omega)]
      congr 1; omega
    · rw [if_neg c]
      have e : pgO (lay1 (layTo img r.reverse r.reverse.length) o) q = pgO (layTo img r.reverse r.reverse.length) q := by
        refine pgO_eq hL hq (pgO_len hl hq) fun j hj => ?_
        rw [lay1_get hl ho1, pgO_get _ _ _ hj, if_neg (by omega)]
      rw [e, ih]
      cases hx : lastOf r.reverse q with
      | none => rfl
      | some i => exact (congrArg OW.data (getD_snocW _ _ _ (lastOf_lt hx))).symm
theorem sync_read {D : DS} (hok : DsOk D) (q : Nat) (hq : q < D.np) : pgO (layTo D.img D.ops D.ops.length) q = D.readOf q := by
  obtain ⟨_, _, hn, hop⟩ := hok.np
  have := lay_read hn D.ops.reverse (fun x hx => hop x (List.mem_reverse.1 hx)) q hq
  rw [List.reverse_reverse] at this
  rw [this]; rfl
/-- A page that no open write names stays. -/
theorem crash_page {D : DS} (hok : DsOk D) (fs : List Int) (q : Nat) (hq : q < D.np) (hx : ∀ o ∈ D.ops, o.page ≠ q) : pgO (crashTo D.img D.ops fs D.ops.length) q = pgO D.img q := by
  obtain ⟨_, _, hn, hop⟩ := hok.np
  refine pgO_eq (crashTo_len fs hn hop _ (Nat.le_refl _)) hq (pgO_len hn hq) fun j hj => ?_
  rw [crash_other fs hn hop _ (fun o ho => by have := hx o ho; omega) _ (Nat.le_refl _), pgO_get _ _ _ hj]
theorem read_page {D : DS} (q : Nat) (hx : ∀ o ∈ D.ops, o.page ≠ q) : D.readOf q = pgO D.img q := by
  unfold DS.readOf
  have : lastOf D.ops q = none := by
    cases h : lastOf D.ops q with
    | none => rfl
    | some i =>
      exfalso
      have key : ∀ r : List OW, (∀ o ∈ r, o.page ≠ q) → lastR q r = none := by
        intro r
        induction r with
        | nil => intro _; rfl
        | cons o r ih => intro hr; unfold lastR; rw [if_neg (hr o (List.mem_cons_self))]; exact ih fun x hx => hr x (List.mem_cons_of_mem _ hx)
      have := key D.ops.reverse (fun o ho => hx o (List.mem_reverse.1 ho))
      unfold lastOf at h
      rw [this] at h; cases h
  rw [this]; rfl
/-- One open write: its first sector is there or is not. -/
theorem crash_one {D : DS} (hok : DsOk D) (fs : List Int) (q : Nat) (hq : q < D.np) (d : List Int) (h1 : D.ops = [⟨q, d⟩]) : ∃ (b : Bool) (T : List Int), T.length = 192 ∧ Byts T ∧ pgO (crashTo D.img D.ops fs D.ops.length) q = (if b then d else pgO D.img q).take 64 ++ T := by
  obtain ⟨_, _, hn, hop⟩ := hok.np
  have ho := hop ⟨q, d⟩ (by rw [h1]; exact List.mem_singleton.2 rfl)
  have hcl := crashTo_len fs hn hop _ (Nat.le_refl _)
  have hb8 := crashTo_bts fs hok.bts hop _ (Nat.le_refl _)
  have hP := pgO_len hcl hq
  have hd : d.length = 256 := ho.2.1
  have key : ∀ X : List Int, X.length = 256 → (∀ j, j < 64 → (pgO (crashTo D.img D.ops fs D.ops.length) q).getD j 0 = X.getD j 0) → pgO (crashTo D.img D.ops fs D.ops.length) q = X.take 64 ++ (pgO (crashTo D.img D.ops fs D.ops.length) q).drop 64 := by
    intro X hX hj
    refine list_ext0 (by simp [hP, hX]) fun j hj2 => ?_
    rw [hP] at hj2
    by_cases c : j < 64
    · rw [List.getD_eq_getElem?_getD (l := X.take 64 ++ _), List.getElem?_append_left (by rw [List.length_take]; omega), List.getElem?_take, if_pos c, ← List.getD_eq_getElem?_getD]; exact hj j c
    · rw [List.getD_eq_getElem?_getD (l := X.take 64 ++ _), List.getElem?_append_right (by rw [List.length_take]; omega), List.getElem?_drop, ← List.getD_eq_getElem?_getD]
      congr 1; rw [List.length_take]; omega
  have hT : ((pgO (crashTo D.img D.ops fs D.ops.length) q).drop 64).length = 192 := by rw [List.length_drop, hP]
  have hT8 : Byts ((pgO (crashTo D.img D.ops fs D.ops.length) q).drop 64) := fun x hx => pgO_byts hb8 q x (List.mem_of_mem_drop hx)
  have hval : ∀ j, j < 64 → (pgO (crashTo D.img D.ops fs D.ops.length) q).getD j 0 = if 0 < fs.length ∧ (fateOf fs 0).testBit 0 = true then d.getD j 0 else (pgO D.img q).getD j 0 := by
    intro j hj
    rw [pgO_get _ _ _ (by omega), pgO_get _ _ _ (by omega), h1]
    show (if 0 < fs.length then tornTo D.img ⟨q, d⟩ (fateOf fs 0) 4 else D.img).getD (q * 256 + j) 0 = _
    by_cases c : 0 < fs.length
    · rw [if_pos c, tornTo_get _ hn ho 4 (Nat.le_refl _)]
      have e : (q * 256 + j - q * 256) / 64 = 0 := by omega
      have e2 : q * 256 + j - q * 256 = j := by omega
      by_cases b : (fateOf fs 0).testBit 0 = true
      · rw [if_pos (by refine ⟨?_, ?_, ?_⟩ <;> first | (show (fateOf fs 0).testBit ((q * 256 + j - q * 256) / 64) = true; rw [e]; exact b) | (show _ ≤ _; simp only; omega) | (show _ < _; simp only; omega)), if_pos ⟨c, b⟩]
        exact congrArg (fun i => d.getD i 0) e2
      · rw [if_neg (fun x => by have x2 := x.2.2; change (fateOf fs 0).testBit ((q * 256 + j - q * 256) / 64) = true at x2; rw [e] at x2; exact b x2), if_neg (fun x => b x.2)]
    · rw [if_neg c, if_neg (fun x => c x.1)]
  by_cases c : 0 < fs.length ∧ (fateOf fs 0).testBit 0 = true
  · exact ⟨true, _, hT, hT8, key d hd fun j hj => by rw [hval j hj, if_pos c]⟩
  · exact ⟨false, _, hT, hT8, key (pgO D.img q) (pgO_len hn hq) fun j hj => by rw [hval j hj, if_neg c]⟩
/-! Superblocks' slots. -/
def secP (s : Sup) : List Int := secS s ++ List.replicate 192 0
theorem secP_len (s : Sup) : (secP s).length = 256 := by rw [secP, List.length_append, secS_len, List.length_replicate]
theorem secP_byts {s : Sup} (h : validS s = true) : Byts (secP s) := byts_app (secS_byts s h) (rep_byts _)
theorem secP_take (s : Sup) : (secP s).take 64 = secS s := by
  unfold secP; rw [List.take_append_of_le_length (by rw [secS_len]; omega), List.take_of_length_le (by rw [secS_len]; omega)]
theorem zz_take : (zz 256).take 64 = zz 64 := by decide +kernel
theorem empty_app {Y : List Int} (hY : Y.length = 192) : emptyF (zz 64 ++ Y) = true := by
  unfold emptyF
  rw [List.length_append, hY, List.take_append_of_le_length (by simp [zz])]
  simp [zz]
theorem un_empty {Y : List Int} (hY : Y.length = 192) : (unSuperF (zz 64 ++ Y)).2 ≠ 0 := by
  intro h
  obtain ⟨_, hv, ht⟩ := unSuper_ok _ h
  rw [List.take_append_of_le_length (by simp [zz])] at ht
  have h76 := (secS_cons (unSuperF (zz 64 ++ Y)).1).1
  rw [← ht] at h76
  revert h76; decide +kernel
/-- Slots of a disk that is blank. -/
def Blank (L0 L1 : List Int) : Prop := ∃ Y Z : List Int, Y.length = 192 ∧ Z.length = 192 ∧ L1 = zz 64 ++ Z ∧ (L0 = zz 64 ++ Y ∨ ∃ s, validS s = true ∧ s.ge = 0 ∧ L0 = secS s ++ Y)
theorem Blank.choose {L0 L1 : List Int} (h : Blank L0 L1) : chooseF L0 L1 = (sup0, 55) := by
  obtain ⟨Y, Z, hY, hZ, rfl, rfl | ⟨s, hv, hg, rfl⟩⟩ := h
  · unfold chooseF
    rw [if_neg (fun h => un_empty hY h.1), if_pos (Or.inr (empty_app hY)), if_pos (empty_app hZ)]
  · unfold chooseF
    rw [unS_app s Y hv hY, if_neg (fun h => un_empty hZ h.2), if_pos (Or.inl ⟨rfl, hg⟩), if_pos (empty_app hZ)]
theorem Good.first {s u : Sup} (vs : validS s = true) (vu : validS u = true) (hf : Fol u s) (he : s.ge = 0) {Y Z : List Int} (hY : Y.length = 192) (hZ : Z.length = 192) (y8 : Byts Y) (z8 : Byts Z) : Good u s (secS s ++ Y) (secS u ++ Z) :=
  ⟨vu, vs, hf, Y, Z, hY, hZ, y8, z8, Or.inr ⟨by have := hf.1; omega, rfl, rfl⟩⟩
end Go.Proofs.Ytihkjfbhmlfonaa
namespace Go.Proofs.Ytihkjfbhmlfonaa
set_option linter.unusedVariables false
set_option linter.unusedSimpArgs false
open Go.RowKit
attribute [local go_sem ↓] Go.wp_at_zero Go.wp_at_succ

/-! Steps, one behind the other. -/
theorem Nx.pre {base : Nat} {F : List Nat} {p : Nat} {w w1 w2 : World} {D : DS} (hb : Below w.heap.size w w1) (h : Nx base F p w1 D w2) : Nx base F p w D w2 := by
  obtain ⟨F', h1, h2, h3⟩ := h
  exact ⟨F', h1, (Fr.of_below hb).trans h2 (Gr.refl _ _), fun k hk => (h3 k hk).imp id (fun q => Nat.le_trans hb.size q)⟩
theorem Nx.post {base : Nat} {F : List Nat} {p : Nat} {w w1 w2 : World} {D : DS} (h : Nx base F p w D w1) (hb : Below w1.heap.size w1 w2) : Nx base F p w D w2 := by
  obtain ⟨F', h1, h2, h3⟩ := h
  exact ⟨F', h1.below hb, h2.tail (F' := F) hb, h3⟩
theorem Nx.seq {base : Nat} {F F' : List Nat} {p : Nat} {w w1 w2 : World} {D : DS} (h2 : Fr F w w1) (h3 : Gr w F F') (h : Nx base F' p w1 D w2) : Nx base F p w D w2 := by
  obtain ⟨F2, q1, q2, q3⟩ := h
  exact ⟨F2, q1, h2.trans q2 h3, h3.trans q3 h2.size⟩
theorem Nx.of {base : Nat} {F : List Nat} {p : Nat} {w : World} {D : DS} (h : DA w base F p D) : Nx base F p w D w := ⟨F, h, Fr.refl _ _, Gr.refl _ _⟩
/-- Blocks of another kind are none of a disk's. -/
theorem DA.not_in {w : World} {base : Nat} {F : List Nat} {p : Nat} {D : DS} (h : DA w base F p D) {b : Nat} {cs : Array Value} {t : TypeId} {fr : Nat × Nat} (hb : w.heap[b]? = some (.cells cs t fr)) (h1 : t ≠ 53) (h2 : t ≠ 5) (h3 : t ≠ 119) : b ∉ F := by
  obtain ⟨P, rfl, rfl, hk, _⟩ := h
  intro e
  rcases (P.mem b).1 e with rfl | rfl | rfl | q
  · exact ne_ty hb hk.cell h1 rfl
  · exact ne_ty hb hk.im h2 rfl
  · obtain ⟨es, clock, hm, _⟩ := hk.mp
    rw [hb] at hm; cases hm
  · obtain ⟨_, cur, hh⟩ := ownsRow_block hk.opn _ q; exact ne_ty hb hh h3 rfl
theorem Fr.keep {F : List Nat} {w w1 : World} (h : Fr F w w1) {b : Nat} {o : Obj} (hb : w.heap[b]? = some o) (hn : b ∉ F) : w1.heap[b]? = some o := (h.block b (hlt_ hb) hn).trans hb
set_option maxHeartbeats 400000 in
theorem inTurn_any (w : World) (g n : Nat) (hn : n ≤ 100) (fn : Nat → Nat) (first cap : Nat → Array Value) (I : Nat → World → Prop) (E : Int → World → Prop)
    (hent : ∀ k, k < n → ∀ (args : Array Value) (w1 : World), (callFunc (fn k) args).run Try.prog w1 = .ok (.enter (fn k) args) w1)
    (h0 : I 0 w)
    (hcell : ∀ k w1, k < n → I k w1 → w1.cell? ⟨g, k, none⟩ = some (.func (.func (fn k)) (first k) (cap k)))
    (hcall : ∀ k w1, k < n → I k w1 → Calls Try.prog (fn k) (first k ++ cap k) w1 fun e w2 => ∃ x, e = .returned (.int .i64 x) ∧ (x = 0 → I (k + 1) w2) ∧ (x ≠ 0 → E x w2)) :
    Calls Try.prog 36 #[.slice (some ⟨g, 0, none⟩) n n] w fun e w2 => ∃ x, e = .returned (.int .i64 x) ∧ (x = 0 → I n w2) ∧ (x ≠ 0 → E x w2) := by
  have i0 : (n : Int) ≤ 100 := by omega
  go_enter Try.func36, Try.ntmps36
  go_wp2
  go_loopw [4, 5, 8] (fun _ _ iv wr => ∃ k : Nat, k ≤ n ∧ iv = .int .i64 k ∧ I k wr) (fun _ _ iv _ => n - (intOf iv).toNat)
  case atStart => exact ⟨0, by omega, rfl, h0⟩
  case round =>
    obtain ⟨k, hk, rfl, hI⟩ := hrel
    by_cases hlt : k < n
    · have i1 : (k : Int) < (n : Int) := by omega
      have c := hcell k wr hlt hI
      have HC := hid (hcall k wr hlt hI)
      have he := hent k hlt
      clear hcell hcall h0 hent
      generalize fn k = f at *
      generalize first k = fi at *
      generalize cap k = ca at *
      · go_wp2_with (refine HC.out.mono ?_; rintro e w2 ⟨x, rfl, hx0, hx1⟩; by_cases hx : x = 0)
        · subst hx
          go_wp2
          go_roundw
          case rel => exact ⟨k + 1, by omega, by go_num, hx0 rfl⟩
          case measure => simp [intOf]; omega
        · have i2 : (x != 0) = true := by simpa using hx
          go_wp2
          go_ret
          exact ⟨_, rfl, fun q => absurd q hx, fun _ => hx1 hx⟩
    · obtain rfl : k = n := by omega
      go_wp2
      go_ret
      exact ⟨_, rfl, fun _ => hI, fun q => absurd rfl q⟩
end Go.Proofs.Ytihkjfbhmlfonaa
namespace Go.Proofs.Ytihkjfbhmlfonaa
set_option linter.unusedVariables false
set_option linter.unusedSimpArgs false
open Go.RowKit
attribute [local go_sem ↓] Go.wp_at_zero Go.wp_at_succ

/-! Superblocks laid and chosen. -/
theorem readOf_fine {D : DS} (hok : DsOk D) (q : Nat) (hq : q < D.np) : (D.readOf q).length = 256 ∧ Byts (D.readOf q) := by
  obtain ⟨_, _, hn, hop⟩ := hok.np
  unfold DS.readOf
  cases h : lastOf D.ops q with
  | none => exact ⟨pgO_len hn hq, pgO_byts hok.bts q⟩
  | some i =>
    have := hop _ (getD_memW D.ops i (lastOf_lt h))
    exact ⟨this.2.1, this.2.2⟩
theorem Read_same (w : World) (base : Nat) (F : List Nat) (p : Nat) (D : DS) (h : DA w base F p D) (hpw : D.power = true) (q : Nat) (hq : q < D.np) (hr : D.reads < 4000000000000000000) (z : Int) (hz : z = (q : Int)) :
    Calls Try.prog 54 #[.pointer (some ⟨p, 0, none⟩), .int .i64 z] w fun e w' => ∃ g c, e = .returned (.tuple #[.slice (some ⟨g, 0, none⟩) 256 c, .int .i64 0]) ∧ Own w' w.heap.size (.slice (some ⟨g, 0, none⟩) 256 c) (D.readOf q) ∧ Src w' (some ⟨g, 0, none⟩) c (D.readOf q) ∧ w.heap.size ≤ g ∧ DA w' base F p { D with reads := D.reads + 1 } ∧ Fr F w w' := by
  obtain ⟨P, rfl, rfl, hk, hok⟩ := h
  subst hz
  refine (Read_in w base P D hk hok hpw q hq hr).mono ?_
  rintro e w' ⟨v, rfl, h1, h2, h3⟩
  obtain ⟨hl, h8⟩ := readOf_fine hok q hq
  obtain ⟨g, c, rest, rfl, q1, q2, q3, q4, q5⟩ := own_in h1 (by omega)
  have hS : Src w' (some ⟨g, 0, none⟩) c (D.readOf q) := In.src (rest := rest) q2 c q3 q4
  rw [hl] at h1 ⊢
  exact ⟨g, c, rfl, h1, hS, q1, ⟨P, rfl, rfl, h2, ⟨hok.n, hok.bts, hok.ops, by show 0 ≤ D.reads + 1 ∧ D.reads + 1 ≤ _; have := hok.reads; omega, hok.writes, hok.syncs, hok.epoch, hok.armed⟩⟩, h3⟩
theorem Src.other {w w1 : World} {F : List Nat} {g c : Nat} {zs : List Int} (h : Src w (some ⟨g, 0, none⟩) c zs) (hf : Fr F w w1) (hg : g ∉ F) (hl : 0 < zs.length) : Src w1 (some ⟨g, 0, none⟩) c zs := by
  obtain ⟨h1, h2, b, o, h3, h4, h5⟩ := h
  have e := h4 hl
  simp only [Option.some.injEq, Addr.mk.injEq] at e
  obtain ⟨rfl, rfl, _⟩ := e
  refine ⟨h1, h2, g, 0, fun _ => Nat.lt_of_lt_of_le (h3 hl) hf.size, fun _ => rfl, fun j hj => ?_⟩
  rw [← h5 j hj]
  unfold World.cell?
  simp only
  rw [hf.block g (h3 hl) hg]
set_option maxHeartbeats 400000 in
theorem laying_any (w : World) (p : Nat) (s : Sup) :
    Calls Try.prog 37 #[.pointer (some ⟨p, 0, none⟩), .agg (supC s)] w fun e w' => ∃ a b, e = .returned (.func (.func 56) #[] #[.pointer (some ⟨b, 0, none⟩), .pointer (some ⟨a, 0, none⟩)]) ∧ w'.heap[a]? = some (.cells #[.pointer (some ⟨p, 0, none⟩)] 23 (0, 0)) ∧ w'.heap[b]? = some (.cells (supC s) 56 (0, 0)) ∧ w.heap.size ≤ a ∧ w.heap.size ≤ b ∧ Below w.heap.size w w' := by
  have hmf : ∀ (fn : Fn) (first cap : Array Value) (w : World), (Instr.makeFunc fn first cap).run Try.prog w = .ok (.func fn first cap) w := fun _ _ _ _ => rfl
  go_enter Try.func37, Try.ntmps37
  go_wp2
  go_ret
  refine ⟨w.heap.size, w.heap.size + 1, rfl, ?_, ?_, Nat.le_refl _, by omega, ?_⟩
  · exact ((below_new (w.alloc (.cells #[.pointer (some ⟨p, 0, none⟩)] 23)) _).block _ (by simp)).trans (hnew w _)
  · have := hnew (w.alloc (.cells #[.pointer (some ⟨p, 0, none⟩)] 23)) (.cells (supC s) 56)
    simpa using this
  · exact (below_new w _).trans ((below_new _ _).mono (by simp))
theorem cell_sup1 {w : World} {b : Nat} {s : Sup} {t : TypeId} (h : w.heap[b]? = some (.cells (supC s) t (0, 0))) : w.cell? ⟨b, 1, none⟩ = some (.int .i64 s.ge) := by simp [World.cell?, h, supC]
set_option maxHeartbeats 400000 in
theorem laying1_any (w : World) (base : Nat) (F : List Nat) (p : Nat) (D : DS) (h : DA w base F p D) (hbw : base ≤ w.heap.size) (hpw : D.power = true) (s : Sup) (hv : validS s = true) (hops : D.ops.length < 400000000000) (hwr : D.writes < 4000000000000000000) (a b : Nat) (ha : w.heap[a]? = some (.cells #[.pointer (some ⟨p, 0, none⟩)] 23 (0, 0))) (hb : w.heap[b]? = some (.cells (supC s) 56 (0, 0))) (q : Nat) (hq : s.ge % 2 = (q : Int)) :
    Calls Try.prog 56 #[.pointer (some ⟨b, 0, none⟩), .pointer (some ⟨a, 0, none⟩)] w fun e w' => e = .returned (.int .i64 D.actE) ∧ Nx base F p w (D.wr ⟨q, secP s⟩) w' := by
  have hvv := (validS_iff s).1 hv
  have hq2 : q < 2 := by omega
  have hnp := h.ok.np
  have hP := hid (packSuper_ok w s hv)
  have hm : s.ge.tmod 2 = (q : Int) := by rw [Int.tmod_eq_emod_of_nonneg (by omega)]; exact hq
  have i2 : 0 ≤ s.ge ∧ s.ge ≤ 1099511627776 := ⟨hvv.2.2.1, hvv.2.2.2.1⟩
  have ra := hid ha
  have rb := hid hb
  have HW := hid (fun (w1 : World) (g : Nat) (hB : Below w.heap.size w w1) (hr : w1.heap[g]? = some (.cells (ints .u8 (secS s ++ List.replicate 192 0)).toArray 5 (0, 0))) => Write_any w1 base F p D (h.below hB) (Nat.le_trans hbw hB.size) hpw q (by omega) (secP s) (secP_len s) (secP_byts hv) (some ⟨g, 0, none⟩) 256 (src_row (tl := []) (by rw [List.append_nil]; exact hr) 256 (by rw [secP_len]; omega) (by simp [maxLen])) hops hwr)
  clear hvv hv hnp hops hwr h hpw hbw
  go_enter Try.func56, Try.ntmps56
  go_wp2_with (first
    | (refine wpList_load_row_w rfl 56 (.tmp 0) rfl b rfl 56 (supC s) (0, 0) _ rb.out Try.underlying56 rfl (supN s) ?_)
    | (go_at_call 57; refine hP.out.mono ?_; rintro e w1 ⟨g, rfl, hg, hr, hB⟩; have ca := cell_of_one ((hB.block a (hlt_ ra.out)).trans ra.out); have cb := cell_sup1 ((hB.block b (hlt_ rb.out)).trans rb.out))
    | (go_at_call 58; refine (HW.out w1 g hB hr).mono ?_; rintro e w2 ⟨rfl, hN⟩))
  go_ret
  exact ⟨rfl, hN.pre hB⟩
theorem Fr.setRowN {F : List Nat} {a b : World} (h : Fr F a b) {g : Nat} (hg : a.heap.size ≤ g) (cs : Array Value) : Fr F a (b.setRow g cs) :=
  ⟨h.os, h.tape, h.output, by rw [size_setRow]; exact h.size, fun k hk hn => (setRow_other _ _ _ _ (by omega)).trans (h.block k hk hn)⟩
theorem DA.of_heap {w w1 : World} {base : Nat} {F : List Nat} {p : Nat} {D : DS} (h : DA w base F p D) (hk : ∀ k ∈ F, w1.heap[k]? = w.heap[k]?) : DA w1 base F p D := by
  obtain ⟨P, rfl, rfl, hd, hok⟩ := h
  exact ⟨P, rfl, rfl, hd.of_heap hk, hok⟩
theorem DA.setRowN {w : World} {base : Nat} {F : List Nat} {p : Nat} {D : DS} (h : DA w base F p D) {g : Nat} (hg : g ∉ F) (cs : Array Value) : DA (w.setRow g cs) base F p D :=
  h.of_heap fun k hk => setRow_other _ _ _ _ (fun e => hg (e ▸ hk))
set_option maxHeartbeats 400000 in
theorem fchoose_any (w : World) (base : Nat) (F : List Nat) (p : Nat) (D : DS) (h : DA w base F p D) (hpw : D.power = true) (hr : D.reads < 3999999999999999999) :
    Calls Try.prog 34 #[.pointer (some ⟨p, 0, none⟩)] w fun e w' => e = .returned (.tuple #[.agg (supC (chooseF (D.readOf 0) (D.readOf 1)).1), .int .i64 (chooseF (D.readOf 0) (D.readOf 1)).2]) ∧ DA w' base F p { D with reads := D.reads + 2 } ∧ Fr F w w' := by
  have hnp := h.ok.np
  have r0 := hnew w (.cells (supC sup0) 56)
  have b0 := below_new w (.cells (supC sup0) 56)
  have h0 := h.below b0
  have f0 := readOf_fine h.ok 0 (by omega)
  have f1 := readOf_fine h.ok 1 (by omega)
  have HR0 := hid (Read_same (w.alloc (.cells (supC sup0) 56)) base F p D h0 hpw 0 (by omega) (by omega) 0 rfl)
  have HR1 := hid (fun (w1 : World) (hD : DA w1 base F p { D with reads := D.reads + 1 }) => Read_same w1 base F p { D with reads := D.reads + 1 } hD hpw 1 (by show 1 < D.np; omega) (by show D.reads + 1 < _; omega) 1 rfl)
  have HLT := hid h.lt
  have HF0 := hid f0
  have HF1 := hid f1
  have R0 := hid r0
  have B0 := hid b0
  clear h h0 hnp f0 f1 r0 b0
  go_enter Try.func34, Try.ntmps34
  go_wp2_with fail
  rw [zero_super]
  refine HR0.out.mono ?_
  rintro e w1 ⟨g, c, rfl, hO1, hS1, hg1, hD1, hF1⟩
  have HS1 := hid hS1
  have HD1 := hid hD1
  have HFF1 := hid hF1
  clear hO1 hS1 hD1 hF1 HR0
  go_wp2_with fail
  refine (HR1.out w1 HD1.out).mono ?_
  rintro e w2 ⟨g2, c2, rfl, hO2, hS2, hg2, hD2, hF2⟩
  have HS2 := hid hS2
  have HD2 := hid hD2
  have HFF2 := hid hF2
  clear hO2 hS2 hD2 hF2 HR1
  go_wp2_with fail
  have hgF : g ∉ F := fun e => by have := (HLT.out g e).2; have := B0.out.size; omega
  have hC := choose_any w2 (D.readOf 0) (D.readOf 1) HF0.out.2 HF1.out.2 (some ⟨g, 0, none⟩) (some ⟨g2, 0, none⟩) c c2 (HS1.out.other HFF2.out hgF (by rw [HF0.out.1]; omega)) HS2.out
  rw [HF0.out.1, HF1.out.1] at hC
  refine hC.mono ?_
  rintro e w3 ⟨rfl, hB3⟩
  have hNF : w.heap.size ∉ F := fun e => by have := (HLT.out _ e).2; omega
  have r3 : w3.heap[w.heap.size]? = some (.cells (supC sup0) 56 (0, 0)) := by
    have q := HFF2.out.keep (HFF1.out.keep R0.out hNF) hNF
    exact (hB3.block _ (hlt_ q)).trans q
  have F3 : Fr F w w3 := (((Fr.of_below (F := F) B0.out).trans HFF1.out (Gr.refl _ _)).trans HFF2.out (Gr.refl _ _)).trans (Fr.of_below hB3) (Gr.refl _ _)
  have D3 := HD2.out.below hB3
  have HF3 := hid F3
  have HD3 := hid D3
  have R3 := hid r3
  clear hC hB3 F3 D3 r3 HFF2 HD2 HS2 HS1 HFF1 HD1 HF0 HF1 hgF R0 B0 HLT
  generalize hS1 : (chooseF (D.readOf 0) (D.readOf 1)).1 = S at *
  generalize hE1 : (chooseF (D.readOf 0) (D.readOf 1)).2 = E at *
  go_wp2_with (first | (refine wpList_store_row (by rfl) 56 (.tmp 2) (.tmp 28) (by rfl) w.heap.size (supC S) (by rfl) (by rfl) 56 (supC sup0) (by exact R3.out) (supN _) (supS _ _) (supO _) ?_))
  exact bodyPost_ret (v := .tuple #[.agg (supC S), .int .i64 E]) (results_c2 Try.results34 _ _ w.heap.size 56 _ _ _ rfl (setRow_heap _ _ _ _ _ _ R3.out) Try.underlying56 rfl (by rw [size_super]; rfl)) rfl ⟨by rw [hS1, hE1], (by have := HD3.out.setRowN hNF (supC S); simpa [Int.add_assoc] using this), HF3.out.setRowN (Nat.le_refl _) _⟩
end Go.Proofs.Ytihkjfbhmlfonaa
namespace Go.Proofs.Ytihkjfbhmlfonaa
set_option linter.unusedVariables false
set_option linter.unusedSimpArgs false
open Go.RowKit
attribute [local go_sem ↓] Go.wp_at_zero Go.wp_at_succ

/-! Steps of a Format and of a Publish. -/
inductive St where
  | sync
  | lay (s : Sup) (a b : Nat)
def St.fn : St → Nat
  | .sync => 38
  | .lay _ _ _ => 56
def St.first (p : Nat) : St → Array Value
  | .sync => #[.pointer (some ⟨p, 0, none⟩)]
  | .lay _ _ _ => #[]
def St.cap : St → Array Value
  | .sync => #[]
  | .lay _ a b => #[.pointer (some ⟨b, 0, none⟩), .pointer (some ⟨a, 0, none⟩)]
def St.there (w : World) (p : Nat) : St → Prop
  | .sync => True
  | .lay s a b => validS s = true ∧ w.heap[a]? = some (.cells #[.pointer (some ⟨p, 0, none⟩)] 23 (0, 0)) ∧ w.heap[b]? = some (.cells (supC s) 56 (0, 0))
/-- A sync. -/
def sy (D : DS) : DS × Int := if D.armed = 1 then (D.acted, 2) else (D.synced, 0)
def St.go : St → DS → DS × Int
  | .sync, D => sy D
  | .lay s _ _, D => (D.wr ⟨(s.ge % 2).toNat, secP s⟩, D.actE)
def runS (D : DS) : List St → DS × Int
  | [] => (D, 0)
  | x :: r => if (x.go D).2 = 0 then runS (x.go D).1 r else x.go D
/-- Room for so many more. -/
structure Bud (D : DS) (k : Nat) : Prop where
  pw : D.power = true
  ops : D.ops.length + k < 400000000000
  writes : D.writes + k < 4000000000000000000
  syncs : D.syncs + k < 4000000000000000000
theorem Bud.less {D : DS} {k m : Nat} (h : Bud D k) (hm : m ≤ k) : Bud D m := ⟨h.pw, by have := h.ops; omega, by have := h.writes; omega, by have := h.syncs; omega⟩
theorem acted_pw {D : DS} (h : D.armed ≠ 1) : D.acted.power = D.power := by
  unfold DS.acted; split
  · rfl
  · first | rfl | (rw [if_neg h])
theorem St.bud {D : DS} {k : Nat} (h : Bud D (k + 1)) (x : St) (h0 : (x.go D).2 = 0) : Bud (x.go D).1 k := by
  obtain ⟨h1, h2, h3, h4⟩ := h
  cases x with
  | sync =>
    show Bud (sy D).1 k
    change (sy D).2 = 0 at h0
    unfold sy at h0 ⊢
    by_cases c : D.armed = 1
    · rw [if_pos c] at h0; exact absurd (show (2 : Int) = 0 from h0) (by decide)
    · rw [if_neg c]
      obtain ⟨e1, e2, e3, e4, e5, e6⟩ := acted_same D
      exact ⟨(acted_pw c).trans h1, by show ([] : List OW).length + k < _; simp; omega, by show D.acted.writes + k < _; rw [e5]; omega, by show D.syncs + 1 + k < _; omega⟩
  | lay s a b =>
    change D.actE = 0 at h0
    have c : D.armed ≠ 1 := by intro c; unfold DS.actE at h0; rw [if_pos c] at h0; exact absurd h0 (by decide)
    have e := acted_same { D.pushed ⟨(s.ge % 2).toNat, secP s⟩ with writes := D.writes + 1 }
    obtain ⟨e1, e2, e3, e4, e5, e6⟩ := e
    show Bud (D.wr ⟨(s.ge % 2).toNat, secP s⟩) k
    refine ⟨?_, ?_, ?_, ?_⟩
    · unfold DS.wr; rw [acted_pw (by exact c)]; exact h1
    · unfold DS.wr; rw [e2]; simp [DS.pushed]; omega
    · unfold DS.wr; rw [e5]; show D.writes + 1 + k < _; omega
    · unfold DS.wr; rw [e6]; show D.syncs + k < _; omega
theorem St.call {w : World} {base : Nat} {F : List Nat} {p : Nat} {D : DS} (h : DA w base F p D) (hbw : base ≤ w.heap.size) {k : Nat} (hb : Bud D (k + 1)) (x : St) (ht : x.there w p) :
    Calls Try.prog x.fn (x.first p ++ x.cap) w fun e w' => e = .returned (.int .i64 (x.go D).2) ∧ Nx base F p w (x.go D).1 w' := by
  obtain ⟨h1, h2, h3, h4⟩ := hb
  cases x with
  | sync =>
    show Calls Try.prog 38 #[.pointer (some ⟨p, 0, none⟩)] w fun e w' => e = .returned (.int .i64 (sy D).2) ∧ Nx base F p w (sy D).1 w'
    unfold sy
    by_cases c : D.armed = 1
    · rw [if_pos c]; exact Sync_last w base F p D h h1 c
    · rw [if_neg c]; exact Sync_any w base F p D h h1 c (by omega)
  | lay s a b =>
    obtain ⟨hv, ha, hb⟩ := ht
    have hvv := (validS_iff s).1 hv
    exact laying1_any w base F p D h hbw h1 s hv (by omega) (by omega) a b ha hb (s.ge % 2).toNat (by omega)
theorem St.keep {w w1 : World} {F : List Nat} {p base : Nat} {D : DS} (h : DA w base F p D) (hf : Fr F w w1) (x : St) (ht : x.there w p) : x.there w1 p := by
  cases x with
  | sync => trivial
  | lay s a b =>
    obtain ⟨hv, ha, hb⟩ := ht
    exact ⟨hv, hf.keep ha (h.not_in ha (by decide) (by decide) (by decide)), hf.keep hb (h.not_in hb (by decide) (by decide) (by decide))⟩
/-- Ahead of step k. -/
def TI (w w' : World) (base : Nat) (F : List Nat) (p : Nat) (D0 : DS) (all : List St) (k : Nat) : Prop :=
  ∃ D F', DA w' base F' p D ∧ Fr F w w' ∧ Gr w F F' ∧ runS D (all.drop k) = runS D0 all ∧ Bud D (all.length - k)
theorem TI.start {w : World} {base : Nat} {F : List Nat} {p : Nat} {D0 : DS} (h : DA w base F p D0) (all : List St) (hb : Bud D0 all.length) : TI w w base F p D0 all 0 :=
  ⟨D0, F, h, Fr.refl _ _, Gr.refl _ _, rfl, hb⟩
theorem TI.step {w w' : World} {base : Nat} {F : List Nat} {p : Nat} {D0 : DS} (h0 : DA w base F p D0) (hbw : base ≤ w.heap.size) {all : List St} {k : Nat} (h : TI w w' base F p D0 all k) (hk : k < all.length) (ht : ∀ x ∈ all, x.there w p) :
    Calls Try.prog (all.getD k .sync).fn ((all.getD k .sync).first p ++ (all.getD k .sync).cap) w' fun e w2 => ∃ x, e = .returned (.int .i64 x) ∧ (x = 0 → TI w w2 base F p D0 all (k + 1)) ∧ (x ≠ 0 → x = (runS D0 all).2 ∧ Nx base F p w (runS D0 all).1 w2) := by
  obtain ⟨D, F', hD, hF, hG, hr, hb⟩ := h
  have e : all.getD k .sync = all[k] := by rw [List.getD_eq_getElem?_getD, List.getElem?_eq_getElem hk]; rfl
  rw [e]
  have hd : all.drop k = all[k] :: all.drop (k + 1) := List.drop_eq_getElem_cons hk
  rw [hd] at hr
  have hth := St.keep h0 hF _ (ht all[k] (List.getElem_mem hk))
  have hb1 : Bud D (all.length - (k + 1) + 1) := by rw [show all.length - (k + 1) + 1 = all.length - k by omega]; exact hb
  refine (St.call hD (Nat.le_trans hbw hF.size) hb1 _ hth).mono ?_
  rintro e w2 ⟨rfl, F2, q1, q2, q3⟩
  refine ⟨_, rfl, fun hx => ?_, fun hx => ?_⟩
  · refine ⟨_, F2, q1, hF.trans q2 hG, hG.trans q3 hF.size, ?_, St.bud hb1 _ hx⟩
    rw [← hr, runS, if_pos hx]
  · rw [runS, if_neg hx] at hr
    rw [← hr]
    exact ⟨rfl, F2, q1, hF.trans q2 hG, hG.trans q3 hF.size⟩
theorem TI.done {w w' : World} {base : Nat} {F : List Nat} {p : Nat} {D0 : DS} {all : List St} (h : TI w w' base F p D0 all all.length) : (runS D0 all).2 = 0 ∧ Nx base F p w (runS D0 all).1 w' := by
  obtain ⟨D, F', hD, hF, hG, hr, hb⟩ := h
  rw [List.drop_length] at hr
  rw [← hr]
  exact ⟨rfl, F', hD, hF, hG⟩
theorem ent_sync : ∀ (args : Array Value) (w : World), (callFunc 38 args).run Try.prog w = .ok (.enter 38 args) w := enters_of Try.func38 (by kernel_rfl) rfl
theorem ent_lay : ∀ (args : Array Value) (w : World), (callFunc 56 args).run Try.prog w = .ok (.enter 56 args) w := enters_of Try.func56 (by kernel_rfl) rfl
theorem St.ent (x : St) : ∀ (args : Array Value) (w : World), (callFunc x.fn args).run Try.prog w = .ok (.enter x.fn args) w := by
  cases x with
  | sync => exact ent_sync
  | lay _ _ _ => exact ent_lay
def St.val (p : Nat) (x : St) : Value := .func (.func x.fn) (x.first p) x.cap
theorem turn_any (w : World) (base : Nat) (F : List Nat) (p : Nat) (D0 : DS) (h : DA w base F p D0) (hbw : base ≤ w.heap.size) (all : List St) (hn : all.length ≤ 100) (hb : Bud D0 all.length) (ht : ∀ x ∈ all, x.there w p) (g : Nat) (hg : w.heap[g]? = some (.cells (all.map (St.val p)).toArray 93 (0, 0))) :
    Calls Try.prog 36 #[.slice (some ⟨g, 0, none⟩) all.length all.length] w fun e w2 => e = .returned (.int .i64 (runS D0 all).2) ∧ Nx base F p w (runS D0 all).1 w2 := by
  refine (inTurn_any w g all.length hn (fun k => (all.getD k .sync).fn) (fun k => (all.getD k .sync).first p) (fun k => (all.getD k .sync).cap) (fun k w' => TI w w' base F p D0 all k) (fun x w' => x = (runS D0 all).2 ∧ Nx base F p w (runS D0 all).1 w') (fun k _ => St.ent _) (TI.start h all hb) ?_ ?_).mono ?_
  · intro k w1 hk hI
    obtain ⟨D, F', hD, hF, hG, _⟩ := hI
    have hg1 := hF.keep hg (h.not_in hg (by decide) (by decide) (by decide))
    rw [cell_of_row _ _ _ _ _ _ hg1, List.getElem?_toArray, List.getElem?_map, List.getElem?_eq_getElem hk, List.getD_eq_getElem?_getD, List.getElem?_eq_getElem hk]
    rfl
  · intro k w1 hk hI
    exact TI.step h hbw hI hk ht
  · rintro e w2 ⟨x, rfl, h1, h2⟩
    by_cases hx : x = 0
    · obtain ⟨q1, q2⟩ := (h1 hx).done
      rw [q1, hx]; exact ⟨rfl, q2⟩
    · obtain ⟨q1, q2⟩ := h2 hx
      rw [q1]; exact ⟨rfl, q2⟩
end Go.Proofs.Ytihkjfbhmlfonaa
