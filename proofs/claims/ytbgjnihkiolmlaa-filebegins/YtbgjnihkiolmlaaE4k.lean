import Derived.Test.YtbgjnihkiolmlaaE4j
namespace Go.Proofs.Ytbgjnihkiolmlaa
set_option linter.unusedVariables false
set_option linter.unusedSimpArgs false
open Go.RowKit
attribute [local go_sem ↓] Go.wp_at_zero Go.wp_at_succ

/-! Each call of a disk, with its footprint. -/
theorem Nx.of_same {w w' : World} {base : Nat} {P : DP} {D : DS} (h : DK w' base P D) (hok : DsOk D) (hF : Fr P.fp w w') : Nx base P.fp P.p w D w' := ⟨P.fp, ⟨P, rfl, rfl, h, hok⟩, hF, Gr.refl _ _⟩
theorem Nx.of_drop {w w' : World} {base : Nat} {P : DP} {D : DS} {M : DataW Unit} (h : DK w' base { P with ov := .slice none 0 0, M := M } D) (hok : DsOk D) (hF : Fr P.fp w w') : Nx base P.fp P.p w D w' := by
  refine ⟨_, ⟨{ P with ov := .slice none 0 0, M := M }, rfl, rfl, h, hok⟩, hF, fun k hk => Or.inl ?_⟩
  rcases (DP.mem _ k).1 hk with e | e | e | e
  · exact (P.mem k).2 (Or.inl e)
  · exact (P.mem k).2 (Or.inr (Or.inl e))
  · exact (P.mem k).2 (Or.inr (Or.inr (Or.inl e)))
  · simp [Value.ownBlock] at e
theorem Pages_any (w : World) (base : Nat) (F : List Nat) (p : Nat) (D : DS) (h : DA w base F p D) :
    Calls Try.prog 22 #[.pointer (some ⟨p, 0, none⟩)] w fun e w' => e = .returned (.int .i64 D.np) ∧ w = w' := by
  obtain ⟨P, rfl, rfl, hk, hok⟩ := h
  exact Pages_in w base P D hk D.np hok.np.2.2.1 hok.np.2.1
theorem Power_any (w : World) (base : Nat) (F : List Nat) (p : Nat) (D : DS) (h : DA w base F p D) :
    Calls Try.prog 37 #[.pointer (some ⟨p, 0, none⟩)] w fun e w' => e = .returned (.bool D.power) ∧ w = w' := by
  obtain ⟨P, rfl, rfl, hk, hok⟩ := h
  exact Power_in w base P D hk
theorem Epoch_any (w : World) (base : Nat) (F : List Nat) (p : Nat) (D : DS) (h : DA w base F p D) :
    Calls Try.prog 15 #[.pointer (some ⟨p, 0, none⟩)] w fun e w' => e = .returned (.int .i64 D.epoch) ∧ w = w' := by
  obtain ⟨P, rfl, rfl, hk, hok⟩ := h
  exact Epoch_in w base P D hk
theorem Counts_any (w : World) (base : Nat) (F : List Nat) (p : Nat) (D : DS) (h : DA w base F p D) :
    Calls Try.prog 21 #[.pointer (some ⟨p, 0, none⟩)] w fun e w' => e = .returned (.agg #[.int .i64 D.reads, .int .i64 D.writes, .int .i64 D.syncs, .int .i64 D.ops.length]) ∧ Below w.heap.size w w' := by
  obtain ⟨P, rfl, rfl, hk, hok⟩ := h
  exact Counts_in w base P D hk
theorem Image_any (w : World) (base : Nat) (F : List Nat) (p : Nat) (D : DS) (h : DA w base F p D) :
    Calls Try.prog 31 #[.pointer (some ⟨p, 0, none⟩)] w fun e w' => ∃ v, e = .returned v ∧ Own w' w.heap.size v D.img ∧ Below w.heap.size w w' := by
  obtain ⟨P, rfl, rfl, hk, hok⟩ := h
  exact Image_in w base P D hk (by have := hok.np; omega)
theorem arm_ok {D : DS} (h : DsOk D) (n : Int) (hn : n ≤ 9223372036854775807) : DsOk (D.arm n) := by
  unfold DS.arm
  split
  · exact ⟨h.n, h.bts, h.ops, h.reads, h.writes, h.syncs, h.epoch, by show 0 ≤ max n 0 ∧ max n 0 ≤ _; omega⟩
  · exact h
theorem Arm_any (w : World) (base : Nat) (F : List Nat) (p : Nat) (D : DS) (h : DA w base F p D) (n : Int) (hn : n ≤ 9223372036854775807) :
    Calls Try.prog 12 #[.pointer (some ⟨p, 0, none⟩), .int .i64 n] w fun e w' => e = .returned (.tuple #[]) ∧ Nx base F p w (D.arm n) w' := by
  obtain ⟨P, rfl, rfl, hk, hok⟩ := h
  refine (Arm_in w base P D hk n).mono ?_
  rintro e w' ⟨rfl, h1, h2⟩
  exact ⟨rfl, Nx.of_same h1 (arm_ok hok n hn) h2⟩
theorem Read_any (w : World) (base : Nat) (F : List Nat) (p : Nat) (D : DS) (h : DA w base F p D) (hpw : D.power = true) (q : Nat) (hq : q < D.np) (hr : D.reads < 4000000000000000000) :
    Calls Try.prog 46 #[.pointer (some ⟨p, 0, none⟩), .int .i64 q] w fun e w' => ∃ v, e = .returned (.tuple #[v, .int .i64 0]) ∧ Own w' w.heap.size v (D.readOf q) ∧ Nx base F p w { D with reads := D.reads + 1 } w' := by
  obtain ⟨P, rfl, rfl, hk, hok⟩ := h
  refine (Read_in w base P D hk hok hpw q hq hr).mono ?_
  rintro e w' ⟨v, rfl, h1, h2, h3⟩
  exact ⟨v, rfl, h1, Nx.of_same h2 ⟨hok.n, hok.bts, hok.ops, by show 0 ≤ D.reads + 1 ∧ D.reads + 1 ≤ _; have := hok.reads; omega, hok.writes, hok.syncs, hok.epoch, hok.armed⟩ h3⟩
theorem Read_off (w : World) (base : Nat) (F : List Nat) (p : Nat) (D : DS) (h : DA w base F p D) (hpw : D.power = false) (q : Int) :
    Calls Try.prog 46 #[.pointer (some ⟨p, 0, none⟩), .int .i64 q] w fun e w' => e = .returned (.tuple #[.slice none 0 0, .int .i64 2]) ∧ w = w' := by
  obtain ⟨P, rfl, rfl, hk, hok⟩ := h
  exact Read_down w base P D hk hpw q
/-- A disk behind a sync that closed. -/
def DS.synced (D : DS) : DS := { D.acted with img := layTo D.img D.ops D.ops.length, ops := [], syncs := D.syncs + 1 }
theorem synced_ok {D : DS} (hok : DsOk D) (hsy : D.syncs < 4000000000000000000) : DsOk D.synced := by
  obtain ⟨h3, h4, hn, hop⟩ := hok.np
  have hA := acted_ok hok
  exact ⟨⟨D.np, h3, h4, layTo_len hn hop _ (Nat.le_refl _), fun o ho => by cases ho⟩, layTo_bts hok.bts hop _ (Nat.le_refl _), by simp [DS.synced], hA.reads, hA.writes, by show 0 ≤ D.syncs + 1 ∧ D.syncs + 1 ≤ _; have := hok.syncs; omega, hA.epoch, hA.armed⟩
theorem Sync_any (w : World) (base : Nat) (F : List Nat) (p : Nat) (D : DS) (h : DA w base F p D) (hpw : D.power = true) (hac : D.armed ≠ 1) (hsy : D.syncs < 4000000000000000000) :
    Calls Try.prog 41 #[.pointer (some ⟨p, 0, none⟩)] w fun e w' => e = .returned (.int .i64 0) ∧ Nx base F p w D.synced w' := by
  obtain ⟨P, rfl, rfl, hk, hok⟩ := h
  refine (Sync_loop w base P D hk hok hpw hac hsy).mono ?_
  rintro e w' ⟨rfl, h1, h2⟩
  exact ⟨rfl, Nx.of_drop h1 (synced_ok hok hsy) h2⟩
theorem Sync_last (w : World) (base : Nat) (F : List Nat) (p : Nat) (D : DS) (h : DA w base F p D) (hpw : D.power = true) (hac : D.armed = 1) :
    Calls Try.prog 41 #[.pointer (some ⟨p, 0, none⟩)] w fun e w' => e = .returned (.int .i64 2) ∧ Nx base F p w D.acted w' := by
  obtain ⟨P, rfl, rfl, hk, hok⟩ := h
  refine (Sync_goes w base P D hk hok hpw hac).mono ?_
  rintro e w' ⟨rfl, h1, h2⟩
  exact ⟨rfl, Nx.of_same h1 (acted_ok hok) h2⟩
theorem Sync_off (w : World) (base : Nat) (F : List Nat) (p : Nat) (D : DS) (h : DA w base F p D) (hpw : D.power = false) :
    Calls Try.prog 41 #[.pointer (some ⟨p, 0, none⟩)] w fun e w' => e = .returned (.int .i64 2) ∧ w = w' := by
  obtain ⟨P, rfl, rfl, hk, hok⟩ := h
  exact Sync_down w base P D hk hpw
theorem Write_off (w : World) (base : Nat) (F : List Nat) (p : Nat) (D : DS) (h : DA w base F p D) (hpw : D.power = false) (q : Int) (v : Value) :
    Calls Try.prog 49 #[.pointer (some ⟨p, 0, none⟩), .int .i64 q, v] w fun e w' => e = .returned (.int .i64 2) ∧ w = w' := by
  obtain ⟨P, rfl, rfl, hk, hok⟩ := h
  exact Write_down w base P D hk hpw q v
theorem Write_no (w : World) (base : Nat) (F : List Nat) (p : Nat) (D : DS) (h : DA w base F p D) (hpw : D.power = true) (q : Int) (hq : q < 0 ∨ (D.np : Int) ≤ q) (v : Value) :
    Calls Try.prog 49 #[.pointer (some ⟨p, 0, none⟩), .int .i64 q, v] w fun e w' => e = .returned (.int .i64 41) ∧ w = w' := by
  obtain ⟨P, rfl, rfl, hk, hok⟩ := h
  exact Write_page w base P D hk D.np hok.np.2.2.1 hok.np.2.1 hpw q hq v
theorem Write_few (w : World) (base : Nat) (F : List Nat) (p : Nat) (D : DS) (h : DA w base F p D) (hpw : D.power = true) (q : Int) (hq : 0 ≤ q ∧ q < (D.np : Int)) (sp : Option Addr) (l c : Nat) (hl : ((l : Int) != 256) = true) :
    Calls Try.prog 49 #[.pointer (some ⟨p, 0, none⟩), .int .i64 q, .slice sp l c] w fun e w' => e = .returned (.int .i64 42) ∧ w = w' := by
  obtain ⟨P, rfl, rfl, hk, hok⟩ := h
  exact Write_size w base P D hk D.np hok.np.2.2.1 hok.np.2.1 hpw q hq sp l c hl
theorem crashed_ok {D : DS} (hok : DsOk D) (hep : D.epoch < 4000000000000000000) (fs : List Int) : DsOk (D.crashed fs) := by
  obtain ⟨h3, h4, hn, hop⟩ := hok.np
  exact ⟨⟨D.np, h3, h4, crashTo_len fs hn hop _ (Nat.le_refl _), fun o ho => by cases ho⟩, crashTo_bts fs hok.bts hop _ (Nat.le_refl _), by simp [DS.crashed], hok.reads, hok.writes, hok.syncs, by show 0 ≤ D.epoch + 1 ∧ D.epoch + 1 ≤ _; have := hok.epoch; omega, by simp [DS.crashed]⟩
theorem Crash_any (w : World) (base : Nat) (F : List Nat) (p : Nat) (D : DS) (h : DA w base F p D) (hep : D.epoch < 4000000000000000000) (fs : List Int) (hfb : Bts fs) (sp : Option Addr) (fcap : Nat) (hS : Src w sp fcap fs) (hsb : ∀ a, 0 < fs.length → sp = some a → a.block ∉ F) :
    Calls Try.prog 14 #[.pointer (some ⟨p, 0, none⟩), .slice sp fs.length fcap] w fun e w' => e = .returned (.int .i64 D.ops.length) ∧ Nx base F p w (D.crashed fs) w' := by
  obtain ⟨P, rfl, rfl, hk, hok⟩ := h
  refine (Crash_in w base P D hk hok hep fs hfb sp fcap hS hsb).mono ?_
  rintro e w' ⟨rfl, h1, h2⟩
  exact ⟨rfl, Nx.of_drop h1 (crashed_ok hok hep fs) h2⟩
/-- A disk behind a flip. -/
def DS.flipped (D : DS) (q bit pat : Nat) : DS := { D with img := flipTo D.img q bit pat (min 32 (2048 - bit)) }
theorem flipped_ok {D : DS} (hok : DsOk D) (q bit pat : Nat) : DsOk (D.flipped q bit pat) := by
  obtain ⟨h3, h4, hn, hop⟩ := hok.np
  exact ⟨⟨D.np, h3, h4, (flipTo_len _ _ _ _ _).trans hn, hop⟩, flipTo_bts hok.bts _ _ _ _, hok.ops, hok.reads, hok.writes, hok.syncs, hok.epoch, hok.armed⟩
theorem Flip_any (w : World) (base : Nat) (F : List Nat) (p : Nat) (D : DS) (h : DA w base F p D) (q : Nat) (hq : q < D.np) (bit : Nat) (hb : bit < 2048) (pat : Nat) (hp : pat < 4294967296) :
    Calls Try.prog 28 #[.pointer (some ⟨p, 0, none⟩), .int .i64 q, .int .i64 bit, .int .u32 pat] w fun e w' => e = .returned (.int .i64 0) ∧ Nx base F p w (D.flipped q bit pat) w' := by
  obtain ⟨P, rfl, rfl, hk, hok⟩ := h
  by_cases hl : bit ≤ 2016
  · refine (Flip_a w base P D hk D.np hok.np.2.2.1 hok.np.2.1 q hq bit hb pat hp hl).mono ?_
    rintro e w' ⟨rfl, h1, h2⟩
    exact ⟨rfl, Nx.of_same h1 (flipped_ok hok _ _ _) h2⟩
  · refine (Flip_b w base P D hk D.np hok.np.2.2.1 hok.np.2.1 q hq bit hb pat hp (by omega)).mono ?_
    rintro e w' ⟨rfl, h1, h2⟩
    exact ⟨rfl, Nx.of_same h1 (flipped_ok hok _ _ _) h2⟩
theorem Flip_no (w : World) (base : Nat) (F : List Nat) (p : Nat) (D : DS) (h : DA w base F p D) (q : Int) (hq : q < 0 ∨ (D.np : Int) ≤ q) (bit : Int) (v : Value) :
    Calls Try.prog 28 #[.pointer (some ⟨p, 0, none⟩), .int .i64 q, .int .i64 bit, v] w fun e w' => e = .returned (.int .i64 41) ∧ w = w' := by
  obtain ⟨P, rfl, rfl, hk, hok⟩ := h
  exact Flip_page w base P D hk D.np hok.np.2.2.1 hok.np.2.1 q hq bit v
theorem Flip_out (w : World) (base : Nat) (F : List Nat) (p : Nat) (D : DS) (h : DA w base F p D) (q : Int) (hq : 0 ≤ q ∧ q < (D.np : Int)) (bit : Int) (hb : bit < 0 ∨ 2048 ≤ bit) (v : Value) :
    Calls Try.prog 28 #[.pointer (some ⟨p, 0, none⟩), .int .i64 q, .int .i64 bit, v] w fun e w' => e = .returned (.int .i64 1) ∧ w = w' := by
  obtain ⟨P, rfl, rfl, hk, hok⟩ := h
  exact Flip_arg w base P D hk D.np hok.np.2.2.1 hok.np.2.1 q hq bit hb v
theorem own_in {w : World} {base : Nat} {v : Value} {zs : List Int} (h : Own w base v zs) (hz : 0 < zs.length) : ∃ g cap rest, v = .slice (some ⟨g, 0, none⟩) zs.length cap ∧ base ≤ g ∧ w.heap[g]? = some (.cells (ints .u8 zs ++ rest).toArray 5 (0, 0)) ∧ zs.length ≤ cap ∧ cap ≤ maxLen ∧ v.ownBlock = some g := by
  rcases h.2 with ⟨_, h0⟩ | ⟨g, cap, cur, rfl, hg, hh, hc, hm, hs, ht⟩
  · omega
  · refine ⟨g, cap, cur.toList.drop zs.length, rfl, hg, ?_, hc, hm, rfl⟩
    rw [hh]
    congr 2
    rw [← ht, Nat.mul_one, List.take_append_drop]
set_option maxHeartbeats 400000 in
theorem Load_any (w : World) (img : List Int) (n : Nat) (h3 : 3 ≤ n) (h4 : n ≤ 4096) (hi : img.length = 256 * n) (hb : Bts img) (sp : Option Addr) (cap : Nat) (hS : Src w sp cap img) (hnil : sp = none → cap = 0) :
    Calls Try.prog 33 #[.slice sp img.length cap] w fun e w' => ∃ p F, e = .returned (.tuple #[.pointer (some ⟨p, 0, none⟩), .int .i64 0]) ∧ DA w' w.heap.size F p (newD img) ∧ Below w.heap.size w w' := by
  have HP := hid (possible_any w n)
  have HE := hid (show decide (3 ≤ (n : Int) ∧ (n : Int) ≤ 4096) = true from decide_eq_true ⟨by omega, by omega⟩)
  have HC := hid (Clone_any w img sp cap hS hnil (by omega))
  have hl : (img.length : Int) ≤ 1048576 := by omega
  have m1 : ((img.length : Int)).tmod 256 = 0 := by rw [hi, Int.natCast_mul]; exact Int.mul_tmod_right _ _
  have d1 : ((img.length : Int)).tdiv 256 = (n : Int) := by rw [hi, Int.natCast_mul]; exact Int.mul_tdiv_cancel_left _ (by decide)
  have HI := hid hi
  clear hi hS
  go_enter Try.func33, Try.ntmps33
  go_wp2_with (first
    | (go_at_call 35; refine HP.out.mono ?_; rintro e w0 ⟨rfl, rfl⟩; rw [HE.out])
    | (go_at_call 55; refine HC.out.mono ?_; rintro e w1 ⟨v, rfl, hO, hB1⟩; obtain ⟨g, c, rest, rfl, q1, q2, q3, q4, q5⟩ := own_in hO (by have := HI.out; omega))
    | (go_at_call 36; refine (holding_any w1 w.heap.size g c img rest q2 q3 q4 q1 hB1.size).mono ?_; rintro e w2 ⟨rfl, hK, hB2⟩))
  go_ret2
  exact ⟨_, _, rfl, ⟨_, rfl, rfl, hK, newD_ok h3 h4 HI.out hb⟩, hB1.trans (hB2.mono hB1.size)⟩
end Go.Proofs.Ytbgjnihkiolmlaa
