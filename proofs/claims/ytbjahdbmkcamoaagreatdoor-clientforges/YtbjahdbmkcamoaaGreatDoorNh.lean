import Derived.Test.YtbjahdbmkcamoaaGreatDoorNn
namespace Go.Proofs.YtbjahdbmkcamoaaGreatDoor
set_option linter.unusedVariables false
set_option linter.unusedSimpArgs false
open Go.RowKit
attribute [local go_sem ↓] Go.wp_at_zero Go.wp_at_succ

def cmpK : List Int → List Int → Int
  | [], [] => 0
  | [], _ :: _ => -1
  | _ :: _, [] => 1
  | a :: l, b :: m => if a < b then -1 else if b < a then 1 else cmpK l m
theorem cmpK_self : ∀ l, cmpK l l = 0
  | [] => rfl
  | a :: l => by simp [cmpK, cmpK_self l]
theorem cmpK_eq : ∀ {l m}, cmpK l m = 0 → l = m
  | [], [], _ => rfl
  | [], _ :: _, h => by simp [cmpK] at h
  | _ :: _, [], h => by simp [cmpK] at h
  | a :: l, b :: m, h => by
    simp only [cmpK] at h
    split at h
    · cases h
    · split at h
      · cases h
      · obtain rfl := cmpK_eq h
        rw [show a = b by omega]
theorem cmpK_neg : ∀ l m, cmpK m l = - cmpK l m
  | [], [] => rfl
  | [], _ :: _ => rfl
  | _ :: _, [] => rfl
  | a :: l, b :: m => by
    simp only [cmpK]
    by_cases h : a < b
    · rw [if_pos h, if_neg (by omega), if_pos h]; rfl
    · by_cases h2 : b < a
      · rw [if_pos h2, if_neg h, if_pos h2]
      · rw [if_neg h2, if_neg h, if_neg h, if_neg h2, cmpK_neg l m]
theorem cmpK_cases : ∀ l m, cmpK l m = -1 ∨ cmpK l m = 0 ∨ cmpK l m = 1
  | [], [] => by simp [cmpK]
  | [], _ :: _ => by simp [cmpK]
  | _ :: _, [] => by simp [cmpK]
  | a :: l, b :: m => by
    simp only [cmpK]
    have := cmpK_cases l m
    split
    · simp
    · split
      · simp
      · exact this
theorem cmpK_trans : ∀ {l m n}, cmpK l m = -1 → cmpK m n = -1 → cmpK l n = -1
  | [], [], _, h, _ => by simp [cmpK] at h
  | [], _ :: _, [], _, h => by simp [cmpK] at h
  | [], _ :: _, _ :: _, _, _ => rfl
  | _ :: _, [], _, h, _ => by simp [cmpK] at h
  | _ :: _, _ :: _, [], _, h => by simp [cmpK] at h
  | a :: l, b :: m, c :: n, h, k => by
    simp only [cmpK] at h k ⊢
    split at h
    · split at k
      · rw [if_pos (by omega)]
      · split at k
        · cases k
        · rw [if_pos (by omega)]
    · split at h
      · cases h
      · split at k
        · rw [if_pos (by omega)]
        · split at k
          · cases k
          · rw [if_neg (by omega), if_neg (by omega)]; exact cmpK_trans h k
theorem cmpK_at : ∀ (i : Nat) (z y : List Int), i < z.length → i < y.length → (∀ j, j < i → z.getD j 0 = y.getD j 0) → z.getD i 0 ≠ y.getD i 0 → cmpK z y = if z.getD i 0 < y.getD i 0 then -1 else 1
  | _, [], _, h, _, _, _ => by simp at h
  | _, _ :: _, [], _, h, _, _ => by simp at h
  | 0, a :: z, b :: y, _, _, _, h => by
    simp at h ⊢
    simp only [cmpK]
    by_cases h1 : a < b
    · simp [h1]
    · rw [if_neg h1, if_neg h1, if_pos (by omega)]
  | i + 1, a :: z, b :: y, h1, h2, h, hne => by
    have h0 := h 0 (by omega)
    simp at h0 h1 h2
    subst h0
    have := cmpK_at i z y h1 h2 (fun j hj => by have := h (j + 1) (by omega); simpa using this) (by simpa using hne)
    simp only [cmpK, Int.lt_irrefl, if_false, this]
    simp
set_option maxRecDepth 100000 in
set_option maxHeartbeats 400000 in
theorem r3Compare_any (w : World) (z y : List Int) (hz : Byts z) (hy : Byts y) (lz : z.length = 32) (ly : y.length = 32) :
    Calls Tryz.prog 22 #[.agg (ints .u8 z).toArray, .agg (ints .u8 y).toArray] w fun e w' => e = .returned (.int .i64 (cmpK z y)) ∧ Below w.heap.size w w' := by
  have c1 : ∀ j, j < 32 → ((w.alloc (.cells (ints .u8 z).toArray 24)).alloc (.cells (ints .u8 y).toArray 24)).cell? ⟨w.heap.size, j, none⟩ = some (.int .u8 (z.getD j 0)) := fun j hj => cell_ints (hold (hnew w _)) j (by omega)
  have c2 : ∀ j, j < 32 → ((w.alloc (.cells (ints .u8 z).toArray 24)).alloc (.cells (ints .u8 y).toArray 24)).cell? ⟨w.heap.size + 1, j, none⟩ = some (.int .u8 (y.getD j 0)) := fun j hj => cell_ints (hnew2 w _ _) j (by omega)
  have hB : Below w.heap.size w ((w.alloc (.cells (ints .u8 z).toArray 24)).alloc (.cells (ints .u8 y).toArray 24)) := ((Below.refl _ _).alloc (Nat.le_refl _) _).alloc (by simp) _
  have hs : ((w.alloc (.cells (ints .u8 z).toArray 24)).alloc (.cells (ints .u8 y).toArray 24)).heap.size = w.heap.size + 1 + 1 := by simp
  go_enter Tryz.func22, Tryz.ntmps22
  go_wp2
  generalize ((w.alloc (.cells (ints .u8 z).toArray 24)).alloc (.cells (ints .u8 y).toArray 24)) = w0 at *
  generalize (ints .u8 z).toArray = Z at *
  generalize (ints .u8 y).toArray = Y at *
  go_loopw [5] (fun i wr => ∃ j : Nat, j ≤ 32 ∧ i = .int .i64 j ∧ (∀ i, i < j → z.getD i 0 = y.getD i 0) ∧ Below w0.heap.size w0 wr) (fun i _ => 32 - (intOf i).toNat)
  case atStart => exact ⟨0, by omega, rfl, fun i hi => by omega, Below.refl _ _⟩
  case round =>
    obtain ⟨j, hj, rfl, hsame, hBr⟩ := hrel
    by_cases hlt : j < 32
    · have i1 : (j : Int) < 32 := by omega
      have d1 := (hBr.cell (p := ⟨w.heap.size, j, none⟩) (by show w.heap.size < w0.heap.size; omega)).trans (c1 j hlt)
      have d2 := (hBr.cell (p := ⟨w.heap.size + 1, j, none⟩) (by show w.heap.size + 1 < w0.heap.size; omega)).trans (c2 j hlt)
      have hB2 := hB.trans (hBr.mono hB.size)
      by_cases hne : z.getD j 0 = y.getD j 0
      · have HS := hid (show ∀ i, i < j + 1 → z.getD i 0 = y.getD i 0 from fun i hi => by rcases Nat.lt_succ_iff_lt_or_eq.1 hi with h | rfl; exact hsame i h; exact hne)
        rw [hne] at d1
        clear c1 c2 hs hsame hne
        generalize y.getD j 0 = x at *
        go_wp2
        go_quiet (fail)
        go_wp2
        go_roundw
        case rel => exact ⟨j + 1, by omega, by go_num, HS.out, below_drewN hBr _⟩
        case measure => simp [intOf]; omega
      · have HC := hid (cmpK_at j z y (by omega) (by omega) hsame hne)
        clear c1 c2 hs hsame
        generalize y.getD j 0 = x at *
        generalize z.getD j 0 = x' at *
        by_cases hl : x' < x
        · go_wp2
          go_quiet (fail)
          go_wp2
          go_quiet (fail)
          go_wp2
          go_ret
          exact ⟨by rw [HC.out, if_pos hl]; rfl, below_drewN (below_drewN hB2 _) _⟩
        · go_wp2
          go_quiet (fail)
          go_wp2
          go_quiet (fail)
          go_wp2
          go_ret
          exact ⟨by rw [HC.out, if_neg (by omega)]; rfl, below_drewN (below_drewN hB2 _) _⟩
    · obtain rfl : j = 32 := by omega
      have e : z = y := cmpK_all (by omega) fun i hi => hsame i (by omega)
      have HC := hid (show cmpK z y = 0 by rw [e, cmpK_self])
      clear hlt c1 c2 e
      go_wp2
      go_ret
      exact ⟨by rw [HC.out]; rfl, hB.trans (hBr.mono hB.size)⟩
end Go.Proofs.YtbjahdbmkcamoaaGreatDoor
namespace Go.Proofs.YtbjahdbmkcamoaaGreatDoor
set_option linter.unusedVariables false
set_option linter.unusedSimpArgs false
open Go.RowKit
attribute [local go_sem ↓] Go.wp_at_zero Go.wp_at_succ

theorem top_bit : ∀ (n x y : Nat), x < y → y < 2 ^ n → ∃ q, q < n ∧ (∀ r, r < q → x / 2 ^ (n - 1 - r) % 2 = y / 2 ^ (n - 1 - r) % 2) ∧ x / 2 ^ (n - 1 - q) % 2 = 0 ∧ y / 2 ^ (n - 1 - q) % 2 = 1
  | 0, x, y, h, hy => by simp at hy; omega
  | n + 1, x, y, h, hy => by
    have dv : ∀ z r, r < n → z / 2 ^ (n + 1 - 1 - r) = z / 2 / 2 ^ (n - 1 - r) := fun z r hr => by
      rw [Nat.div_div_eq_div_mul, show n + 1 - 1 - r = n - 1 - r + 1 by omega, Nat.pow_succ, Nat.mul_comm]
    by_cases e : x / 2 < y / 2
    · obtain ⟨q, hq, h1, h2, h3⟩ := top_bit n (x / 2) (y / 2) e (by rw [Nat.pow_succ] at hy; omega)
      refine ⟨q, by omega, fun r hr => ?_, ?_, ?_⟩
      · rw [dv x r (by omega), dv y r (by omega)]; exact h1 r hr
      · rw [dv x q hq]; exact h2
      · rw [dv y q hq]; exact h3
    · have e2 : x / 2 = y / 2 := by omega
      refine ⟨n, by omega, fun r hr => ?_, ?_, ?_⟩
      · rw [dv x r hr, dv y r hr, e2]
      · rw [show n + 1 - 1 - n = 0 by omega]; simp; omega
      · rw [show n + 1 - 1 - n = 0 by omega]; simp; omega
theorem bitK_nat {z : List Int} (hz : Bys z) (i : Nat) : bitK z i = (((z.getD (i / 8) 0).toNat / 2 ^ (7 - i % 8) % 2 : Nat) : Int) := by
  have h0 : 0 ≤ z.getD (i / 8) 0 := by
    by_cases h : i / 8 < z.length
    · exact (hz.at _ h).1
    · rw [List.getD_eq_getElem?_getD, List.getElem?_eq_none (by omega)]; decide
  show z.getD (i / 8) 0 / 2 ^ (7 - i % 8) % 2 = _
  obtain ⟨n, hn⟩ := Int.eq_ofNat_of_zero_le h0
  rw [hn]
  simp
theorem ltB_of_cmp {a b : List Int} (la : a.length = 32) (lb : b.length = 32) (ya : Bys a) (yb : Bys b) (h : cmpK a b = -1) : LtB a b := by
  have hne : a ≠ b := fun e => by rw [e, cmpK_self] at h; cases h
  obtain ⟨j, hj, hs, hd⟩ : ∃ j, j < 32 ∧ (∀ i, i < j → a.getD i 0 = b.getD i 0) ∧ a.getD j 0 ≠ b.getD j 0 := by
    have key : ∀ n, n ≤ 32 → (∃ j, j < n ∧ (∀ i, i < j → a.getD i 0 = b.getD i 0) ∧ a.getD j 0 ≠ b.getD j 0) ∨ ∀ i, i < n → a.getD i 0 = b.getD i 0 := by
      intro n
      induction n with
      | zero => intro _; exact Or.inr fun i hi => by omega
      | succ n ih =>
        intro hn
        rcases ih (by omega) with ⟨j, h1, h2⟩ | h2
        · exact Or.inl ⟨j, by omega, h2⟩
        · by_cases e : a.getD n 0 = b.getD n 0
          · refine Or.inr fun i hi => ?_
            by_cases q : i = n
            · subst q; exact e
            · exact h2 i (by omega)
          · exact Or.inl ⟨n, by omega, h2, e⟩
    rcases key 32 (Nat.le_refl _) with h2 | h2
    · exact h2
    · exact absurd (cmpK_all (by omega) fun i hi => h2 i (by omega)) hne
  rw [cmpK_at j a b (by omega) (by omega) hs hd] at h
  have hlt : a.getD j 0 < b.getD j 0 := by
    by_cases e : a.getD j 0 < b.getD j 0
    · exact e
    · rw [if_neg e] at h; cases h
  have ha := ya.at j (by omega)
  have hb := yb.at j (by omega)
  obtain ⟨q, hq, h1, h2, h3⟩ := top_bit 8 (a.getD j 0).toNat (b.getD j 0).toNat (by omega) (by omega)
  refine ⟨8 * j + q, by omega, List.all_eq_true.2 fun i hi => ?_, ?_, ?_⟩
  · have hi' := List.mem_range.1 hi
    simp only [decide_eq_true_eq]
    by_cases e : i / 8 = j
    · rw [bitK_nat ya, bitK_nat yb, e]
      have := h1 (i % 8) (by omega)
      rw [show 8 - 1 - i % 8 = 7 - i % 8 by omega] at this
      rw [this]
    · show a.getD (i / 8) 0 / _ % 2 = b.getD (i / 8) 0 / _ % 2
      rw [hs (i / 8) (by omega)]
  · rw [bitK_nat ya, show (8 * j + q) / 8 = j by omega, show (8 * j + q) % 8 = q by omega, show 7 - q = 8 - 1 - q by omega, h2]; rfl
  · rw [bitK_nat yb, show (8 * j + q) / 8 = j by omega, show (8 * j + q) % 8 = q by omega, show 7 - q = 8 - 1 - q by omega, h3]; rfl
/-- Entries in rising order of their keys' bytes. -/
def SrtC (m : List EnM) : Prop := m.Pairwise fun a b => cmpK a.k b.k = -1
theorem SrtC.srt {m : List EnM} (h : SrtC m) (hm : MapVs m) : SrtM m :=
  List.Pairwise.imp_of_mem (fun {a b} ha hb hc => ltB_of_cmp (hm.ok a ha).1.1 (hm.ok b hb).1.1 (hm.ok a ha).1.2 (hm.ok b hb).1.2 hc) h
theorem SrtC.nodup {m : List EnM} (h : SrtC m) : (m.map EnM.k).Nodup := by
  refine List.pairwise_map.2 (List.Pairwise.imp (fun {a b} hc e => ?_) h)
  rw [e, cmpK_self] at hc; cases hc
theorem SrtC.shr {m : List EnM} (h : SrtC m) : Shr m 256 := ⟨h.nodup, fun a _ b _ => agr_zero _ _⟩
end Go.Proofs.YtbjahdbmkcamoaaGreatDoor
namespace Go.Proofs.YtbjahdbmkcamoaaGreatDoor
set_option linter.unusedVariables false
set_option linter.unusedSimpArgs false
open Go.RowKit
attribute [local go_sem ↓] Go.wp_at_zero Go.wp_at_succ

theorem look_at {m : List EnM} (nd : (m.map EnM.k).Nodup) (i : Nat) (hi : i < m.length) : lookM m (m.getD i dE).k = some (m.getD i dE).v := by
  have h := look_snoc nd (m.getD i dE).k i hi
  rw [if_pos rfl] at h
  generalize (m.getD i dE).k = kk at *
  unfold lookM at h ⊢
  have e := congrArg (List.find? fun e : EnM => decide (e.k = kk)) (List.take_append_drop (i + 1) m)
  rw [← e, List.find?_append]
  cases q : (m.take (i + 1)).find? fun e => decide (e.k = kk) with
  | none => rw [q] at h; cases h
  | some e => rw [q] at h; exact h
theorem look_none {m : List EnM} {ks : List Int} (h : ∀ j, j < m.length → cmpK (m.getD j dE).k ks ≠ 0) : lookM m ks = none := by
  unfold lookM
  rw [List.find?_eq_none.2 fun e he => ?_]
  · rfl
  · obtain ⟨j, hj, rfl⟩ := List.mem_iff_getElem.1 he
    simp only [decide_eq_true_eq]
    intro q
    refine h j hj ?_
    rw [List.getD_eq_getElem?_getD, List.getElem?_eq_getElem hj]
    show cmpK m[j].k ks = 0
    rw [q, cmpK_self]
theorem SrtC.at {m : List EnM} (h : SrtC m) {i j : Nat} (hij : i < j) (hj : j < m.length) : cmpK (m.getD i dE).k (m.getD j dE).k = -1 := by
  have := List.pairwise_iff_getElem.1 h i j (by omega) hj hij
  rwa [List.getD_eq_getElem?_getD, List.getElem?_eq_getElem (by omega), List.getD_eq_getElem?_getD, List.getElem?_eq_getElem hj]
set_option maxRecDepth 100000 in
set_option maxHeartbeats 4000000 in
theorem r3Look_any (w : World) (m : List EnM) (hm : MapVs m) (hs : SrtC m) (hN : m.length ≤ 1000000) (sp : Option Addr) (cap : Nat) (hS : SrcE w sp cap m) (ks : List Int) (hk : ks.length = 32) (hy : Bys ks) :
    Calls Tryz.prog 9 #[.slice sp m.length cap, .agg (ints .u8 ks).toArray] w fun e w' => ((lookM m ks = none ∧ e = .returned (.tuple #[.slice none 0 0, .bool false])) ∨ ∃ v, lookM m ks = some v ∧ ∃ sv cv, e = .returned (.tuple #[.slice sv v.length cv, .bool true]) ∧ Src w sv cv v) ∧ Below w.heap.size w w' := by
  have i0 : (m.length : Int) ≤ 1000000 := by omega
  have d0 := (BK.nil w).alloc (ints .u8 ks) 24
  have LK := hid (show (Tryz.prog.info? 24).map (·.size) = some (ints .u8 ks).length by rw [Tryz.sizeKy, ints_len, hk])
  go_enter Tryz.func9, Tryz.ntmps9
  go_wp2_with fail
  generalize w.alloc (.cells (ints .u8 ks).toArray 24) = w1 at *
  go_loopw [6, 7, 8, 9] (fun lv hv _ _ wr => ∃ lo hi : Nat, lo ≤ hi ∧ hi ≤ m.length ∧ lv = .int .i64 lo ∧ hv = .int .i64 hi ∧ (∀ j, j < lo → cmpK (m.getD j dE).k ks = -1) ∧ (∀ j, hi ≤ j → j < m.length → cmpK (m.getD j dE).k ks = 1) ∧ BK w wr [(w.heap.size, ints .u8 ks, 24)]) (fun lv hv _ _ _ => (intOf hv).toNat - (intOf lv).toNat)
  case atStart => exact ⟨0, m.length, by omega, by omega, rfl, rfl, fun j hj => by omega, fun j h1 h2 => by omega, d0⟩
  case round =>
    clear d0
    obtain ⟨lo, hi, hle, hhi, rfl, rfl, hA, hC, hB⟩ := hrel
    have j0 : (hi : Int) ≤ 1000000 := by omega
    by_cases hlt' : lo < hi
    · have j1 : (lo : Int) < (hi : Int) := by omega
      obtain ⟨H, hH⟩ : ∃ H : Nat, H = (lo + hi) / 2 := ⟨_, rfl⟩
      have hH1 : lo ≤ H ∧ H < hi := by omega
      have j2 : ((lo : Int) + (hi : Int)) / 2 = (H : Int) := by omega
      have hHm : H < m.length := by omega
      have j3 : H < m.length := hHm
      have j4 : (H : Int) < (m.length : Int) := by omega
      obtain ⟨b, o, M, rfl, hbl0, hr0, hsM⟩ := hS.at H hHm
      have hr := rng_below hr0 hB.1 hbl0
      have hbl := Nat.lt_of_lt_of_le hbl0 hB.1.size
      obtain ⟨⟨hl, hyb⟩, hvl⟩ := hm.ok _ (gD_mem m dE H hHm)
      have hrk0 := rng_key hr0 hsM
      have LE := hid (show (Tryz.prog.info? 24).map (·.size) = some (ints .u8 (m.getD H dE).k).length by rw [Tryz.sizeKy, ints_len, hl])
      have KC := hid (fun w1 => r3Compare_any w1 (m.getD H dE).k ks hyb hy hl hk)
      obtain ⟨sv, cv, eM, hnv, hSv⟩ := hsM.2.2
      have cval := cell_val hr0 hsM
      rw [eM] at cval
      have HL := hid (show cmpK (m.getD H dE).k ks = 0 → lookM m ks = some (m.getD H dE).v from fun q => by have := look_at hs.nodup H hHm; rwa [cmpK_eq q] at this)
      have HA := hid (show cmpK (m.getD H dE).k ks = -1 → ∀ j, j < H + 1 → cmpK (m.getD j dE).k ks = -1 from fun q j hj => by
        by_cases e : j = H
        · subst e; exact q
        · exact cmpK_trans (hs.at (by omega) hHm) q)
      have HC := hid (show cmpK (m.getD H dE).k ks = 1 → ∀ j, H ≤ j → j < m.length → cmpK (m.getD j dE).k ks = 1 from fun q j h1 h2 => by
        by_cases e : j = H
        · subst e; exact q
        · have a := cmpK_neg (m.getD H dE).k ks
          have c := cmpK_trans (l := ks) (by rw [a, q]) (hs.at (i := H) (j := j) (by omega) h2)
          rw [cmpK_neg ks, c]; rfl)
      have hcs := cmpK_cases (m.getD H dE).k ks
      generalize cmpK (m.getD H dE).k ks = c at *
      generalize hEe : m.getD H dE = E at *
      clear hEe
      have HA0 := hid hA
      have HC0 := hid hC
      have HH := hid hH
      clear hA hC hs hm hH
      go_wp2_with fail
      refine wp_region_noPanic ?_
      refine wp_region_held_drew (S := (fun w' => BK w w' [(w.heap.size, ints .u8 ks, 24)])) (by kernel_rfl) hB.drew (fun hHeld => ?_)
      refine wpAnyH_take (i := 0) (oi := { dst := some 19, op := Op.move (Operand.tmp 0), type := 26, pos := "ref.go:277", after := #[], guard := none }) (v := .slice (some ⟨b, o, none⟩) m.length cap) rfl (by kernel_rfl) (by kernel_rfl) (by kernel_rfl) (fun _ _ _ h => h) (Or.inl ⟨by rfl, by intro w hS; go_simp⟩) hHeld ?_
      try simp only [Act.put, List.setIfInBounds_toArray, List.set_cons_zero, List.set_cons_succ]
      refine wpAnyH_take (i := 1) (oi := { dst := some 20, op := Op.move (Operand.tmp 8), type := 3, pos := "ref.go:277", after := #[], guard := none }) (v := .int .i64 H) rfl (by kernel_rfl) (by kernel_rfl) (by kernel_rfl) (fun _ _ _ h => h) (Or.inl ⟨by rfl, by intro w hS; go_simp⟩) hHeld ?_
      try simp only [Act.put, List.setIfInBounds_toArray, List.set_cons_zero, List.set_cons_succ]
      refine wpAnyH_take (i := 5) (oi := { dst := some 24, op := Op.load 24 (Operand.tmp 3), type := 24, pos := "ref.go:277", after := #[], guard := none }) (v := .agg (ints .u8 ks).toArray) rfl (by kernel_rfl) (by kernel_rfl) (by kernel_rfl) (fun _ _ _ h => h) (yieldsIf_load_mid (by rfl) 24 _ rfl w.heap.size (0) rfl (ints .u8 ks) _ (fun w hS => rng (hS.row (.head _))) Tryz.underlying24 rfl LK.out) hHeld ?_
      try simp only [Act.put, List.setIfInBounds_toArray, List.set_cons_zero, List.set_cons_succ]
      refine wpAnyH_take (i := 2) (oi := { dst := some 21, op := Op.indexAddr 26 (Operand.tmp 19) (Operand.tmp 20), type := 0, pos := "ref.go:277", after := #[{ on := 0, ground := Ground.data }, { on := 1, ground := Ground.data }], guard := none }) (v := .pointer (some ⟨b, o + H * 33, none⟩)) rfl (by kernel_rfl) (by kernel_rfl) (by kernel_rfl) (fun _ _ _ h => h) (Or.inl ⟨by rfl, by intro w hS; go_simp⟩) hHeld ?_
      try simp only [Act.put, List.setIfInBounds_toArray, List.set_cons_zero, List.set_cons_succ]
      refine wpAnyH_take (i := 3) (oi := { dst := some 22, op := Op.fieldAddr 67 (Operand.tmp 21) 0, type := 0, pos := "ref.go:277", after := #[{ on := 2, ground := Ground.data }], guard := none }) (v := .pointer (some ⟨b, o + H * 33, none⟩)) rfl (by kernel_rfl) (by kernel_rfl) (by kernel_rfl) (fun _ _ _ h => h) (Or.inl ⟨by rfl, by intro w hS; go_simp⟩) hHeld ?_
      try simp only [Act.put, List.setIfInBounds_toArray, List.set_cons_zero, List.set_cons_succ]
      refine wpAnyH_take (i := 4) (oi := { dst := some 23, op := Op.load 24 (Operand.tmp 22), type := 24, pos := "ref.go:277", after := #[{ on := 3, ground := Ground.data }], guard := none }) (v := .agg (ints .u8 E.k).toArray) rfl (by kernel_rfl) (by kernel_rfl) (by kernel_rfl) (fun _ _ _ h => h) (yieldsIf_load_mid (by rfl) 24 _ rfl b (o + H * 33) rfl (ints .u8 E.k) _ (fun w hS => rng_below hrk0 hS.1 hbl0) Tryz.underlying24 rfl LE.out) hHeld ?_
      try simp only [Act.put, List.setIfInBounds_toArray, List.set_cons_zero, List.set_cons_succ]
      refine wpAnyH_ready (rs := [6]) (by kernel_rfl) (by simp) ?_
      refine (AllReadyH.cons (o := { dst := some 25, op := Op.call { callee := Callee.value (Operand.func 22), args := #[Operand.tmp 23, Operand.tmp 24], argTypes := #[24, 24] }, type := 3, pos := "ref.go:277", after := #[{ on := 4, ground := Ground.data }, { on := 5, ground := Ground.data }], guard := none }) rfl (fun K hK => ?_) AllReadyH.nil)
      go_simp
      go_at_call 22
      refine (KC.out _).mono ?_
      rintro e w4 ⟨rfl, hb4⟩
      go_wp2_with fail
      refine hK.out _ _ (hHeld.call hb4) (fun hHeld2 => ?_)
      clear hK K hHeld
      have hHeld := hHeld2
      clear hHeld2
      try simp only [Act.put, List.setIfInBounds_toArray, List.set_cons_zero, List.set_cons_succ]
      refine wpAnyH_take (i := 7) (oi := { dst := some 9, op := Op.assign (Operand.tmp 25), type := 3, pos := "ref.go:277", after := #[{ on := 6, ground := Ground.data }, { on := 6, ground := Ground.chain }, { on := 0, ground := Ground.phase }, { on := 1, ground := Ground.phase }, { on := 2, ground := Ground.phase }, { on := 3, ground := Ground.phase }, { on := 4, ground := Ground.phase }, { on := 5, ground := Ground.phase }, { on := 6, ground := Ground.phase }], guard := none }) (v := .int .i64 c) rfl (by kernel_rfl) (by kernel_rfl) (by kernel_rfl) (fun _ _ _ h => h) (Or.inl ⟨by rfl, by intro w hS; go_simp⟩) hHeld ?_
      try simp only [Act.put, List.setIfInBounds_toArray, List.set_cons_zero, List.set_cons_succ]
      refine wpAnyH_done (by kernel_rfl) ?_ _
      refine NoPanic.normal ?_
      have HB := hid hHeld
      clear hHeld KC hrk0
      have cv4 := (HB.out.1.cell (p := ⟨b, o + H * 33 + 32, none⟩) hbl0).trans cval
      rcases hcs with rfl | rfl | rfl
      · go_wp2_with fail
        go_roundw
        case rel => exact ⟨H + 1, hi, by omega, by omega, by go_num, rfl, HA.out rfl, HC0.out, HB.out⟩
        case measure => simp [intOf]; omega
      · have E0 := hid (HL.out rfl)
        go_wp2_with fail
        exact bodyPost_ret (results_tmp2 Tryz.results9 _ _ _) rfl ⟨Or.inr ⟨E.v, E0.out, sv, cv, rfl, hSv⟩, HB.out.1⟩
      · go_wp2_with fail
        go_roundw
        case rel => exact ⟨lo, H, by omega, by omega, rfl, rfl, HA0.out, HC.out rfl, HB.out⟩
        case measure => simp [intOf]; omega
    · obtain rfl : lo = hi := by omega
      have HN := hid (show lookM m ks = none from look_none fun j hj => by
        by_cases e : j < lo
        · rw [hA j e]; decide
        · rw [hC j (by omega) hj]; decide)
      have HB := hid hB
      have j1 : ¬ ((lo : Int) < (lo : Int)) := by omega
      clear hA hC hB
      go_wp2_with fail
      exact bodyPost_ret (results_tmp2 Tryz.results9 _ _ _) rfl ⟨Or.inl ⟨HN.out, rfl⟩, HB.out.1⟩
end Go.Proofs.YtbjahdbmkcamoaaGreatDoor
