import Derived.Test.YtcibcakgheegbaaE4k
import Derived.Deep.QuietTactic
import Derived.BigQuiet
namespace Go.Proofs.Ytcibcakgheegbaa
set_option linter.unusedVariables false
set_option linter.unusedSimpArgs false
open Go.RowKit
attribute [local go_sem ↓] Go.wp_at_zero Go.wp_at_succ

theorem list_ext0 {z y : List Int} (hl : z.length = y.length) (h : ∀ j, j < z.length → z.getD j 0 = y.getD j 0) : z = y := by
  apply List.ext_getElem hl
  intro i h1 h2
  have := h i h1
  rwa [List.getD_eq_getElem?_getD, List.getD_eq_getElem?_getD, List.getElem?_eq_getElem h1, List.getElem?_eq_getElem h2] at this
set_option maxRecDepth 100000 in
set_option maxHeartbeats 400000 in
theorem same_any (w : World) (zs ys : List Int) (sp tp : Option Addr) (cap dap : Nat) (hS : Src w sp cap zs) (hT : Src w tp dap ys) :
    Calls Try.prog 15 #[.slice sp zs.length cap, .slice tp ys.length dap] w fun e w' => e = .returned (.bool (decide (zs = ys))) ∧ Below w.heap.size w w' := by
  obtain ⟨hc, hm, b, o, hb, hsp, hsrc⟩ := hS
  obtain ⟨hc2, hm2, b2, o2, hb2, hsp2, hsrc2⟩ := hT
  unfold maxLen at hm hm2
  by_cases hl : zs.length = ys.length
  · go_enter Try.func15, Try.ntmps15
    rw [hl] at hsp hsrc hb hc ⊢
    have hN := hid hl
    have i0 : (ys.length : Int) ≤ 9223372036854775807 := by omega
    generalize hn : ys.length = n at *
    have HN := hid hn
    clear hl hn
    go_wp2
    go_loopw [5] (fun i wr => ∃ k : Nat, k ≤ n ∧ i = .int .i64 k ∧ (∀ j, j < k → zs.getD j 0 = ys.getD j 0) ∧ Below w.heap.size w wr) (fun i _ => n - (intOf i).toNat)
    case atStart => exact ⟨0, by omega, rfl, fun j hj => by omega, Below.refl _ _⟩
    case round =>
      obtain ⟨k, hk, rfl, hsame, hB⟩ := hrel
      by_cases hlt : k < n
      · have i1 : (k : Int) < (n : Int) := by omega
        obtain rfl := hsp (by omega)
        obtain rfl := hsp2 (by omega)
        have c0 := (hB.cell (p := ⟨b, o + k, none⟩) (hb (by omega))).trans (hsrc k hlt)
        have c1 := (hB.cell (p := ⟨b2, o2 + k, none⟩) (hb2 (by omega))).trans (hsrc2 k hlt)
        by_cases he : zs.getD k 0 = ys.getD k 0
        · have HE := hid (show ∀ j, j < k + 1 → zs.getD j 0 = ys.getD j 0 from fun j hj => by rcases Nat.lt_succ_iff_lt_or_eq.1 hj with h | rfl; exact hsame j h; exact he)
          rw [he] at c0
          clear he hsame
          generalize ys.getD k 0 = x at *
          go_wp2
          go_quiet (fail)
          go_wp2
          go_roundw
          case rel => exact ⟨k + 1, by omega, by go_num, HE.out, below_drewN hB _⟩
          case measure => simp [intOf]; omega
        · have hne : zs ≠ ys := fun e => he (by rw [e])
          clear hsame
          generalize ys.getD k 0 = x at *
          generalize zs.getD k 0 = y at *
          have hd : decide (zs = ys) = false := by simp [hne]
          have HD := hid hd
          clear hd hne
          go_wp2
          go_quiet (fail)
          go_wp2
          go_ret
          exact ⟨(by rw [HD.out]; rfl), below_drewN hB _⟩
      · obtain rfl : k = n := by omega
        have e : zs = ys := list_ext0 (by rw [hN.out, HN.out]) fun j hj => hsame j (by have := hN.out; omega)
        have HD := hid (show decide (zs = ys) = true by simp [e])
        clear e hlt
        go_wp2
        go_ret
        exact ⟨(by rw [HD.out]; rfl), hB⟩
  · have hne : zs ≠ ys := fun e => hl (by rw [e])
    have HD := hid (show decide (zs = ys) = false by simp [hne])
    clear hne
    have hl2 : ¬ ((zs.length : Int) = (ys.length : Int)) := by omega
    generalize decide (zs = ys) = d at *
    generalize zs.length = n at *
    generalize ys.length = m at *
    go_enter Try.func15, Try.ntmps15
    go_wp2
    go_ret
    exact ⟨(by rw [HD.out]; rfl), Below.refl _ _⟩

/-! What a law is handed: writes by pages and fills. -/
structure WR where
  page : Int
  fill : List Int
def dR : WR := ⟨0, []⟩
def encR (r : WR) : List Value := .int .i64 r.page :: ints .u8 r.fill
def WrOk (r : WR) : Prop := r.fill.length = 4 ∧ Bts r.fill ∧ -9223372036854775808 ≤ r.page ∧ r.page ≤ 9223372036854775807
theorem WrOk.len {r : WR} (h : WrOk r) : (encR r).length = 5 := by rw [encR, List.length_cons, ints_len, h.1]
theorem encR_one (r : WR) : ∀ v ∈ encR r, v.oneCell' = true := by
  intro v hv
  rcases List.mem_cons.1 hv with rfl | h
  · rfl
  · exact ints_one _ _ v h
/-- The page that it means. -/
def pg (r : WR) (n : Nat) : Nat := (r.page % n).toNat
theorem pg_lt (r : WR) (n : Nat) (hn : 0 < n) : pg r n < n := by
  have h1 := Int.emod_nonneg r.page (show (n : Int) ≠ 0 by omega)
  have h2 := Int.emod_lt_of_pos r.page (show (0 : Int) < n by omega)
  unfold pg; omega
def fil (r : WR) : List Int := (List.range 256).map fun i => r.fill.getD (i / 64) 0
theorem fil_len (r : WR) : (fil r).length = 256 := by simp [fil]
theorem fil_get (r : WR) (i : Nat) (hi : i < 256) : (fil r).getD i 0 = r.fill.getD (i / 64) 0 := by simp [fil, hi]
theorem fil_bts {r : WR} (h : WrOk r) : Bts (fil r) := fun x hx => by
  obtain ⟨i, _, rfl⟩ := List.mem_map.1 hx
  exact h.2.1.get _
theorem sizeR : (Try.prog.info? 53).map (·.size) = some 5 := by kernel_rfl
theorem emod_tmod (x : Int) (n : Nat) (hn : 0 < n) : x % n = if x.tmod n < 0 then x.tmod n + n else x.tmod n := by
  have hd := Int.mul_tdiv_add_tmod x n
  have hb1 := Int.lt_tmod_of_pos x (show (0 : Int) < n by omega)
  have hb2 := Int.tmod_lt_of_pos x (show (0 : Int) < n by omega)
  have e : x % n = x.tmod n % n := by
    conv => lhs; rw [← hd]
    rw [Int.add_comm, Int.add_mul_emod_self_left]
  rw [e]
  split
  · rw [← Int.add_emod_right, Int.emod_eq_of_lt (by omega) (by omega)]
  · rw [Int.emod_eq_of_lt (by omega) hb2]
set_option maxHeartbeats 400000 in
theorem of_any (w : World) (r : WR) (hr : WrOk r) (n : Nat) (h3 : 3 ≤ n) (h4 : n ≤ 4096) :
    Calls Try.prog 23 #[.agg (encR r).toArray, .int .i64 n] w fun e w' => e = .returned (.int .i64 (pg r n)) ∧ Below w.heap.size w w' := by
  have c0 : (w.alloc (.cells (encR r).toArray 53)).cell? ⟨w.heap.size, 0, none⟩ = some (.int .i64 r.page) := by rw [cell_of_row _ _ _ _ _ _ (hnew w _)]; rfl
  obtain ⟨_, _, hp0, hp1⟩ := hr
  have hB : Below w.heap.size w (w.alloc (.cells (encR r).toArray 53)) := (Below.refl _ w).alloc (Nat.le_refl _) _
  have HB := hid hB
  have hn0 : (n : Int) ≠ 0 := by omega
  have i4 : (n : Int) ≤ 4096 := by omega
  have hb1 := Int.lt_tmod_of_pos r.page (show (0 : Int) < n by omega)
  have hb2 := Int.tmod_lt_of_pos r.page (show (0 : Int) < n by omega)
  have he := emod_tmod r.page n (by omega)
  have hnn := Int.emod_nonneg r.page hn0
  obtain ⟨t, ht⟩ : ∃ t, r.page.tmod n = t := ⟨_, rfl⟩
  rw [ht] at hb1 hb2 he
  by_cases hneg : t < 0
  · have HE := hid (show t + n = (pg r n : Int) by rw [if_pos hneg] at he; unfold pg; omega)
    generalize encR r = er at *
    clear hB he hnn
    go_enter Try.func23, Try.ntmps23
    go_wp2
    go_ret
    exact ⟨by rw [← HE.out]; rfl, HB.out⟩
  · have HE := hid (show t = (pg r n : Int) by rw [if_neg hneg] at he; unfold pg; omega)
    generalize encR r = er at *
    clear hB he hnn
    go_enter Try.func23, Try.ntmps23
    go_wp2
    go_ret
    exact ⟨by rw [← HE.out]; rfl, HB.out⟩
set_option maxRecDepth 100000 in
set_option maxHeartbeats 1000000 in
theorem filled_any (w : World) (r : WR) (hr : WrOk r) :
    Calls Try.prog 25 #[.agg (encR r).toArray] w fun e w' => ∃ g, e = .returned (.slice (some ⟨g, 0, none⟩) 256 256) ∧ w.heap.size ≤ g ∧ w'.heap[g]? = some (.cells (ints .u8 (fil r)).toArray 5 (0, 0)) ∧ Below w.heap.size w w' := by
  obtain ⟨hfl, hfb, _, _⟩ := hr
  have hB0 : Below w.heap.size w (w.alloc (.cells (encR r).toArray 53)) := (Below.refl _ w).alloc (Nat.le_refl _) _
  have gN := hnew w (.cells (encR r).toArray 53)
  have hs0 : (w.alloc (.cells (encR r).toArray 53)).heap.size = w.heap.size + 1 := by simp
  obtain ⟨i5, hi5, hz5, hs5, hy5⟩ := Try.info5
  have HI := hid hi5
  have K1 := hid (show i5.bytes * 256 ≤ 281474976710656 by rw [hy5]; omega)
  have K2 := hid (show 256 ≤ maxLen by unfold maxLen; omega)
  have HR := hid (fun (w1 : World) (b : Below (w.alloc (.cells (encR r).toArray 53)).heap.size (w.alloc (.cells (encR r).toArray 53)) w1) => (show w1.heap[w.heap.size]? = some (.cells (encR r).toArray 53 (0, 0)) ∧ Below w.heap.size w w1 from ⟨(b.block _ (by rw [hs0]; omega)).trans gN, hB0.trans (b.mono (by rw [hs0]; omega))⟩))
  have HSS := hid hs0
  clear hi5 gN hB0 hs0
  go_enter Try.func25, Try.ntmps25
  go_wp2_with (refine wpList_make_full _ rfl _ _ 28 rfl (w.alloc (.cells (encR r).toArray 53)).heap.size 5 i5 (.int .u8 0) 1 Try.underlying28 HI.out hz5 hs5 .i64 .i64 _ _ 256 rfl rfl rfl rfl K1.out K2.out (Nat.le_refl _) ?_; intro w1 hO1 hg1; have hB1 := grown_keeps hg1 (fun k hk => by cases hk) (Nat.le_refl _); have hr1 := made_row hO1; clear hg1 hO1)
  obtain ⟨hNr, hBw⟩ := HR.out w1 hB1
  rw [HSS.out] at hr1
  clear HR HI K1 K2 hB1 hz5 hs5 hy5
  generalize hNN : w.heap.size = N at *
  have HNN := hid hNN
  clear hNN
  go_loopw [4] (fun iv wr => ∃ i : Nat, i ≤ 256 ∧ iv = .int .i64 i ∧ wr.heap[N + 1]? = some (.cells (ints .u8 (padz ((fil r).take i) 256)).toArray 5 (0, 0)) ∧ wr.heap[N]? = some (.cells (encR r).toArray 53 (0, 0)) ∧ Below N w wr) (fun iv _ => 256 - (intOf iv).toNat)
  case atStart => exact ⟨0, by omega, rfl, hr1, hNr, hBw⟩
  case round =>
    clear hr1 hNr hBw
    obtain ⟨i, hi, rfl, hG, hN, hB⟩ := hrel
    by_cases hlt : i < 256
    · have i1 : (i : Int) < 256 := by omega
      obtain ⟨d, hd⟩ : ∃ d, d = i / 64 := ⟨_, rfl⟩
      have dt : (i : Int).tdiv 64 = (d : Int) := by rw [hd, Int.tdiv_eq_ediv_of_nonneg (by omega)]; rfl
      have i4 : (d : Int) < 4 := by omega
      have d4 : d < 4 := by omega
      obtain ⟨x, hx⟩ : ∃ x, x = r.fill.getD d 0 := ⟨_, rfl⟩
      have cN : wr.cell? ⟨N, 1 + d, none⟩ = some (.int .u8 x) := by
        rw [cell_of_row _ _ _ _ _ _ hN, List.getElem?_toArray, encR, show 1 + d = d + 1 by omega, List.getElem?_cons_succ, ints_get _ _ _ (by omega), hx]
      have lt : ((fil r).take i).length = i := by rw [List.length_take, fil_len]; omega
      have HT := hid (show (fil r).take (i + 1) = (fil r).take i ++ [x] by
        rw [List.take_succ_eq_append_getElem (by rw [fil_len]; exact hlt), hx, hd]
        have := fil_get r i hlt
        rw [List.getD_eq_getElem?_getD, List.getElem?_eq_getElem (by rw [fil_len]; exact hlt)] at this
        rw [← this]; rfl)
      have cG := cell_ints hG i (by rw [padz_len _ _ (by omega)]; exact hlt)
      have fG : wr.frozen? ⟨N + 1, i, none⟩ = false := frozen_of_row _ _ _ _ _ hG
      have hset := heap_set_ints hG i x
      have hps := padz_set ((fil r).take i) 256 x (by omega)
      rw [lt] at hps
      rw [hps, ← HT.out] at hset
      have hN2 := heap_set_far hN ⟨N + 1, i, none⟩ (.int .u8 x) (show N ≠ N + 1 by omega)
      have hB2 : Below N w (wr.setCell ⟨N + 1, i, none⟩ (.int .u8 x)) := hB.setCell (show N ≤ N + 1 by omega) (.int .u8 x)
      have HS := hid hset
      have HN2 := hid hN2
      have HB2 := hid hB2
      clear hset hN2 hB2 hps HT hx hd lt hfl hfb hN hG hB
      generalize (padz ((fil r).take i) 256).getD i 0 = x0 at *
      go_wp2
      go_roundw
      case rel => exact ⟨i + 1, by omega, by go_num, HS.out, HN2.out, HB2.out⟩
      case measure => simp [intOf]; omega
    · obtain rfl : i = 256 := by omega
      clear hlt
      rw [List.take_of_length_le (by rw [fil_len]; exact Nat.le_refl _), padz_full _ _ (fil_len r)] at hG
      go_wp2
      go_ret
      exact ⟨N + 1, rfl, by rw [HNN.out]; omega, hG, by rw [HNN.out]; exact hB⟩
set_option maxHeartbeats 400000 in
theorem fresh_any (w : World) (n : Int) (h0 : -9223372036854775808 ≤ n) (h1 : n ≤ 9223372036854775807) :
    Calls Try.prog 9 #[.int .i64 n] w fun e w' => ∃ p F k, e = .returned (.pointer (some ⟨p, 0, none⟩)) ∧ k = (n % 8).toNat + 3 ∧ DA w' w.heap.size F p (newD (List.replicate (256 * k) 0)) ∧ Below w.heap.size w w' := by
  have hb1 := Int.lt_tmod_of_pos n (show (0 : Int) < 8 by omega)
  have hb2 := Int.tmod_lt_of_pos n (show (0 : Int) < 8 by omega)
  have he := emod_tmod n 8 (by omega)
  have hnn := Int.emod_nonneg n (show (8 : Int) ≠ 0 by decide)
  have hnl := Int.emod_lt_of_pos n (show (0 : Int) < 8 by decide)
  have q23 : ∀ (w : World) (a : Addr), (binOp .eql 23 (.pointer (some a)) (.pointer none)).run Try.prog w = .ok (.bool false) w := fun w a => by kernel_rfl
  obtain ⟨k, hk⟩ : ∃ k, k = (n % 8).toNat + 3 := ⟨_, rfl⟩
  have k3 : 3 ≤ k := by omega
  have k4 : k ≤ 4096 := by omega
  have HN := hid (New_ok w k k3 k4)
  obtain ⟨t, ht⟩ : ∃ t, n.tmod 8 = t := ⟨_, rfl⟩
  have hnp : (newD (List.replicate (256 * k) 0)).np = k := by unfold DS.np newD; simp
  have HNP := hid hnp
  have HK := hid hk
  have ik : (k : Int) ≤ 4096 := by omega
  rw [show ((8 : Nat) : Int) = 8 from rfl] at he
  rw [ht] at hb1 hb2 he
  by_cases hneg : t < 0
  · rw [if_pos hneg] at he
    have ek : t + 8 + 3 = (k : Int) := by omega
    clear hk hnp hnn hnl he
    go_enter Try.func9, Try.ntmps9
    go_wp2_with (first
      | (go_at_call 29; refine HN.out.mono ?_; rintro e w1 ⟨p, F, rfl, hD, hB⟩)
      | (go_at_call 14; refine (Pages_any w1 w.heap.size F p _ hD).mono ?_; rintro e w2 ⟨rfl, rfl⟩; rw [HNP.out]))
    go_ret
    exact ⟨p, F, k, rfl, HK.out, hD, hB⟩
  · rw [if_neg hneg] at he
    have ek : t + 3 = (k : Int) := by omega
    clear hk hnp hnn hnl he
    go_enter Try.func9, Try.ntmps9
    go_wp2_with (first
      | (go_at_call 29; refine HN.out.mono ?_; rintro e w1 ⟨p, F, rfl, hD, hB⟩)
      | (go_at_call 14; refine (Pages_any w1 w.heap.size F p _ hD).mono ?_; rintro e w2 ⟨rfl, rfl⟩; rw [HNP.out]))
    go_ret
    exact ⟨p, F, k, rfl, HK.out, hD, hB⟩
end Go.Proofs.Ytcibcakgheegbaa
