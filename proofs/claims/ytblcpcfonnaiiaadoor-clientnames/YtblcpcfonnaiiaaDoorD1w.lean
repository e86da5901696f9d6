import Derived.Test.YtblcpcfonnaiiaaDoorD1v
namespace Go.Proofs.YtblcpcfonnaiiaaDoor
set_option linter.unusedVariables false
set_option linter.unusedSimpArgs false
open Go.RowKit
attribute [local go_sem ↓] Go.wp_at_zero Go.wp_at_succ

/-- The document's own two tables lie in memory. -/
def GlobR (w : World) : Prop := w.rangeAt 2 0 (ints .u32 kTab) ∧ w.rangeAt 1 0 (ints .u32 fTab)
theorem GlobR.below {w w1 : World} {B : Nat} (h : GlobR w) (hb : Below B w w1) (hB : 4 ≤ B) : GlobR w1 := ⟨rng_below h.1 hb (by omega), rng_below h.2 hb (by omega)⟩
theorem GlobR.k {w : World} (h : GlobR w) : ∀ j, j < 64 → w.cell? ⟨2, j, none⟩ = some (.int .u32 (kTab[j]?.getD 0)) := fun j hj => by
  have := h.1 j (.int .u32 (kTab[j]?.getD 0)) (by have := ints_get .u32 kTab j (by rw [kTab_len]; exact hj); simpa using this)
  rwa [Nat.zero_add] at this
theorem wrap_assoc (x y z : Int) : IntKind.u32.wrap (IntKind.u32.wrap (x + y) + z) = IntKind.u32.wrap (x + IntKind.u32.wrap (y + z)) := by
  simp only [IntKind.wrap_u32]; omega
theorem heap4_3 (w : World) (A B C D : Obj) : ((((w.alloc A).alloc B).alloc C).alloc D).heap[w.heap.size + 1 + 1 + 1]? = some D := by
  have := hnew (((w.alloc A).alloc B).alloc C) D
  simpa using this

/-- Three blocks as they were, the fourth holds a list. -/
def Q4 (w : World) (N : Nat) (q0 q1 q2 : Obj) (zs : List Int) (wr : World) : Prop := wr.heap[N]? = some q0 ∧ wr.heap[N + 1]? = some q1 ∧ wr.heap[N + 1 + 1]? = some q2 ∧ wr.heap[N + 1 + 1 + 1]? = some (Obj.cells (ints .u32 zs).toArray 73) ∧ Below N w wr
theorem Q4.set {w : World} {N : Nat} {q0 q1 q2 : Obj} {zs : List Int} {wr : World} (h : Q4 w N q0 q1 q2 zs wr) (j : Nat) (x : Int) : Q4 w N q0 q1 q2 (zs.set j x) (wr.setCell ⟨N + 1 + 1 + 1, j, none⟩ (.int .u32 x)) :=
  ⟨heap_set_far h.1 _ _ (by show N ≠ N + 1 + 1 + 1; omega), heap_set_far h.2.1 _ _ (by show N + 1 ≠ N + 1 + 1 + 1; omega), heap_set_far h.2.2.1 _ _ (by show N + 1 + 1 ≠ N + 1 + 1 + 1; omega), heap_set_ints h.2.2.2.1 j x, h.2.2.2.2.setCell (by show N ≤ N + 1 + 1 + 1; omega) _⟩
theorem Q4.drew {w : World} {N : Nat} {q0 q1 q2 : Obj} {zs : List Int} {wr : World} (h : Q4 w N q0 q1 q2 zs wr) : Q4 w N q0 q1 q2 zs wr.drew := ⟨h.1, h.2.1, h.2.2.1, h.2.2.2.1, h.2.2.2.2.drew⟩

set_option maxRecDepth 100000 in
set_option maxHeartbeats 1000000 in
theorem behind_any (st ws : List Int) (hst : st.length = 8) (hws : ws.length = 64) (hbd : Bd8 st) (w : World) (hsz : 4 ≤ w.heap.size) (hG : GlobR w) :
    Calls Tryd.prog 49 #[.agg (ints .u32 st).toArray, .agg (ints .u32 ws).toArray] w fun e w' => e = .returned (.agg (ints .u32 (List.zipWith (fun x y => IntKind.u32.wrap (x + y)) st (roundsTo st ws 64))).toArray) ∧ Below w.heap.size w w' := by
  have hR := roundsTo_ok st ws hst hbd
  have HE := hid (show List.zipWith (fun x y => IntKind.u32.wrap (x + y)) st (roundsTo st ws 64) = List.zipWith (fun x y => IntKind.u32.wrap (x + y)) st (roundsTo st ws 64) from rfl)
  obtain ⟨s0, s1, s2, s3, s4, s5, s6, s7, rfl⟩ := list8 st hst
  have ho8 := all_oneCell_toArray (ints_one .u32 [s0, s1, s2, s3, s4, s5, s6, s7])
  have H43 := heap4_3 w (Obj.cells (ints .u32 [s0, s1, s2, s3, s4, s5, s6, s7]).toArray 73) (Obj.cells (ints .u32 ws).toArray 85) (Obj.cells (ints .u32 [0, 0, 0, 0, 0, 0, 0, 0]).toArray 73) (Obj.cells (ints .u32 [0, 0, 0, 0, 0, 0, 0, 0]).toArray 73)
  have H30 := heap3_old w (Obj.cells (ints .u32 [s0, s1, s2, s3, s4, s5, s6, s7]).toArray 73) (Obj.cells (ints .u32 ws).toArray 85) (Obj.cells (ints .u32 [0, 0, 0, 0, 0, 0, 0, 0]).toArray 73)
  have L1 : (Tryd.prog.info? 73).map (·.size) = some (ints .u32 [s0, s1, s2, s3, s4, s5, s6, s7]).toArray.size := by rw [Tryd.size73, ints_size]; rfl
  have L2 : (ints .u32 [0, 0, 0, 0, 0, 0, 0, 0]).toArray.size = (ints .u32 [s0, s1, s2, s3, s4, s5, s6, s7]).toArray.size := by rw [ints_size, ints_size]; rfl
  have K43 := hid H43
  have K30 := hid H30
  have KL1 := hid L1
  have KL2 := hid L2
  clear H43 H30 L1 L2
  go_enter Tryd.func49, Tryd.ntmps49
  go_wp2_with (first | refine wpList_load_row rfl 73 _ rfl w.heap.size rfl 73 _ _ _ K30.out Tryd.underlying73 rfl KL1.out ?_ | refine wpList_store_row rfl 73 _ _ rfl (w.heap.size + 1 + 1 + 1) _ rfl rfl 73 _ K43.out KL1.out KL2.out ho8 ?_)
  try simp only [Act.put, List.setIfInBounds_toArray, List.set_cons_zero, List.set_cons_succ]
  go_wp2
  obtain ⟨w0, e0, e1, e2, e3, hB0, hw0⟩ : ∃ w0 : World, w0.heap[w.heap.size]? = some (Obj.cells (ints .u32 [s0, s1, s2, s3, s4, s5, s6, s7]).toArray 73) ∧ w0.heap[w.heap.size + 1]? = some (Obj.cells (ints .u32 ws).toArray 85) ∧ w0.heap[w.heap.size + 1 + 1]? = some (Obj.cells (ints .u32 [0, 0, 0, 0, 0, 0, 0, 0]).toArray 73) ∧ w0.heap[w.heap.size + 1 + 1 + 1]? = some (Obj.cells (ints .u32 [s0, s1, s2, s3, s4, s5, s6, s7]).toArray 73) ∧ Below w.heap.size w w0 ∧ w0 = ((((w.alloc (Obj.cells (ints .u32 [s0, s1, s2, s3, s4, s5, s6, s7]).toArray 73)).alloc (Obj.cells (ints .u32 ws).toArray 85)).alloc (Obj.cells (ints .u32 [0, 0, 0, 0, 0, 0, 0, 0]).toArray 73)).alloc (Obj.cells (ints .u32 [0, 0, 0, 0, 0, 0, 0, 0]).toArray 73)).setRow (w.heap.size + 1 + 1 + 1) (ints .u32 [s0, s1, s2, s3, s4, s5, s6, s7]).toArray :=
    ⟨_, (setRow_other _ _ _ _ (by omega)).trans (hold (heap3_old w _ _ _)), (setRow_other _ _ _ _ (by omega)).trans (hold (heap3_mid w _ _ _)), (setRow_other _ _ _ _ (by omega)).trans (hold (heap3_new w _ _ _)), setRow_heap _ _ _ _ _ _ (heap4_3 w _ _ _ _), below_setRow ((below3 w _ _ _).alloc (by simp; omega) _) (by omega) _, rfl⟩
  show Code.wp _ _ _ _ (((((w.alloc (Obj.cells (ints .u32 [s0, s1, s2, s3, s4, s5, s6, s7]).toArray 73)).alloc (Obj.cells (ints .u32 ws).toArray 85)).alloc (Obj.cells (ints .u32 [0, 0, 0, 0, 0, 0, 0, 0]).toArray 73)).alloc (Obj.cells (ints .u32 [0, 0, 0, 0, 0, 0, 0, 0]).toArray 73)).setRow (w.heap.size + 1 + 1 + 1) (ints .u32 [s0, s1, s2, s3, s4, s5, s6, s7]).toArray)
  rw [← hw0]
  clear hw0
  go_loopw [6, 7, 8, 9, 10, 11] (fun i _ _ _ _ _ wr => ∃ (n : Nat) (xa xb xc xd xe xf xg xh : Int), n ≤ 64 ∧ i = .int .i64 n ∧ Hid (roundsTo [s0, s1, s2, s3, s4, s5, s6, s7] ws n = [xa, xb, xc, xd, xe, xf, xg, xh]) ∧ wr.heap[w.heap.size]? = some (Obj.cells (ints .u32 [s0, s1, s2, s3, s4, s5, s6, s7]).toArray 73) ∧ wr.heap[w.heap.size + 1]? = some (Obj.cells (ints .u32 ws).toArray 85) ∧ wr.heap[w.heap.size + 1 + 1]? = some (Obj.cells (ints .u32 [0, 0, 0, 0, 0, 0, 0, 0]).toArray 73) ∧ wr.heap[w.heap.size + 1 + 1 + 1]? = some (Obj.cells (ints .u32 [xa, xb, xc, xd, xe, xf, xg, xh]).toArray 73) ∧ Below w.heap.size w wr) (fun i _ _ _ _ _ _ => 64 - (intOf i).toNat)
  case atStart => exact ⟨0, s0, s1, s2, s3, s4, s5, s6, s7, by omega, rfl, rfl, e0, e1, e2, e3, hB0⟩
  case round =>
    clear e0 e1 e2 e3 hB0
    obtain ⟨n, xa, xb, xc, xd, xe, xf, xg, xh, hn, rfl, HR, e0, e1, e2, e3, hB⟩ := hrel
    by_cases hnl : n < 64
    · have hr := (hR n).1
      rw [HR.out] at hr
      obtain ⟨ba0, ba1⟩ := hr xa (by simp)
      obtain ⟨be0, be1⟩ := hr xe (by simp)
      clear hr
      have i1 : (n : Int) < 64 := by omega
      have cK : wr.cell? ⟨2, n, none⟩ = some (.int .u32 (kTab[n]?.getD 0)) := (hB.cell (p := ⟨2, n, none⟩) (by show 2 < w.heap.size; omega)).trans (hG.k n hnl)
      have cW : wr.cell? ⟨w.heap.size + 1, n, none⟩ = some (.int .u32 (ws[n]?.getD 0)) := by rw [cell_ints e1 n (by omega)]; simp
      have c0 : wr.cell? ⟨w.heap.size + 1 + 1 + 1, 0, none⟩ = some (.int .u32 xa) := cell_ints e3 0 (by simp)
      have c1 : wr.cell? ⟨w.heap.size + 1 + 1 + 1, 1, none⟩ = some (.int .u32 xb) := cell_ints e3 1 (by simp)
      have c2 : wr.cell? ⟨w.heap.size + 1 + 1 + 1, 2, none⟩ = some (.int .u32 xc) := cell_ints e3 2 (by simp)
      have c3 : wr.cell? ⟨w.heap.size + 1 + 1 + 1, 3, none⟩ = some (.int .u32 xd) := cell_ints e3 3 (by simp)
      have c4 : wr.cell? ⟨w.heap.size + 1 + 1 + 1, 4, none⟩ = some (.int .u32 xe) := cell_ints e3 4 (by simp)
      have c5 : wr.cell? ⟨w.heap.size + 1 + 1 + 1, 5, none⟩ = some (.int .u32 xf) := cell_ints e3 5 (by simp)
      have c6 : wr.cell? ⟨w.heap.size + 1 + 1 + 1, 6, none⟩ = some (.int .u32 xg) := cell_ints e3 6 (by simp)
      have c7 : wr.cell? ⟨w.heap.size + 1 + 1 + 1, 7, none⟩ = some (.int .u32 xh) := cell_ints e3 7 (by simp)
      have hsg : IntKind.u32.signed = false := rfl
      have HS := hid (show roundsTo [s0, s1, s2, s3, s4, s5, s6, s7] ws (n + 1) = step1 (kTab[n]?.getD 0) (ws[n]?.getD 0) [xa, xb, xc, xd, xe, xf, xg, xh] by rw [roundsTo, HR.out])
      generalize kTab[n]?.getD 0 = kn at *
      generalize ws[n]?.getD 0 = wn at *
      clear hR HE
      go_wp2
      go_region_held3 (fun w' => w'.cell? ⟨w.heap.size + 1 + 1 + 1, 4, none⟩ = some (.int .u32 xe)) (exact c4) (first | (go_at_call 59; refine (rturnI_any _ _ be0 be1 (by decide) (by decide) _).mono ?_; rintro e w' ⟨rfl, rfl⟩))
      go_wp2
      go_region_held3 (fun w' => w'.cell? ⟨w.heap.size + 1 + 1 + 1, 7, none⟩ = some (.int .u32 xh) ∧ w'.cell? ⟨2, n, none⟩ = some (.int .u32 kn) ∧ w'.cell? ⟨w.heap.size + 1, n, none⟩ = some (.int .u32 wn)) (exact ⟨c7, cK, cW⟩) (fail)
      go_wp2
      go_region_held3 (fun w' => w'.cell? ⟨w.heap.size + 1 + 1 + 1, 0, none⟩ = some (.int .u32 xa)) (exact c0) (first | (go_at_call 59; refine (rturnI_any _ _ ba0 ba1 (by decide) (by decide) _).mono ?_; rintro e w' ⟨rfl, rfl⟩))
      have f0 : wr.frozen? ⟨w.heap.size + 1 + 1 + 1, 0, none⟩ = false := frozen_of_row _ _ _ _ _ e3
      have f1 : wr.frozen? ⟨w.heap.size + 1 + 1 + 1, 1, none⟩ = false := frozen_of_row _ _ _ _ _ e3
      have f2 : wr.frozen? ⟨w.heap.size + 1 + 1 + 1, 2, none⟩ = false := frozen_of_row _ _ _ _ _ e3
      have f3 : wr.frozen? ⟨w.heap.size + 1 + 1 + 1, 3, none⟩ = false := frozen_of_row _ _ _ _ _ e3
      have f4 : wr.frozen? ⟨w.heap.size + 1 + 1 + 1, 4, none⟩ = false := frozen_of_row _ _ _ _ _ e3
      have f5 : wr.frozen? ⟨w.heap.size + 1 + 1 + 1, 5, none⟩ = false := frozen_of_row _ _ _ _ _ e3
      have f6 : wr.frozen? ⟨w.heap.size + 1 + 1 + 1, 6, none⟩ = false := frozen_of_row _ _ _ _ _ e3
      have f7 : wr.frozen? ⟨w.heap.size + 1 + 1 + 1, 7, none⟩ = false := frozen_of_row _ _ _ _ _ e3
      have HN : step1 kn wn [xa, xb, xc, xd, xe, xf, xg, xh] = [(xh + high1F xe + pickF xe xf xg + kn + wn + high0F xa + mostF xa xb xc) % 4294967296, xa, xb, xc, (xd + (xh + high1F xe + pickF xe xf xg + kn + wn)) % 4294967296, xe, xf, xg] := by
        simp only [step1, IntKind.wrap_u32]
        congr 1
        · omega
        · congr 4; omega
      simp only [high1F, pickF, high0F, mostF] at HN
      have KN := hid (HS.out.trans HN)
      clear HN HS
      go_wp2
      go_roundw
      case rel =>
        refine ⟨n + 1, _, _, _, _, _, _, _, _, by omega, by go_num, KN, ?_⟩
        have q : Q4 w w.heap.size _ _ _ _ wr := ⟨e0, e1, e2, e3, hB⟩
        show Q4 w w.heap.size (Obj.cells (ints .u32 [s0, s1, s2, s3, s4, s5, s6, s7]).toArray 73) (Obj.cells (ints .u32 ws).toArray 85) (Obj.cells (ints .u32 [0, 0, 0, 0, 0, 0, 0, 0]).toArray 73) [_, xa, xb, xc, _, xe, xf, xg] _
        exact ((((((((q.set 0 _).set 1 xa).set 2 xb).set 3 xc).set 4 _).set 5 xe).set 6 xf).set 7 xg).drew.drew.drew
      case measure => simp [intOf]; omega
    · obtain rfl : n = 64 := by omega
      clear hnl
      have HZ := hid (show List.zipWith (fun x y => IntKind.u32.wrap (x + y)) [xa, xb, xc, xd, xe, xf, xg, xh] [s0, s1, s2, s3, s4, s5, s6, s7] = List.zipWith (fun x y => IntKind.u32.wrap (x + y)) [s0, s1, s2, s3, s4, s5, s6, s7] (roundsTo [s0, s1, s2, s3, s4, s5, s6, s7] ws 64) by
        rw [HR.out, List.zipWith_comm]; congr 1; funext x y; rw [Int.add_comm])
      clear HR HE hR
      go_wp2
      go_loopw [12] (fun i wr => ∃ n : Nat, n ≤ 8 ∧ i = .int .i64 n ∧ Q4 w w.heap.size (Obj.cells (ints .u32 [s0, s1, s2, s3, s4, s5, s6, s7]).toArray 73) (Obj.cells (ints .u32 ws).toArray 85) (Obj.cells (ints .u32 [0, 0, 0, 0, 0, 0, 0, 0]).toArray 73) (addTo [xa, xb, xc, xd, xe, xf, xg, xh] [s0, s1, s2, s3, s4, s5, s6, s7] n) wr) (fun i _ => 8 - (intOf i).toNat)
      case atStart => exact ⟨0, by omega, rfl, e0, e1, e2, e3, hB⟩
      case round =>
        clear e0 e1 e2 e3 hB
        obtain ⟨n, hn, rfl, hq⟩ := hrel
        by_cases hlt : n < 8
        · have i1 : (n : Int) < 8 := by omega
          have cS : wr.cell? ⟨w.heap.size, n, none⟩ = some (.int .u32 ([s0, s1, s2, s3, s4, s5, s6, s7][n]?.getD 0)) := by rw [cell_ints hq.1 n (by simpa using hlt)]; simp
          have cV : wr.cell? ⟨w.heap.size + 1 + 1 + 1, n, none⟩ = some (.int .u32 ([xa, xb, xc, xd, xe, xf, xg, xh][n]?.getD 0)) := by
            rw [cell_ints hq.2.2.2.1 n (by rw [addTo_len _ _ _ rfl rfl hn]; exact hlt), addTo_get _ _ _ rfl rfl hlt]
          have fV : wr.frozen? ⟨w.heap.size + 1 + 1 + 1, n, none⟩ = false := frozen_of_row _ _ _ _ _ hq.2.2.2.1
          have HS := hid (addTo_set [xa, xb, xc, xd, xe, xf, xg, xh] [s0, s1, s2, s3, s4, s5, s6, s7] n rfl rfl hlt)
          generalize [xa, xb, xc, xd, xe, xf, xg, xh][n]?.getD 0 = xn at *
          generalize [s0, s1, s2, s3, s4, s5, s6, s7][n]?.getD 0 = sn at *
          go_wp2
          go_region
          go_wp2
          go_roundw
          case rel => exact ⟨n + 1, by omega, by go_num, (by have := (hq.set n (IntKind.u32.wrap (xn + sn))).drew; rw [HS.out] at this; exact this)⟩
          case measure => simp [intOf]; omega
        · obtain rfl : n = 8 := by omega
          rw [addTo_end _ _ rfl rfl, HZ.out] at hq
          have hz : (List.zipWith (fun x y => IntKind.u32.wrap (x + y)) [s0, s1, s2, s3, s4, s5, s6, s7] (roundsTo [s0, s1, s2, s3, s4, s5, s6, s7] ws 64)).length = 8 := by rw [← HZ.out]; rfl
          clear hlt HZ
          generalize hr : (List.zipWith (fun x y => IntKind.u32.wrap (x + y)) [s0, s1, s2, s3, s4, s5, s6, s7] (roundsTo [s0, s1, s2, s3, s4, s5, s6, s7] ws 64)) = r at *
          obtain ⟨e0, e1, e2, e3, hB⟩ := hq
          have ho := all_oneCell_toArray (ints_one .u32 r)
          have L1 : (Tryd.prog.info? 73).map (·.size) = some (ints .u32 r).toArray.size := by rw [Tryd.size73, ints_size, hz]
          have L2 : (ints .u32 [0, 0, 0, 0, 0, 0, 0, 0]).toArray.size = (ints .u32 r).toArray.size := by rw [ints_size, ints_size, hz]; rfl
          go_wp2_with (first | refine wpList_load_row rfl 73 _ rfl _ rfl 73 _ _ _ e3 Tryd.underlying73 rfl L1 ?_ | refine wpList_store_row rfl 73 _ _ rfl _ _ rfl rfl 73 _ e2 L1 L2 ho ?_)
          exact bodyPost_ret (v := .agg (ints .u32 r).toArray) (results_cell_row Tryd.results49 _ _ (w.heap.size + 1 + 1) 73 _ _ _ rfl (setRow_heap _ _ _ _ _ _ e2) Tryd.underlying73 rfl L1) rfl ⟨by rw [hr], below_setRow hB (by omega) _⟩
end Go.Proofs.YtblcpcfonnaiiaaDoor
