import Derived.Test.YtblcpcfonnaiiaaDoorD1b
namespace Go.Proofs.YtblcpcfonnaiiaaDoor
set_option linter.unusedVariables false
set_option linter.unusedSimpArgs false
open Go.RowKit
attribute [local go_sem ↓] Go.wp_at_zero Go.wp_at_succ

/-- The round constants, the first state. -/
def kTab : List Int := [1116352408, 1899447441, 3049323471, 3921009573, 961987163, 1508970993, 2453635748, 2870763221, 3624381080, 310598401, 607225278, 1426881987, 1925078388, 2162078206, 2614888103, 3248222580, 3835390401, 4022224774, 264347078, 604807628, 770255983, 1249150122, 1555081692, 1996064986, 2554220882, 2821834349, 2952996808, 3210313671, 3336571891, 3584528711, 113926993, 338241895, 666307205, 773529912, 1294757372, 1396182291, 1695183700, 1986661051, 2177026350, 2456956037, 2730485921, 2820302411, 3259730800, 3345764771, 3516065817, 3600352804, 4094571909, 275423344, 430227734, 506948616, 659060556, 883997877, 958139571, 1322822218, 1537002063, 1747873779, 1955562222, 2024104815, 2227730452, 2361852424, 2428436474, 2756734187, 3204031479, 3329325298]
def fTab : List Int := [1779033703, 3144134277, 1013904242, 2773480762, 1359893119, 2600822924, 528734635, 1541459225]
theorem kTab_len : kTab.length = 64 := rfl

def step1 (k x : Int) : List Int → List Int
  | [a, b, c, d, e, f, g, h] => [IntKind.u32.wrap (IntKind.u32.wrap (IntKind.u32.wrap (IntKind.u32.wrap (IntKind.u32.wrap (h + high1F e) + pickF e f g) + k) + x) + IntKind.u32.wrap (high0F a + mostF a b c)), a, b, c, IntKind.u32.wrap (d + IntKind.u32.wrap (IntKind.u32.wrap (IntKind.u32.wrap (IntKind.u32.wrap (h + high1F e) + pickF e f g) + k) + x)), e, f, g]
  | l => l
def roundsTo (st ws : List Int) : Nat → List Int
  | 0 => st
  | n + 1 => step1 (kTab[n]?.getD 0) (ws[n]?.getD 0) (roundsTo st ws n)
theorem list8 (l : List Int) (h : l.length = 8) : ∃ a b c d e f g i, l = [a, b, c, d, e, f, g, i] := by
  match l, h with
  | [a, b, c, d, e, f, g, i], _ => exact ⟨a, b, c, d, e, f, g, i, rfl⟩
def Bd8 (l : List Int) : Prop := ∀ x ∈ l, 0 ≤ x ∧ x ≤ 4294967295
theorem bd8_step (k x : Int) (l : List Int) (hl : l.length = 8) (h : Bd8 l) : Bd8 (step1 k x l) ∧ (step1 k x l).length = 8 := by
  obtain ⟨a, b, c, d, e, f, g, i, rfl⟩ := list8 l hl
  refine ⟨?_, rfl⟩
  intro y hy
  simp only [step1, List.mem_cons, List.not_mem_nil, or_false] at hy
  rcases hy with rfl | rfl | rfl | rfl | rfl | rfl | rfl | rfl
  · exact wrap_bd _
  · exact h _ (by simp)
  · exact h _ (by simp)
  · exact h _ (by simp)
  · exact wrap_bd _
  · exact h _ (by simp)
  · exact h _ (by simp)
  · exact h _ (by simp)
theorem roundsTo_ok (st ws : List Int) (hl : st.length = 8) (h : Bd8 st) : ∀ n, Bd8 (roundsTo st ws n) ∧ (roundsTo st ws n).length = 8
  | 0 => ⟨h, hl⟩
  | n + 1 => bd8_step _ _ _ (roundsTo_ok st ws hl h n).2 (roundsTo_ok st ws hl h n).1
/-- The state behind a block. -/
def mixF (st bs : List Int) : List Int := List.zipWith (fun x y => IntKind.u32.wrap (x + y)) st (roundsTo st (sched bs) 64)

theorem run_index_arr {P : Program} {t e : TypeId} {len : Nat} {kd : IntKind} (ht : P.underlying t = some (.array len e)) (hu : P.underlying e = some (.int kd)) (hs : (P.info? e).map (·.size) = some 1) (cs : Array Value) (n : Nat) (hn : n < len) (v : Value) (hv : cs[n]? = some v) (w : World) :
    (Instr.index t (.agg cs) (.int .i64 n)).run P w = .ok v w := by
  obtain ⟨i, hi⟩ := info_of_underlying hu
  have hc : P.cellsOf e = 1 := by simp [Program.cellsOf, hi] at hs ⊢; exact hs
  have hcond : (0 : Int) ≤ (n : Int) ∧ (n : Int) < (len : Int) := by omega
  simp only [Instr.index, asIntOf, Sem.run_bind, Sem.run_pure, Result.andThen_ok, run_underlying ht, if_pos hcond, run_sizeOf w hi, hc, Nat.mul_one, Int.toNat_natCast]
  exact part_int hu cs n v hv w

/-- The state while the words are added to it. -/
def addTo (st r : List Int) (n : Nat) : List Int := List.zipWith (fun x y => IntKind.u32.wrap (x + y)) (st.take n) (r.take n) ++ st.drop n
theorem addTo_len (st r : List Int) (n : Nat) (h : st.length = 8) (h2 : r.length = 8) (hn : n ≤ 8) : (addTo st r n).length = 8 := by
  simp [addTo, h, h2]; omega
theorem addTo_end (st r : List Int) (h : st.length = 8) (h2 : r.length = 8) : addTo st r 8 = List.zipWith (fun x y => IntKind.u32.wrap (x + y)) st r := by
  simp [addTo, List.take_of_length_le, List.drop_of_length_le, h, h2]
theorem addTo_get (st r : List Int) (n : Nat) (h : st.length = 8) (h2 : r.length = 8) (hn : n < 8) : (addTo st r n).getD n 0 = st[n]?.getD 0 := by
  rw [addTo, List.getD_eq_getElem?_getD, List.getElem?_append_right (by simp; omega)]
  simp [h, h2, show min n 8 = n by omega]
theorem addTo_set (st r : List Int) (n : Nat) (h : st.length = 8) (h2 : r.length = 8) (hn : n < 8) : (addTo st r n).set n (IntKind.u32.wrap (st[n]?.getD 0 + r[n]?.getD 0)) = addTo st r (n + 1) := by
  unfold addTo
  have e : (List.zipWith (fun x y => IntKind.u32.wrap (x + y)) (st.take n) (r.take n)).length = n := by simp [h, h2]; omega
  rw [List.set_append_right _ _ (by omega), e, Nat.sub_self, List.drop_eq_getElem_cons (by omega : n < st.length), List.set_cons_zero,
    List.take_succ_eq_append_getElem (by omega : n < st.length), List.take_succ_eq_append_getElem (by omega : n < r.length), List.zipWith_append (by simp [h, h2]), List.append_assoc]
  simp [h, h2, hn]

set_option maxRecDepth 100000 in
set_option maxHeartbeats 1000000 in
theorem mix_any (st bs : List Int) (hst : st.length = 8) (hb : bs.length = 64) (hbd : Bd8 st) (w : World) (hsz : 4 ≤ w.heap.size) (hK : ∀ j, j < 64 → w.cell? ⟨3, j, none⟩ = some (.int .u32 (kTab[j]?.getD 0))) :
    Calls Tryd.prog 54 #[.agg (ints .u32 st).toArray, .agg (ints .u8 bs).toArray] w fun e w' => e = .returned (.agg (ints .u32 (mixF st bs)).toArray) ∧ Below w.heap.size w w' := by
  have hR := roundsTo_ok st (sched bs) hst hbd
  have HE := hid (show mixF st bs = List.zipWith (fun x y => IntKind.u32.wrap (x + y)) st (roundsTo st (sched bs) 64) from rfl)
  have hsl := sched_len bs
  have hsb : Bd32 (sched bs) := schedTo_bd bs 48
  go_enter Tryd.func54, Tryd.ntmps54
  go_wp2_with (first | refine wpList_load_row rfl 74 _ rfl _ rfl 74 _ _ _ (by exact heap3_mid w _ _ _) Tryd.underlying74 rfl (by rw [Tryd.size74, ints_size, hb]) ?_)
  refine (schedule_any bs hb _).mono ?_
  rintro e w1 ⟨rfl, hb1⟩
  have d0 := hbel hb1 (heap3_old w _ _ _) (by simp; omega)
  have d2 := hbel hb1 (heap3_new w _ _ _) (by simp)
  have hB1 : Below w.heap.size w w1 := (below3 w _ _ _).trans (hb1.mono (by simp; omega))
  have hs1 : w.heap.size + 1 + 1 < w1.heap.size := hlt d2
  clear hb1
  have ho58 := all_oneCell_toArray (ints_one .u32 (sched bs))
  go_wp2_with (first | (refine wpList_store_row rfl 85 _ _ rfl _ _ rfl rfl 85 _ (by exact hnew _ _) (by rw [Tryd.size85, ints_size, hsl]) (by rw [ints_size, hsl]; rfl) ho58 ?_; rw [setRow_alloc]))
  simp only [Act.put, List.setIfInBounds_toArray, List.set_cons_zero, List.set_cons_succ]
  have e0 := hold (o := Obj.cells (ints .u32 (sched bs)).toArray 85) d0
  have e2 := hold (o := Obj.cells (ints .u32 (sched bs)).toArray 85) d2
  have e3 := hnew w1 (Obj.cells (ints .u32 (sched bs)).toArray 85)
  have hB2 : Below w.heap.size w (w1.alloc (Obj.cells (ints .u32 (sched bs)).toArray 85)) := hB1.alloc (by omega) _
  clear d0 d2 hB1 ho58
  generalize w1.alloc (Obj.cells (ints .u32 (sched bs)).toArray 85) = w2 at *
  generalize hM : w1.heap.size = M at *
  clear hM
  obtain ⟨s0, s1, s2, s3, s4, s5, s6, s7, rfl⟩ := list8 st hst
  have c0 : w2.cell? ⟨w.heap.size, 0, none⟩ = some (.int .u32 s0) := cell_ints e0 0 (by simp)
  have c1 : w2.cell? ⟨w.heap.size, 1, none⟩ = some (.int .u32 s1) := cell_ints e0 1 (by simp)
  have c2 : w2.cell? ⟨w.heap.size, 2, none⟩ = some (.int .u32 s2) := cell_ints e0 2 (by simp)
  have c3 : w2.cell? ⟨w.heap.size, 3, none⟩ = some (.int .u32 s3) := cell_ints e0 3 (by simp)
  have c4 : w2.cell? ⟨w.heap.size, 4, none⟩ = some (.int .u32 s4) := cell_ints e0 4 (by simp)
  have c5 : w2.cell? ⟨w.heap.size, 5, none⟩ = some (.int .u32 s5) := cell_ints e0 5 (by simp)
  have c6 : w2.cell? ⟨w.heap.size, 6, none⟩ = some (.int .u32 s6) := cell_ints e0 6 (by simp)
  have c7 : w2.cell? ⟨w.heap.size, 7, none⟩ = some (.int .u32 s7) := cell_ints e0 7 (by simp)
  go_region_held3 (fun w' => w'.cell? ⟨w.heap.size, 0, none⟩ = some (.int .u32 s0) ∧ w'.cell? ⟨w.heap.size, 1, none⟩ = some (.int .u32 s1) ∧ w'.cell? ⟨w.heap.size, 2, none⟩ = some (.int .u32 s2) ∧ w'.cell? ⟨w.heap.size, 3, none⟩ = some (.int .u32 s3)) (go_keep) (fail)
  go_wp2
  go_region_held3 (fun w' => w'.cell? ⟨w.heap.size, 4, none⟩ = some (.int .u32 s4) ∧ w'.cell? ⟨w.heap.size, 5, none⟩ = some (.int .u32 s5) ∧ w'.cell? ⟨w.heap.size, 6, none⟩ = some (.int .u32 s6) ∧ w'.cell? ⟨w.heap.size, 7, none⟩ = some (.int .u32 s7)) (go_keep) (fail)
  clear c0 c1 c2 c3 c4 c5 c6 c7
  go_wp2
  go_loopw [6, 7, 8, 9, 10, 11, 12, 13, 14, 15, 16, 37] (fun a b c d e f g h _ _ _ i wr => ∃ (n : Nat) (xa xb xc xd xe xf xg xh : Int), n ≤ 64 ∧ i = .int .i64 n ∧ a = .int .u32 xa ∧ b = .int .u32 xb ∧ c = .int .u32 xc ∧ d = .int .u32 xd ∧ e = .int .u32 xe ∧ f = .int .u32 xf ∧ g = .int .u32 xg ∧ h = .int .u32 xh ∧ Hid (roundsTo [s0, s1, s2, s3, s4, s5, s6, s7] (sched bs) n = [xa, xb, xc, xd, xe, xf, xg, xh]) ∧ wr.heap[w.heap.size]? = some (Obj.cells (ints .u32 [s0, s1, s2, s3, s4, s5, s6, s7]).toArray 73) ∧ wr.heap[w.heap.size + 1 + 1]? = some (Obj.cells (ints .u32 [0, 0, 0, 0, 0, 0, 0, 0]).toArray 73) ∧ wr.heap[M]? = some (Obj.cells (ints .u32 (sched bs)).toArray 85) ∧ Below w.heap.size w wr) (fun _ _ _ _ _ _ _ _ _ _ _ i _ => 64 - (intOf i).toNat)
  case atStart => exact ⟨0, s0, s1, s2, s3, s4, s5, s6, s7, by omega, rfl, rfl, rfl, rfl, rfl, rfl, rfl, rfl, rfl, rfl, e0, e2, e3, hB2.drew.drew⟩
  case round =>
    clear e0 e2 e3 hB2
    obtain ⟨n, xa, xb, xc, xd, xe, xf, xg, xh, hn, rfl, rfl, rfl, rfl, rfl, rfl, rfl, rfl, rfl, HR, e0, e2, e3, hB⟩ := hrel
    by_cases hlt : n < 64
    · have hr := (hR n).1
      rw [HR.out] at hr
      have ba := hr xa (by simp)
      have be := hr xe (by simp)
      clear hr
      have i1 : (n : Int) < 64 := by omega
      have cK : wr.cell? ⟨3, n, none⟩ = some (.int .u32 (kTab[n]?.getD 0)) := (hB.cell (p := ⟨3, n, none⟩) (by show 3 < w.heap.size; omega)).trans (hK n hlt)
      have cW : wr.cell? ⟨M, n, none⟩ = some (.int .u32 ((sched bs)[n]?.getD 0)) := by rw [cell_ints e3 n (by omega)]; simp
      have K1 := hid (fun w => high1_any xe be.1 be.2 w)
      have K2 := hid (fun w => pick_any xe xf xg w)
      have K3 := hid (fun w => high0_any xa ba.1 ba.2 w)
      have K4 := hid (fun w => most_any xa xb xc w)
      clear ba be hR HE hK hsb hsl
      go_wp2
      go_region_held3 (fun w' => w'.cell? ⟨3, n, none⟩ = some (.int .u32 (kTab[n]?.getD 0)) ∧ w'.cell? ⟨M, n, none⟩ = some (.int .u32 ((sched bs)[n]?.getD 0))) (go_keep) (first | (go_at_call 62; refine (K1.out _).mono ?_; rintro e w' ⟨rfl, rfl⟩) | (go_at_call 63; refine (K2.out _).mono ?_; rintro e w' ⟨rfl, rfl⟩))
      go_wp2_with (first | (go_at_call 64; refine (K3.out _).mono ?_; rintro e w' ⟨rfl, rfl⟩) | (go_at_call 65; refine (K4.out _).mono ?_; rintro e w' ⟨rfl, rfl⟩))
      go_roundw
      case rel => exact ⟨n + 1, _, _, _, _, _, _, _, _, by omega, by go_num, rfl, rfl, rfl, rfl, rfl, rfl, rfl, rfl, (by show roundsTo _ _ (n + 1) = _; rw [roundsTo, HR.out]; rfl), e0, e2, e3, hB.drew⟩
      case measure => simp [intOf]; omega
    · obtain rfl : n = 64 := by omega
      clear hlt
      go_wp2
      obtain ⟨wo, ho⟩ : ∃ wo : World, wo = wr := ⟨_, rfl⟩
      clear ho
      go_loopw [17, 18, 86] (fun _ _ i wr => ∃ n : Nat, n ≤ 8 ∧ i = .int .i64 n ∧ wr.heap[w.heap.size]? = some (Obj.cells (ints .u32 (addTo [s0, s1, s2, s3, s4, s5, s6, s7] [xa, xb, xc, xd, xe, xf, xg, xh] n)).toArray 73) ∧ wr.heap[w.heap.size + 1 + 1]? = some (Obj.cells (ints .u32 [0, 0, 0, 0, 0, 0, 0, 0]).toArray 73) ∧ Below w.heap.size w wr) (fun _ _ i _ => 8 - (intOf i).toNat)
      case atStart => exact ⟨0, by omega, rfl, e0, e2, hB⟩
      case round =>
        clear e0 e2 e3 hB
        obtain ⟨n, hn, rfl, e0, e2, hB⟩ := hrel
        by_cases hlt : n < 8
        · have i1 : (n : Int) < 8 := by omega
          have hix : ∀ w, (Instr.index 73 (.agg #[Value.int IntKind.u32 xa, Value.int IntKind.u32 xb, Value.int IntKind.u32 xc, Value.int IntKind.u32 xd, Value.int IntKind.u32 xe, Value.int IntKind.u32 xf, Value.int IntKind.u32 xg, Value.int IntKind.u32 xh]) (.int .i64 n)).run Tryd.prog w = .ok (.int .u32 ([xa, xb, xc, xd, xe, xf, xg, xh][n]?.getD 0)) w := fun w => run_index_arr Tryd.underlying73 Tryd.underlying72 Tryd.size72 (ints .u32 [xa, xb, xc, xd, xe, xf, xg, xh]).toArray n hlt _ (by have := ints_get .u32 [xa, xb, xc, xd, xe, xf, xg, xh] n hlt; simpa using this) w
          have cS : wr.cell? ⟨w.heap.size, n, none⟩ = some (.int .u32 ([s0, s1, s2, s3, s4, s5, s6, s7][n]?.getD 0)) := by
            rw [cell_ints e0 n (by rw [addTo_len _ _ _ rfl rfl hn]; exact hlt), addTo_get _ _ _ rfl rfl hlt]
          have fS : wr.frozen? ⟨w.heap.size, n, none⟩ = false := frozen_of_row _ _ _ _ _ e0
          have HS := hid (addTo_set [s0, s1, s2, s3, s4, s5, s6, s7] [xa, xb, xc, xd, xe, xf, xg, xh] n rfl rfl hlt)
          generalize hrn : [xa, xb, xc, xd, xe, xf, xg, xh][n]?.getD 0 = rn at *
          generalize hsn : [s0, s1, s2, s3, s4, s5, s6, s7][n]?.getD 0 = sn at *
          clear hrn hsn
          go_wp2
          go_roundw
          case rel => exact ⟨n + 1, by omega, by go_num, (by have := heap_set_ints e0 n (IntKind.u32.wrap (sn + rn)); rw [HS.out] at this; exact this), heap_set_far e2 _ _ (by show w.heap.size + 1 + 1 ≠ w.heap.size; omega), hB.setCell (by simp) _⟩
          case measure => simp [intOf]; omega
        · obtain rfl : n = 8 := by omega
          rw [addTo_end _ _ rfl rfl, ← HR.out, ← HE.out] at e0
          have hz : (mixF [s0, s1, s2, s3, s4, s5, s6, s7] bs).length = 8 := by rw [HE.out, HR.out]; rfl
          have ho := all_oneCell_toArray (ints_one .u32 (mixF [s0, s1, s2, s3, s4, s5, s6, s7] bs))
          clear hlt hR hsb hsl HE HR
          go_wp2_with (first | refine wpList_load_row rfl 73 _ rfl _ rfl 73 _ _ _ e0 Tryd.underlying73 rfl (by rw [Tryd.size73, ints_size, hz]) ?_ | refine wpList_store_row rfl 73 _ _ rfl _ _ rfl rfl 73 _ e2 (by rw [Tryd.size73, ints_size, hz]) (by rw [ints_size, ints_size, hz]; rfl) ho ?_)
          exact bodyPost_ret (v := .agg (ints .u32 (mixF [s0, s1, s2, s3, s4, s5, s6, s7] bs)).toArray) (results_cell_row Tryd.results54 _ _ (w.heap.size + 1 + 1) 73 _ _ _ rfl (setRow_heap _ _ _ _ _ _ e2) Tryd.underlying73 rfl (by rw [Tryd.size73, ints_size, hz])) rfl ⟨rfl, below_setRow hB (by omega) _⟩
end Go.Proofs.YtblcpcfonnaiiaaDoor
