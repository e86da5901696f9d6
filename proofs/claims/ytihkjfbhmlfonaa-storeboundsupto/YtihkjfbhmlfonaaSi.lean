import Derived.Test.YtihkjfbhmlfonaaSh
import Derived.Test.YtihkjfbhmlfonaaBw1
namespace Go.Proofs.Ytihkjfbhmlfonaa.Bo
set_option linter.unusedVariables false
set_option linter.unusedSimpArgs false
open Go.RowKit
attribute [local go_sem ↓] Go.wp_at_zero Go.wp_at_succ

theorem PB.keepsP {w w1 : World} {base B : Nat} {v v1 v2 v3 v4 : Value} {L1 L2 L3 L4 : List Value} {b0 : Nat} {os : List Int} (h : PB w base B v1 v2 v3 v4 L1 L2 L3 L4) (hv : Own w b0 v os) (hk : ∀ k, k < w.heap.size → v.ownBlock ≠ some k → w1.heap[k]? = w.heap[k]?) : PB w1 base B v1 v2 v3 v4 L1 L2 L3 L4 := by
  have hS : ∀ {u : Value} {vs : List Value}, OwnS w base u vs → OwnS w1 base u vs := fun hu => hu.of_heap fun k e => by
    obtain ⟨_, a2, x, a3⟩ := hu.heap k e
    refine hk k a2 fun e2 => ?_
    obtain ⟨_, y, hy⟩ := own_heap5 hv k e2
    exact ne_of_type a3 hy (by decide) rfl
  refine ⟨h.hb, (hk B (hlt h.bk) fun e2 => ?_).trans h.bk, hS h.o1, hS h.o2, hS h.o3, hS h.o4, h.d12, h.d13, h.d14, h.d23, h.d24, h.d34⟩
  obtain ⟨_, y, hy⟩ := own_heap5 hv B e2
  exact ne_of_type h.bk hy (by decide) rfl
set_option maxRecDepth 100000 in
set_option maxHeartbeats 4000000 in
theorem putW_any (w : World) (base B : Nat) (v1 v2 v3 v4 : Value) (L1 L2 L3 L4 : List Value) (h : PB w base B v1 v2 v3 v4 L1 L2 L3 L4) (hN : L1.length ≤ 4000000000000) (hN2 : L2.length = L1.length) (hN3 : L3.length = L1.length) (hN4 : L4.length = L1.length)
    (v : Value) (n : Nat) (os : List Int) (hO : Own w base v os) (hn : os.length = n) (hn1 : n ≤ 4000000) :
    Calls Try.prog 24 #[.pointer (some ⟨B, 0, none⟩), v] w fun e w' => e = .returned (.tuple #[]) ∧ ∃ v1' v2' v3' v4' x2 x3 x4,
      PB w' base B v1' v2' v3' v4' (L1 ++ [v]) (L2 ++ [x2]) (L3 ++ [x3]) (L4 ++ [x4]) ∧
      At w v x2 ∧ At w v x3 ∧ At w v x4 ∧ At w v1 v1' ∧ At w v2 v2' ∧ At w v3 v3' ∧ At w v4 v4' ∧
      (∀ k, k < w.heap.size → v.ownBlock ≠ some k → k ≠ B → v1.ownBlock ≠ some k → v2.ownBlock ≠ some k → v3.ownBlock ≠ some k → v4.ownBlock ≠ some k → w'.heap[k]? = w.heap[k]?) ∧ Below base w w' := by
  obtain ⟨s1, c1, b1, hv1, hvz⟩ := h.o1.at
  clear hvz
  have z1 : w.cell? ⟨B, 0, none⟩ = some (.slice s1 L1.length c1) := by rw [cell_of_row _ _ _ _ _ _ h.bk, ← hv1]; rfl
  have i0 : (n : Int) ≤ 4000000 := by omega
  have i00 : (L1.length : Int) ≤ 4000000000000 := by omega
  have HV1 := hid hv1
  obtain ⟨sp, cap, rfl, hsrc, _⟩ := hO.form
  have hcn := hsrc.1
  have hcm := hsrc.2.1
  clear hsrc
  rw [hn] at hO hcn ⊢
  unfold maxLen at hcm
  have hbB : base ≤ w.heap.size := Nat.le_of_lt (Nat.lt_of_le_of_lt h.hb (hlt h.bk))
  replace hn := hid hn
  replace hbB := hid hbB
  have HO0 := hid hO
  have HH := hid h
  have HN234 := hid (And.intro hN2 (And.intro hN3 hN4))
  clear hv1 h hN2 hN3 hN4
  go_enter Try.func24, Try.ntmps24
  go_wp2_with fail
  refine (mark_any w L1.length (by omega)).mono ?_
  rintro e w0 ⟨rfl, rfl⟩
  generalize hmm : mk L1.length = m at *
  have HM := hid hmm
  clear hmm z1
  go_wp2
  go_loopw [5] (fun i wr => ∃ k : Nat, k ≤ n ∧ i = .int .i64 k ∧ Own wr base (.slice sp n cap) (List.replicate k m ++ os.drop k) ∧ KV w0 base (.slice sp n cap) wr) (fun i _ => n - (intOf i).toNat)
  case atStart => exact ⟨0, by omega, rfl, hO, KV.refl _ _ _⟩
  case round =>
    clear hO
    obtain ⟨k, hk, rfl, hO, hK⟩ := hrel
    by_cases hkn : k < n
    · have i1 : (k : Int) < (n : Int) := by omega
      have hlen : (List.replicate k m ++ os.drop k).length = n := by rw [List.length_append, List.length_replicate, List.length_drop, hn.out]; omega
      obtain ⟨g, rfl, hg, c0, f0, hset⟩ := own_set (m := m) hO (by rw [hlen]; exact hkn)
      have HR := hid (show (List.replicate k m ++ os.drop k).set k m = List.replicate (k + 1) m ++ os.drop (k + 1) by
        have hko : k < os.length := by rw [hn.out]; exact hkn
        rw [List.set_append_right _ _ (by simp), List.length_replicate, Nat.sub_self, List.drop_eq_getElem_cons hko, List.set_cons_zero, List.replicate_succ', List.append_assoc]; rfl)
      replace hlen := hid hlen
      generalize (List.replicate k m ++ os.drop k).getD k 0 = zz at *
      replace hset := hid hset
      replace hO := hid hO
      go_wp2
      go_roundw
      case rel => exact ⟨k + 1, by omega, by go_num, (by rw [← HR.out]; exact hset.out), hK.step (At.self _ _) ((Below.refl _ _).setCell hg _) (fun kk _ q2 => heap_set_ne (show kk ≠ g from fun e => q2 (by rw [e]; rfl)))⟩
      case measure => simp [intOf]; omega
    · obtain rfl : k = n := by omega
      clear hkn
      rw [List.drop_of_length_le (by rw [hn.out]; exact Nat.le_refl _), List.append_nil] at hO
      have hsz0 := hK.1.size
      have KB1 := hid (show k + 1 ≤ 1000000000000 by omega)
      have KB2 := hid (show k + 2 ≤ 1000000000000 by omega)
      have HB := hid (fun (wz : World) (b : KV w0 base (.slice sp k cap) wz) => show base ≤ wz.heap.size from Nat.le_trans hbB.out b.1.size)
      replace hsz0 := hid hsz0
      go_wp2_with (first
        | (at_builtin; refine wpList_growM rfl (.tmp 26) (.tmp 28) rfl base _ k 1 m rfl hO (by decide) rfl KB1.out (HB.out _ hK) _ _ ?_; intro x2 wB O2 bB fB xB sB; have KVB := hK.step (At.self _ _) bB fB; have A2 := (At.self w0 (.slice sp k cap)).step hsz0.out xB; have OB := sB _ _ _ hO; clear bB fB xB sB)
        | (at_builtin; refine wpList_growM rfl (.tmp 30) (.tmp 33) rfl base _ k 2 m rfl OB (by decide) rfl KB2.out (HB.out _ KVB) _ _ ?_; intro x3 wC O3 bC fC xC sC; have KVC := KVB.step (At.self _ _) bC fC; have A3 := (At.self w0 (.slice sp k cap)).step KVB.1.size xC; have OC := sC _ _ _ OB; have O2C := sC _ _ _ O2; clear bC fC xC sC)
        | (at_builtin; refine wpList_growM rfl (.tmp 35) (.tmp 37) rfl base _ k 1 m rfl OC (by decide) rfl KB1.out (HB.out _ KVC) _ _ ?_; intro x4 wD O4 bD fD xD sD; have KVD := KVC.step (At.self _ _) bD fD; have A4 := (At.self w0 (.slice sp k cap)).step KVC.1.size xD; have OD := sD _ _ _ OC; have O2D := sD _ _ _ O2C; have O3D := sD _ _ _ O3; clear bD fD xD sD))
      clear OB OC O2 O2C O3 hO hK KVB KVC
      go_loopw [8, 9] (fun x j wr => ∃ t : Nat, t ≤ 299 ∧ j = .int .i64 (1 + t : Nat) ∧ Own wr base x (List.replicate (k + 1 + t) m) ∧ KV w0 base (.slice sp k cap) wr ∧ At w0 (.slice sp k cap) x ∧ Fu m wD wr) (fun _ j _ => 300 - (intOf j).toNat)
      case atStart => exact ⟨0, by omega, rfl, O4, KVD, A4, fun _ _ _ q => q⟩
      case round =>
        clear O4 KVD A4
        obtain ⟨t, ht, rfl, hX, hK, hA4, hF⟩ := hrel
        by_cases htn : t < 299
        · have i1 : ((1 + t : Nat) : Int) < 300 := by omega
          have HT := hid (show k + 1 + (t + 1) = k + 1 + t + 1 by omega)
          have KL := hid (show k + 1 + t + 1 ≤ 1000000000000 by omega)
          obtain ⟨tt, htt⟩ : ∃ tt, tt = 1 + t := ⟨_, rfl⟩
          rw [← htt]
          rw [← htt] at i1
          have Htt := hid htt
          clear htt
          go_wp2_with (first | (at_builtin; refine wpList_growM rfl (.tmp 43) (.tmp 45) rfl base _ (k + 1 + t) 1 m rfl hX (by decide) rfl KL.out (HB.out _ hK) _ _ ?_; intro x5 wM hX2 bM fM xM sM; have hK2 := hK.step hA4 bM fM; have hA5 := hA4.step hK.1.size xM; have hF2 : Fu m wD wM := fun b u q r => sM b u q (hF b u q r)))
          go_roundw
          case rel => exact ⟨t + 1, by omega, by have := Htt.out; rw [show 1 + (t + 1) = tt + 1 by omega]; go_num, (by rw [HT.out]; exact hX2), hK2, hA5, hF2⟩
          case measure => have := Htt.out; simp [intOf]; omega
        · obtain rfl : t = 299 := by omega
          clear htn
          have hO4 : Own wr base u8 (List.replicate (k + 300) m) := hX
          have PE := HH.out.keepsP HO0.out hK.2
          have hO1 := hF _ _ _ OD
          have hO2 := hF _ _ _ O2D
          have hO3 := hF _ _ _ O3D
          have fl1 : FL wr (.slice sp k cap) m k := FL.of_own hO1
          have fl2 := FL.of_own hO2
          have fl3 := FL.of_own hO3
          have fl4 := FL.of_own hO4
          obtain ⟨y2, cy2, rfl⟩ := fl2.form
          obtain ⟨y3, cy3, rfl⟩ := fl3.form
          obtain ⟨y4, cy4, rfl⟩ := fl4.form
          have KX1 := hid (show (Value.slice sp k cap).oneCell' = true from rfl)
          have KX2 := hid (show (Value.slice y2 (k + 1) cy2).oneCell' = true from rfl)
          have KX3 := hid (show (Value.slice y3 (k + 2) cy3).oneCell' = true from rfl)
          have KX4 := hid (show (Value.slice y4 (k + 300) cy4).oneCell' = true from rfl)
          obtain ⟨ln2, ln3, ln4⟩ := HN234.out
          have KL1 := hid (show L1.length + [(Value.slice sp k cap)].length ≤ 5000000000000 by simp; omega)
          have KL2 := hid (show L2.length + [(Value.slice y2 (k + 1) cy2)].length ≤ 5000000000000 by rw [ln2]; simp; omega)
          have KL3 := hid (show L3.length + [(Value.slice y3 (k + 2) cy3)].length ≤ 5000000000000 by rw [ln3]; simp; omega)
          have KL4 := hid (show L4.length + [(Value.slice y4 (k + 300) cy4)].length ≤ 5000000000000 by rw [ln4]; simp; omega)
          have BE : Below base w0 wr := hK.1
          have KB := hid (fun (wz : World) (b : Below base w0 wz) => show base ≤ wz.heap.size from Nat.le_trans hbB.out b.size)
          have cE : wr.cell? ⟨B, 0, none⟩ = some v1 := by rw [cell_of_row _ _ _ _ _ _ PE.bk]; rfl
          have Hfl := hid (And.intro fl1 (And.intro fl2 (And.intro fl3 fl4)))
          have HAt := hid (And.intro A2 (And.intro A3 hA4))
          replace hK := hid hK
          have HPE := hid PE
          clear fl1 fl2 fl3 fl4 hX hO4 hF OD O2D O3D hO1 hO2 hO3 ln2 ln3 ln4 A2 A3 hA4
          go_wp2_with (first
        | (at_builtin; refine wpList_pushS rfl (.tmp 51) (.tmp 53) rfl base _ _ [.slice sp k cap] rfl PE.o1 rfl (by intro y hy; rw [List.mem_singleton.1 hy]; exact KX1.out) KL1.out (KB.out _ BE) _ _ ?_; intro v1' w1F q1 q2 q3 q4; obtain ⟨e1, P1, F1⟩ := PE.push1 q1 q2 q3 q4; have T1 := q4; obtain ⟨sa1, ca1, bz1, hva1, hz1⟩ := q1.at; clear hz1; have BL1 := BE.trans F1.1; clear q1 q2 q3 q4; have cc1 : w1F.cell? ⟨B, 0, none⟩ = some v1 := (by rw [cell_of_row _ _ _ _ _ _ e1]; rfl); have ff1 : w1F.frozen? ⟨B, 0, none⟩ = false := frozen_of_row _ _ _ _ _ e1; have cn1 : (w1F.setCell ⟨B, 0, none⟩ v1').cell? ⟨B, 1, none⟩ = some v2 := (by rw [cell_of_row _ _ _ _ _ _ P1.bk]; rfl); have cm1 : w1F.cell? ⟨B, 1, none⟩ = some v2 := (by rw [cell_of_row _ _ _ _ _ _ e1]; rfl); simp only [List.length_append, List.length_cons, List.length_nil, Nat.zero_add] at hva1; subst hva1)
        | (at_builtin; refine wpList_pushS rfl (.tmp 61) (.tmp 63) rfl base _ _ [.slice y2 (k + 1) cy2] rfl P1.o2 (by rw [World.size_setCell]; rfl) (by intro y hy; rw [List.mem_singleton.1 hy]; exact KX2.out) KL2.out (KB.out _ BL1) _ _ ?_; intro v2' w2F q1 q2 q3 q4; obtain ⟨e2, P2, F2⟩ := P1.push2 q1 q2 q3 q4; have T2 := q4; obtain ⟨sa2, ca2, bz2, hva2, hz2⟩ := q1.at; clear hz2; have BL2 := BL1.trans F2.1; clear q1 q2 q3 q4; have cc2 : w2F.cell? ⟨B, 1, none⟩ = some v2 := (by rw [cell_of_row _ _ _ _ _ _ e2]; rfl); have ff2 : w2F.frozen? ⟨B, 1, none⟩ = false := frozen_of_row _ _ _ _ _ e2; have cn2 : (w2F.setCell ⟨B, 1, none⟩ v2').cell? ⟨B, 2, none⟩ = some v3 := (by rw [cell_of_row _ _ _ _ _ _ P2.bk]; rfl); have cm2 : w2F.cell? ⟨B, 2, none⟩ = some v3 := (by rw [cell_of_row _ _ _ _ _ _ e2]; rfl); simp only [List.length_append, List.length_cons, List.length_nil, Nat.zero_add] at hva2; subst hva2)
        | (at_builtin; refine wpList_pushS rfl (.tmp 71) (.tmp 73) rfl base _ _ [.slice y3 (k + 2) cy3] rfl P2.o3 (by rw [World.size_setCell]; rfl) (by intro y hy; rw [List.mem_singleton.1 hy]; exact KX3.out) KL3.out (KB.out _ BL2) _ _ ?_; intro v3' w3F q1 q2 q3 q4; obtain ⟨e3, P3, F3⟩ := P2.push3 q1 q2 q3 q4; have T3 := q4; obtain ⟨sa3, ca3, bz3, hva3, hz3⟩ := q1.at; clear hz3; have BL3 := BL2.trans F3.1; clear q1 q2 q3 q4; have cc3 : w3F.cell? ⟨B, 2, none⟩ = some v3 := (by rw [cell_of_row _ _ _ _ _ _ e3]; rfl); have ff3 : w3F.frozen? ⟨B, 2, none⟩ = false := frozen_of_row _ _ _ _ _ e3; have cn3 : (w3F.setCell ⟨B, 2, none⟩ v3').cell? ⟨B, 3, none⟩ = some v4 := (by rw [cell_of_row _ _ _ _ _ _ P3.bk]; rfl); have cm3 : w3F.cell? ⟨B, 3, none⟩ = some v4 := (by rw [cell_of_row _ _ _ _ _ _ e3]; rfl); simp only [List.length_append, List.length_cons, List.length_nil, Nat.zero_add] at hva3; subst hva3)
        | (at_builtin; refine wpList_pushS rfl (.tmp 81) (.tmp 83) rfl base _ _ [.slice y4 (k + 300) cy4] rfl P3.o4 (by rw [World.size_setCell]; rfl) (by intro y hy; rw [List.mem_singleton.1 hy]; exact KX4.out) KL4.out (KB.out _ BL3) _ _ ?_; intro v4' w4F q1 q2 q3 q4; obtain ⟨e4, P4, F4⟩ := P3.push4 q1 q2 q3 q4; have T4 := q4; obtain ⟨sa4, ca4, bz4, hva4, hz4⟩ := q1.at; clear hz4; have BL4 := BL3.trans F4.1; clear q1 q2 q3 q4; have cc4 : w4F.cell? ⟨B, 3, none⟩ = some v4 := (by rw [cell_of_row _ _ _ _ _ _ e4]; rfl); have ff4 : w4F.frozen? ⟨B, 3, none⟩ = false := frozen_of_row _ _ _ _ _ e4; simp only [List.length_append, List.length_cons, List.length_nil, Nat.zero_add] at hva4; subst hva4))
          have z0 := hK.out.1.size
          have z1 := F1.1.size
          have z2 := F2.1.size
          have z3 := F3.1.size
          obtain ⟨t2, t3, t4⟩ := HAt.out
          go_end0
          refine ⟨rfl, _, _, _, _, _, _, _, P4, t2, t3, t4, fresh_le T1 (by omega), fresh_le T2 (by omega), fresh_le T3 (by omega), fresh_le T4 (by omega), fun q a1 a2 a3 a4 a5 a6 a7 => ?_, BL4⟩
          rw [F4.2 q (by omega) a3 a7, F3.2 q (by omega) a3 a6, F2.2 q (by omega) a3 a5, F1.2 q (by omega) a3 a4, hK.out.2 q a1 a2]
end Go.Proofs.Ytihkjfbhmlfonaa.Bo
namespace Go.Proofs.Ytihkjfbhmlfonaa
set_option linter.unusedVariables false
set_option linter.unusedSimpArgs false
open Go.RowKit
open Go.Proofs.Ytihkjfbhmlfonaa.Ca (Ct ct0 ctC argV AS)
attribute [local go_sem ↓] Go.wp_at_zero Go.wp_at_succ

/-! The law's own world in memory. -/
structure Wr where
  g : Nat
  B : Nat
  v1 : Value
  v2 : Value
  v3 : Value
  v4 : Value
  L1 : List Value
  L2 : List Value
  L3 : List Value
  L4 : List Value
  sl : Value
  wl : Value
  Ss : List Value
  Ws : List Value
  room : Value
  zr : List Int
  turn : Nat
def wrC (B : Nat) (sl wl room : Value) (turn : Int) : Array Value := #[.slice none 0 0, .slice none 0 0, .pointer (some ⟨B, 0, none⟩), sl, wl, .int .i64 turn, room]
def Wr.fp (W : Wr) : List Nat := W.g :: W.B :: (W.v1.ownBlock.toList ++ (W.v2.ownBlock.toList ++ (W.v3.ownBlock.toList ++ (W.v4.ownBlock.toList ++ (W.sl.ownBlock.toList ++ (W.wl.ownBlock.toList ++ W.room.ownBlock.toList))))))
theorem Wr.mem (W : Wr) (k : Nat) : k ∈ W.fp ↔ (k = W.g ∨ k = W.B ∨ W.v1.ownBlock = some k ∨ W.v2.ownBlock = some k ∨ W.v3.ownBlock = some k ∨ W.v4.ownBlock = some k ∨ W.sl.ownBlock = some k ∨ W.wl.ownBlock = some k ∨ W.room.ownBlock = some k) := by
  simp only [Wr.fp, List.mem_cons, List.mem_append, Option.mem_toList]
structure WO (w : World) (base : Nat) (W : Wr) (c : Nat) : Prop where
  hg : base ≤ W.g
  row : w.heap[W.g]? = some (.cells (wrC W.B W.sl W.wl W.room W.turn) 38 (0, 0))
  pb : Bo.PB w base W.B W.v1 W.v2 W.v3 W.v4 W.L1 W.L2 W.L3 W.L4
  st : Bo.OwnS w base W.sl W.Ss
  wt : Bo.OwnS w base W.wl W.Ws
  dsw : Bo.Dj W.sl W.wl
  ds1 : Bo.Dj W.sl W.v1
  ds2 : Bo.Dj W.sl W.v2
  ds3 : Bo.Dj W.sl W.v3
  ds4 : Bo.Dj W.sl W.v4
  dw1 : Bo.Dj W.wl W.v1
  dw2 : Bo.Dj W.wl W.v2
  dw3 : Bo.Dj W.wl W.v3
  dw4 : Bo.Dj W.wl W.v4
  rm : Own w base W.room W.zr
  rz : W.zr = [] ∨ W.zr.length = 600
  l1 : W.L1.length ≤ c
  l2 : W.L2.length = W.L1.length
  l3 : W.L3.length = W.L1.length
  l4 : W.L4.length = W.L1.length
  ls : W.Ss.length ≤ c
  lw : W.Ws.length ≤ c
  tu : W.turn ≤ c
theorem WO.keep {w w1 : World} {base : Nat} {W : Wr} {c : Nat} (h : WO w base W c) (hk : ∀ k ∈ W.fp, w1.heap[k]? = w.heap[k]?) : WO w1 base W c := by
  have hm : ∀ k, (k = W.g ∨ k = W.B ∨ W.v1.ownBlock = some k ∨ W.v2.ownBlock = some k ∨ W.v3.ownBlock = some k ∨ W.v4.ownBlock = some k ∨ W.sl.ownBlock = some k ∨ W.wl.ownBlock = some k ∨ W.room.ownBlock = some k) → w1.heap[k]? = w.heap[k]? := fun k q => hk k ((W.mem k).2 q)
  exact ⟨h.hg, (hm W.g (by simp)).trans h.row, ⟨h.pb.hb, (hm W.B (by simp)).trans h.pb.bk, h.pb.o1.of_heap fun k e => hm k (by simp [e]), h.pb.o2.of_heap fun k e => hm k (by simp [e]), h.pb.o3.of_heap fun k e => hm k (by simp [e]), h.pb.o4.of_heap fun k e => hm k (by simp [e]), h.pb.d12, h.pb.d13, h.pb.d14, h.pb.d23, h.pb.d24, h.pb.d34⟩, h.st.of_heap fun k e => hm k (by simp [e]), h.wt.of_heap fun k e => hm k (by simp [e]), h.dsw, h.ds1, h.ds2, h.ds3, h.ds4, h.dw1, h.dw2, h.dw3, h.dw4, h.rm.of_heap fun k e => hm k (by simp [e]), h.rz, h.l1, h.l2, h.l3, h.l4, h.ls, h.lw, h.tu⟩
theorem WO.more {w : World} {base : Nat} {W : Wr} {c : Nat} (h : WO w base W c) (d : Nat) (hd : c ≤ d) : WO w base W d := ⟨h.hg, h.row, h.pb, h.st, h.wt, h.dsw, h.ds1, h.ds2, h.ds3, h.ds4, h.dw1, h.dw2, h.dw3, h.dw4, h.rm, h.rz, Nat.le_trans h.l1 hd, h.l2, h.l3, h.l4, Nat.le_trans h.ls hd, Nat.le_trans h.lw hd, Nat.le_trans h.tu hd⟩
theorem WO.ty {w : World} {base : Nat} {W : Wr} {c : Nat} (h : WO w base W c) {k : Nat} (hk : k ∈ W.fp) : base ≤ k ∧ k < w.heap.size ∧ ((∃ cs t, w.heap[k]? = some (.cells cs t (0, 0)) ∧ (t = 38 ∨ t = 33 ∨ t = 36)) ∨ W.room.ownBlock = some k) := by
  have hS : ∀ {u : Value} {us : List Value}, Bo.OwnS w base u us → u.ownBlock = some k → base ≤ k ∧ k < w.heap.size ∧ ((∃ cs t, w.heap[k]? = some (.cells cs t (0, 0)) ∧ (t = 38 ∨ t = 33 ∨ t = 36)) ∨ W.room.ownBlock = some k) := fun hu e => by
    obtain ⟨a1, a2, x, a3⟩ := hu.heap k e
    exact ⟨a1, a2, Or.inl ⟨x, _, a3, Or.inr (Or.inr rfl)⟩⟩
  rcases (W.mem k).1 hk with e | e | e | e | e | e | e | e | e
  · exact ⟨e ▸ h.hg, e ▸ hlt_ h.row, Or.inl ⟨_, _, e ▸ h.row, Or.inl rfl⟩⟩
  · exact ⟨e ▸ h.pb.hb, e ▸ hlt_ h.pb.bk, Or.inl ⟨_, _, e ▸ h.pb.bk, Or.inr (Or.inl rfl)⟩⟩
  · exact hS h.pb.o1 e
  · exact hS h.pb.o2 e
  · exact hS h.pb.o3 e
  · exact hS h.pb.o4 e
  · exact hS h.st e
  · exact hS h.wt e
  · obtain ⟨a1, cs, a2⟩ := ownsRow_block h.rm k e
    exact ⟨a1, hlt_ a2, Or.inr e⟩
/-- Blocks of the law's own kinds are none of the store's. -/
theorem SK.off_ty {w : World} {base : Nat} {S : Sto} (h : SK w base S) {k : Nat} {cs : Array Value} {t : TypeId} (hc : w.heap[k]? = some (.cells cs t (0, 0))) (ht : t = 38 ∨ t = 33 ∨ t = 36 ∨ t = 41 ∨ t = 58 ∨ t = 43 ∨ t = 46) : k ∉ S.fp := by
  intro hk
  rcases (Sto.mem S k).1 hk with e | e | e | e | e | e
  · subst e; exact ne_ty hc h.fk (by rcases ht with r | r | r | r | r | r | r <;> rw [r] <;> decide) rfl
  · subst e; exact ne_ty hc h.sk (by rcases ht with r | r | r | r | r | r | r <;> rw [r] <;> decide) rfl
  · exact h.da.not_in hc (by rcases ht with r | r | r | r | r | r | r <;> rw [r] <;> decide) (by rcases ht with r | r | r | r | r | r | r <;> rw [r] <;> decide) (by rcases ht with r | r | r | r | r | r | r <;> rw [r] <;> decide) e
  · exact h.ca.not_in hc (by rcases ht with r | r | r | r | r | r | r <;> rw [r] <;> decide) (by rcases ht with r | r | r | r | r | r | r <;> rw [r] <;> decide) e
  · obtain ⟨_, cs2, hc2⟩ := h.lb k e
    exact ne_ty hc hc2 (by rcases ht with r | r | r | r | r | r | r <;> rw [r] <;> decide) rfl
  · obtain ⟨_, cs2, hc2⟩ := h.sv_ty e
    exact ne_ty hc hc2 (by rcases ht with r | r | r | r | r | r | r <;> rw [r] <;> decide) rfl
def RmO (W : Wr) (S : Sto) : Prop := ∀ k, W.room.ownBlock = some k → k ∉ S.fp
theorem WO.off {w : World} {base : Nat} {W : Wr} {c : Nat} {S : Sto} (h : WO w base W c) (hs : SK w base S) (hr : RmO W S) {k : Nat} (hk : k ∈ W.fp) : k ∉ S.fp := by
  obtain ⟨_, _, ⟨cs, t, a, b⟩ | e⟩ := h.ty hk
  · exact hs.off_ty a (by rcases b with r | r | r <;> simp [r])
  · exact hr k e
theorem Sb.keep {w w1 : World} {base : Nat} {S : Sto} {n : Nat} {o : Sup} {L : List (Int × List Int)} {b rm : Nat} (h : Sb w base S n o L b rm) (hk : ∀ k ∈ S.fp, w1.heap[k]? = w.heap[k]?) (hs : w.heap.size ≤ w1.heap.size) : Sb w1 base S n o L b rm :=
  ⟨⟨h.sx.sk.of_heap (fun k q => hk k ((Sto.mem S k).2 (by rcases q with q | q | q | q | q | q <;> simp [q]))) hs, h.sx.hs, h.sx.nx, h.sx.lv, h.sx.ar, h.sx.N, h.sx.rd, h.sx.wr, h.sx.sy, h.sx.ge, h.sx.ep⟩, h.fit, h.geb, h.n64, h.room⟩
/-! Answers and steps, as they lie in memory. -/
def opC (kd at_ n m : Int) (rv : Value) (bt : Nat) : Array Value := #[.int .i64 kd, .int .i64 at_, .int .i64 n, .int .i64 m, rv, .int .u32 bt]
def anC (E N : Int) (rv : Value) (s : Sup) (t1 t2 t3 t4 t5 : Int) : Array Value := #[.int .i64 E, .int .i64 N, .bool false, rv, .int .i64 s.wd, .int .i64 s.ge, .int .i64 s.ma, .int .i64 s.hd, .int .i64 s.pg, .int .i64 t1, .int .i64 t2, .int .i64 t3, .int .i64 t4, .int .i64 t5, .int .i64 0, .int .i64 0, .int .i64 0, .int .i64 0]
def anZ : Array Value := anC 0 0 (.slice none 0 0) sup0 0 0 0 0 0
theorem box_Op (kd at_ n m : Int) (sp : Option Addr) (l c bt : Nat) (w : World) : (Instr.box 41 (.agg (opC kd at_ n m (.slice sp l c) bt))).run Try.prog w = .ok (.pointer (some ⟨w.heap.size, 0, none⟩)) (w.alloc (.cells (opC kd at_ n m (.slice sp l c) bt) 41)) := by kernel_rfl
theorem wpList_box_Op {w : World} {ops : Array Oper} {rest : List Oper} {o : Oper} {a : Act} {Q : Exit → Act → World → Prop} (hg : o.guard = none) (x : Operand) (ho : o.op = .box 41 x) (kd at_ n m : Int) (sp : Option Addr) (l c bt : Nat) (hx : a.eval x = .agg (opC kd at_ n m (.slice sp l c) bt))
    (h : wpList Try.prog ops Q rest (a.put o.dst (.pointer (some ⟨w.heap.size, 0, none⟩))) (w.alloc (.cells (opC kd at_ n m (.slice sp l c) bt) 41))) : wpList Try.prog ops Q (o :: rest) a w := by
  refine wpList_plain hg fun K hK => ?_
  unfold Oper.wp execOp
  simp only [ho, hx, Sem.run_bind, box_Op, Result.andThen_ok, Sem.run_pure]
  exact hK _ _ h
theorem size_Ans : (Try.prog.info? 58).map (·.size) = some 18 := by kernel_rfl
theorem anN (E N : Int) (rv : Value) (s : Sup) (t1 t2 t3 t4 t5 : Int) : (Try.prog.info? 58).map (·.size) = some (anC E N rv s t1 t2 t3 t4 t5).size := by rw [size_Ans]; rfl
theorem anO (E N : Int) (sp : Option Addr) (l c : Nat) (s : Sup) (t1 t2 t3 t4 t5 : Int) : (anC E N (.slice sp l c) s t1 t2 t3 t4 t5).all (·.oneCell') = true := by simp [anC, Value.oneCell']
theorem bB_0 (E : Int) (w : World) : (Instr.build 58 #[(0, .int .i64 E)]).run Try.prog w = .ok (.agg (anC E 0 (.slice none 0 0) sup0 0 0 0 0 0)) w := by kernel_rfl
theorem bB_1 (N : Int) (w : World) : (Instr.build 58 #[(1, .int .i64 N)]).run Try.prog w = .ok (.agg (anC 0 N (.slice none 0 0) sup0 0 0 0 0 0)) w := by kernel_rfl
theorem bB_4 (s : Sup) (w : World) : (Instr.build 58 #[(4, .agg (supC s))]).run Try.prog w = .ok (.agg (anC 0 0 (.slice none 0 0) s 0 0 0 0 0)) w := by kernel_rfl
theorem bB_5 (t1 t2 t3 t4 t5 : Int) (w : World) : (Instr.build 58 #[(5, .agg #[.int .i64 t1, .int .i64 t2, .int .i64 t3, .int .i64 t4, .int .i64 t5])]).run Try.prog w = .ok (.agg (anC 0 0 (.slice none 0 0) sup0 t1 t2 t3 t4 t5)) w := by kernel_rfl
theorem bB_01 (E N : Int) (w : World) : (Instr.build 58 #[(0, .int .i64 E), (1, .int .i64 N)]).run Try.prog w = .ok (.agg (anC E N (.slice none 0 0) sup0 0 0 0 0 0)) w := by kernel_rfl
theorem bB_013 (E N : Int) (sp : Option Addr) (l c : Nat) (w : World) : (Instr.build 58 #[(0, .int .i64 E), (1, .int .i64 N), (3, .slice sp l c)]).run Try.prog w = .ok (.agg (anC E N (.slice sp l c) sup0 0 0 0 0 0)) w := by kernel_rfl
theorem wpList_build1 {w : World} {ops : Array Oper} {rest : List Oper} {o : Oper} {a : Act} {Q : Exit → Act → World → Prop} (hg : o.guard = none) (f : Nat) (x : Operand) (ho : o.op = .build 58 #[(f, x)]) (y : Value) (hx : a.eval x = y) (r : Array Value) (hr : ∀ w : World, (Instr.build 58 #[(f, y)]).run Try.prog w = .ok (.agg r) w)
    (h : wpList Try.prog ops Q rest (a.put o.dst (.agg r)) w) : wpList Try.prog ops Q (o :: rest) a w := by
  refine wpList_plain hg fun K hK => ?_
  unfold Oper.wp execOp
  simp only [ho, List.map_toArray, List.map_cons, List.map_nil, hx, Sem.run_bind, hr, Result.andThen_ok, Sem.run_pure]
  exact hK _ _ h
theorem wpList_build2 {w : World} {ops : Array Oper} {rest : List Oper} {o : Oper} {a : Act} {Q : Exit → Act → World → Prop} (hg : o.guard = none) (f f2 : Nat) (x x2 : Operand) (ho : o.op = .build 58 #[(f, x), (f2, x2)]) (y y2 : Value) (hx : a.eval x = y) (hx2 : a.eval x2 = y2) (r : Array Value) (hr : ∀ w : World, (Instr.build 58 #[(f, y), (f2, y2)]).run Try.prog w = .ok (.agg r) w)
    (h : wpList Try.prog ops Q rest (a.put o.dst (.agg r)) w) : wpList Try.prog ops Q (o :: rest) a w := by
  refine wpList_plain hg fun K hK => ?_
  unfold Oper.wp execOp
  simp only [ho, List.map_toArray, List.map_cons, List.map_nil, hx, hx2, Sem.run_bind, hr, Result.andThen_ok, Sem.run_pure]
  exact hK _ _ h
theorem wpList_build3 {w : World} {ops : Array Oper} {rest : List Oper} {o : Oper} {a : Act} {Q : Exit → Act → World → Prop} (hg : o.guard = none) (f f2 f3 : Nat) (x x2 x3 : Operand) (ho : o.op = .build 58 #[(f, x), (f2, x2), (f3, x3)]) (y y2 y3 : Value) (hx : a.eval x = y) (hx2 : a.eval x2 = y2) (hx3 : a.eval x3 = y3) (r : Array Value) (hr : ∀ w : World, (Instr.build 58 #[(f, y), (f2, y2), (f3, y3)]).run Try.prog w = .ok (.agg r) w)
    (h : wpList Try.prog ops Q rest (a.put o.dst (.agg r)) w) : wpList Try.prog ops Q (o :: rest) a w := by
  refine wpList_plain hg fun K hK => ?_
  unfold Oper.wp execOp
  simp only [ho, List.map_toArray, List.map_cons, List.map_nil, hx, hx2, hx3, Sem.run_bind, hr, Result.andThen_ok, Sem.run_pure]
  exact hK _ _ h
/-- The world ahead of a step's own doing: the step lies in a block, an answer in the next. -/
structure Pn (w w2 : World) (oc : Array Value) : Prop where
  bl : Below w.heap.size w w2
  sz : w2.heap.size = w.heap.size + 2
  op : w2.heap[w.heap.size]? = some (.cells oc 41 (0, 0))
  an : w2.heap[w.heap.size + 1]? = some (.cells anZ 58 (0, 0))
theorem Pn.mk' (w : World) (oc : Array Value) : Pn w ((w.alloc (.cells oc 41)).alloc (.cells anZ 58)) oc := by
  have s1 : (w.alloc (.cells oc 41)).heap.size = w.heap.size + 1 := by simp
  refine ⟨(below_new w _).trans ((below_new _ _).mono (by omega)), by simp, hold (hnew w _), ?_⟩
  rw [← s1]; exact hnew _ _
/-- What a step leaves. -/
def OneP (w : World) (base : Nat) (S : Sto) (n rm b : Nat) (kd : Int) (W : Wr) (c : Nat) (e : Ending) (w' : World) : Prop := ∃ S' W' E N rv s t1 t2 t3 t4 t5, e = .returned (.agg (anC E N rv s t1 t2 t3 t4 t5)) ∧ rv.oneCell' = true ∧
  (∃ o' L', Sb w' base S' n o' L' (b + 200) rm) ∧ StB kd E S S' ∧ WO w' base W' (c + 1) ∧ RmO W' S' ∧ W'.g = W.g ∧ Below base w w' ∧ Fr (S.fp ++ W.fp) w w'
theorem one_fin {w w2 w3 : World} {base : Nat} {S S' : Sto} {n rm b c : Nat} {o : Sup} {L : List (Int × List Int)} {kd E : Int} {W : Wr} {oc : Array Value} (h : Sb w base S n o L b rm) (hW : WO w base W c) (hr : RmO W S) (hP : Pn w w2 oc) (hO : OutS w2 base S n rm b kd E S' w3) (cs : Array Value) :
    (∃ o' L', Sb (w3.setRow (w.heap.size + 1) cs) base S' n o' L' (b + 200) rm) ∧ WO (w3.setRow (w.heap.size + 1) cs) base W (c + 1) ∧ RmO W S' ∧ Below base w (w3.setRow (w.heap.size + 1) cs) ∧ Fr (S.fp ++ W.fp) w (w3.setRow (w.heap.size + 1) cs) := by
  obtain ⟨⟨o', L', hS⟩, hB, hb, hf, hg⟩ := hO
  have hbw := h.sx.sk.base
  have hsz := hP.sz
  have ne1 : ∀ k ∈ S'.fp, k ≠ w.heap.size + 1 := fun k hk => by
    rcases hg k hk with q | q
    · have := (h.sx.sk.fp_lt q).2; omega
    · omega
  have old : ∀ k, k < w.heap.size → k ∉ S.fp → (w3.setRow (w.heap.size + 1) cs).heap[k]? = w.heap[k]? := fun k a q => (setRow_other _ _ _ _ (by omega)).trans ((hf.block k (by omega) q).trans (hP.bl.block k a))
  refine ⟨⟨o', L', hS.keep (fun k hk => setRow_other _ _ _ _ (ne1 k hk)) (by rw [size_setRow]; exact Nat.le_refl _)⟩, (hW.keep fun k hk => old k (hW.ty hk).2.1 (hW.off h.sx.sk hr hk)).more _ (by omega), fun k e q => ?_, ?_, ?_⟩
  · rcases hg k q with z | z
    · exact hr k e z
    · have := (hW.ty ((W.mem k).2 (by simp [e]))).2.1; omega
  · exact below_setRow ((hP.bl.mono hbw).trans hb) (by omega) cs
  · have := hf.size
    exact ⟨hf.os.trans hP.bl.os, hf.tape.trans hP.bl.tape, hf.output.trans hP.bl.output, by rw [size_setRow]; omega, fun k a q => old k a fun z => q (List.mem_append_left _ z)⟩
end Go.Proofs.Ytihkjfbhmlfonaa
