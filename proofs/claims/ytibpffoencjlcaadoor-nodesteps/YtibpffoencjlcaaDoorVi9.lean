import Derived.Test.YtibpffoencjlcaaDoorVf9
namespace Go.Proofs.YtibpffoencjlcaaDoor
set_option linter.unusedVariables false
set_option linter.unusedSimpArgs false
open Go.RowKit
attribute [local go_sem ↓] Go.wp_at_zero Go.wp_at_succ

theorem stepD_cut (k : Int) (ks : List Int) (h : Nat) (d : List Int) (hd : d.length = 32) : stepD k ks h (cutZ d (kept k)) = stepD k ks h d := by
  unfold stepD; split
  · exact branchD_cutl k d _ hd
  · exact branchD_cutr k _ d hd
theorem climbTo_cut (k : Int) (ks : List Int) (a : Nat) (d : List Int) (hd : d.length = 32) : ∀ j, climbTo k ks a (cutZ d (kept k)) (j + 1) = climbTo k ks a d (j + 1)
  | 0 => by show stepD _ _ _ _ = stepD _ _ _ _; exact stepD_cut k ks _ d hd
  | j + 1 => by show stepD _ _ _ (climbTo k ks a _ (j + 1)) = stepD _ _ _ (climbTo k ks a _ (j + 1)); rw [climbTo_cut k ks a d hd j]
theorem climbTo_add (k : Int) (ks : List Int) (a : Nat) (d : List Int) (i : Nat) : ∀ j, climbTo k ks (a + i) (climbTo k ks a d i) j = climbTo k ks a d (i + j)
  | 0 => rfl
  | j + 1 => by show stepD _ _ (a + i + j) _ = stepD _ _ (a + (i + j)) _; rw [climbTo_add k ks a d i j, Nat.add_assoc]; rfl
theorem cut_stepD (k : Int) (ks : List Int) (h : Nat) (d : List Int) : cutZ (stepD k ks h d) (kept k) = stepD k ks h d := by
  unfold stepD; split <;> exact cut_branchD _ _ _
theorem stepD_empty (k : Int) (ks : List Int) (h : Nat) : stepD k ks h (emptyD k h) = emptyD k (h + 1) := by
  unfold stepD; split <;> rfl
theorem climbTo_empty (k : Int) (ks : List Int) (a : Nat) : ∀ j, climbTo k ks a (emptyD k a) j = emptyD k (a + j)
  | 0 => rfl
  | j + 1 => by show stepD _ _ (a + j) _ = _; rw [climbTo_empty k ks a j, stepD_empty]; rfl
/-- What the law works out. -/
theorem climbD_want (k : Int) (ks : List Int) (a : Nat) (d : List Int) (c : Nat) (hd : d.length = 32) : climbD k ks a d c = climbTo k ks a (cutZ d (kept k)) (c - a) := by
  unfold climbD; split
  · rw [show c - a = 0 by omega]; rfl
  · obtain ⟨j, hj⟩ : ∃ j, c - a = j + 1 := ⟨c - a - 1, by omega⟩
    rw [hj, climbTo_cut k ks a d hd]
theorem climbD_join (k : Int) (ks : List Int) (a b c : Nat) (d : List Int) (hd : d.length = 32) (h1 : a ≤ b) (h2 : b ≤ c) : climbD k ks b (climbD k ks a d b) c = climbTo k ks a (cutZ d (kept k)) (c - a) := by
  rw [climbD_want k ks b _ c (climbD_len k ks a d b hd), climbD_want k ks a d b hd]
  have hc : cutZ (climbTo k ks a (cutZ d (kept k)) (b - a)) (kept k) = climbTo k ks a (cutZ d (kept k)) (b - a) := by
    cases hj : b - a with
    | zero => exact cutZ_cutZ d hd _ (kept_le k)
    | succ j => exact cut_stepD _ _ _ _
  rw [hc]
  have := climbTo_add k ks a (cutZ d (kept k)) (b - a) (c - b)
  rw [show a + (b - a) = b by omega, show b - a + (c - b) = c - a by omega] at this
  exact this
theorem climbD_empty (k : Int) (ks : List Int) (a c : Nat) (h : a ≤ c) : climbD k ks a (emptyD k a) c = emptyD k c := by
  rw [climbD_want k ks a _ c (emptyD_len k a), cut_emptyD, climbTo_empty, show a + (c - a) = c by omega]
def oneD : List Int := 1 :: padz [] 31
theorem one_ne : climbD 32 z32 0 oneD 1 ≠ z32 := by
  intro h
  have h2 : (climbD 32 z32 0 oneD 1).getD 0 0 = 157 := by kernel_rfl
  rw [h] at h2
  exact absurd h2 (by decide)
theorem hgt_nat (n : Nat) (h : n ≤ 256) : hgt (n : Int) = n := by unfold hgt; omega
theorem z32_byts : Byts z32 := by
  intro x hx
  have : x = 0 := by simp [z32, padz] at hx; exact hx
  subst this; decide
theorem built_zeroK : Tryd.prog.built 33 [] = some (ints .u8 z32).toArray := by kernel_rfl
set_option maxRecDepth 100000 in
set_option maxHeartbeats 400000 in
theorem lwithin_any (k lo hi : Int) (h : lo ≤ hi) (w : World) : Calls Tryd.prog 7 #[.int .i64 k, .int .i64 lo, .int .i64 hi] w fun e w' => e = .returned (.int .i64 (min (max k lo) hi)) ∧ w' = w := by
  by_cases a : k < lo
  · rw [show min (max k lo) hi = lo by omega]
    go_enter Tryd.func7, Tryd.ntmps7
    go_wp2
    go_ret
    exact ⟨rfl, rfl⟩
  · by_cases b : hi < k
    · rw [show min (max k lo) hi = hi by omega]
      go_enter Tryd.func7, Tryd.ntmps7
      go_wp2
      go_ret
      exact ⟨rfl, rfl⟩
    · rw [show min (max k lo) hi = k by omega]
      go_enter Tryd.func7, Tryd.ntmps7
      go_wp2
      go_ret
      exact ⟨rfl, rfl⟩
set_option maxRecDepth 100000 in
set_option maxHeartbeats 4000000 in
theorem nodeSteps_any (w : World) (hG : Glob w) (k : Int) (ks : List Int) (hk : ks.length = 32) (hby : Byts ks) (fr : Int) (ds : List Int) (hd : ds.length = 32) (tt mid : Int) :
    Calls Tryd.prog 5 #[.int .i64 k, .agg (ints .u8 ks).toArray, .int .i64 fr, .agg (ints .u8 ds).toArray, .int .i64 tt, .int .i64 mid] w fun e w' => e = .returned (.bool true) ∧ Below w.heap.size w w' := by
  have d0 := ((DR.nil w).alloc ks 33).alloc ds 24
  rw [show (w.alloc (.cells (ints .u8 ks).toArray 33)).heap.size = w.heap.size + 1 by simp] at d0
  have KF := hid (fun w1 => lwithin_any fr 0 256 (by decide) w1)
  have KT := hid (fun w1 => lwithin_any tt 0 256 (by decide) w1)
  rw [show min (max fr 0) 256 = ((hgt fr : Nat) : Int) by unfold hgt; omega] at KF
  rw [show min (max tt 0) 256 = ((hgt tt : Nat) : Int) by unfold hgt; omega] at KT
  have ha := hgt_le fr
  have hc := hgt_le tt
  have KC1 := hid (fun w1 (h : Glob w1) => climb_any w1 h 32 z32 rfl z32_byts 0 1 oneD rfl)
  rw [show hgt 0 = 0 from rfl, show hgt 1 = 1 from rfl] at KC1
  have q1 := eqD_ne _ _ (climbD_len 32 z32 0 oneD 1 rfl) (show z32.length = 32 from rfl) one_ne
  generalize climbD 32 z32 0 oneD 1 = O1 at *
  have KC2 := hid (fun w1 (h : Glob w1) => climb_any w1 h k ks hk hby fr tt ds hd)
  rw [climbD_want k ks (hgt fr) ds (hgt tt) hd] at KC2
  have KC3 := hid (fun w1 (h : Glob w1) (b : Nat) (hb : b ≤ 256) => (show Calls Tryd.prog 14 #[.int .i64 k, .agg (ints .u8 ks).toArray, .int .i64 fr, .agg (ints .u8 ds).toArray, .int .i64 b] w1 fun e w' => e = .returned (.agg (ints .u8 (climbD k ks (hgt fr) ds b)).toArray) ∧ Below w1.heap.size w1 w' by have := climb_any w1 h k ks hk hby fr b ds hd; rwa [hgt_nat b hb] at this))
  have KC4 := hid (fun w1 (h : Glob w1) (b : Nat) (hb : b ≤ 256) (x : List Int) (hx : x.length = 32) => (show Calls Tryd.prog 14 #[.int .i64 k, .agg (ints .u8 ks).toArray, .int .i64 b, .agg (ints .u8 x).toArray, .int .i64 tt] w1 fun e w' => e = .returned (.agg (ints .u8 (climbD k ks b x (hgt tt))).toArray) ∧ Below w1.heap.size w1 w' by have := climb_any w1 h k ks hk hby b tt x hx; rwa [hgt_nat b hb] at this))
  have KC5 := hid (fun w1 (h : Glob w1) (a b : Nat) (ha : a ≤ 256) (hb : b ≤ 256) (x : List Int) (hx : x.length = 32) => (show Calls Tryd.prog 14 #[.int .i64 k, .agg (ints .u8 ks).toArray, .int .i64 a, .agg (ints .u8 x).toArray, .int .i64 b] w1 fun e w' => e = .returned (.agg (ints .u8 (climbD k ks a x b)).toArray) ∧ Below w1.heap.size w1 w' by have := climb_any w1 h k ks hk hby a b x hx; rwa [hgt_nat a ha, hgt_nat b hb] at this))
  have KEm := hid (fun w1 (h : Glob w1) (a : Nat) (ha : a ≤ 256) => empty_to w1 h k a (emptyD k a) (by rw [hgt_nat a ha]))
  have KU := hid (fun w1 => cutD_any ds hd k w1)
  have hcl := cutZ_len ds (kept k) hd
  have HJ := hid (fun b h1 h2 => climbD_join k ks (hgt fr) b (hgt tt) ds hd h1 h2)
  generalize hgt fr = na at *
  generalize hgt tt = nc at *
  generalize cutZ ds (kept k) = CD at *
  have gD := Tryd.guardD
  have ia : (na : Int) ≤ 256 := by omega
  have ic : (nc : Int) ≤ 256 := by omega
  go_enter Tryd.func5, Tryd.ntmps5
  go_wp2_with (first | (refine wpList_zero_w (by rfl) 33 (by rfl) _ built_zeroK ?_))
  show Calls Tryd.prog 14 #[.int .i64 32, .agg (ints .u8 z32).toArray, .int .i64 0, .agg (ints .u8 oneD).toArray, .int .i64 1] _ _
  generalize ((w.alloc (.cells (ints .u8 ks).toArray 33)).alloc (.cells (ints .u8 ds).toArray 24)) = w1 at *
  refine (KC1.out w1 (d0.glob hG)).mono ?_
  rintro e w2 ⟨rfl, hB2⟩
  have d1 := d0.call hB2
  have r1 := d1.row (.head _)
  clear d0 hB2 KC1
  go_wp2_with (first | (refine wpList_zero_w (by rfl) 24 (by rfl) _ built_zeroD ?_) | (go_at_call 7; refine (KF.out _).mono ?_; rintro e w5 ⟨rfl, hw5⟩; obtain rfl := hw5.symm; clear KF) | (go_at_call 7; refine (KT.out _).mono ?_; rintro e w5 ⟨rfl, hw5⟩; obtain rfl := hw5.symm; clear KT) | refine wpList_load_row rfl 24 _ rfl _ rfl 24 _ _ _ r1 Tryd.underlying24 rfl (by rw [ints_size, hd]; rfl) ?_)
  refine (KU.out _).mono ?_
  rintro e w3 ⟨rfl, hB3⟩
  have d2 := (d1.call hB3).alloc CD 24
  have hb1 : w.heap.size ≤ w3.heap.size := (d1.call hB3).1.size
  have hb1b : ∀ x, x ∈ [(w.heap.size + 1, ds, 24), (w.heap.size, ks, 33)] → x.1 ≠ w3.heap.size := fun x hx => Nat.ne_of_lt (hlt ((d1.call hB3).2 x hx))
  clear d1 hB3 KU r1 q1
  go_wp2_with (first | (refine wpList_store_row rfl 24 _ _ rfl _ _ rfl rfl 24 _ (by exact hnew _ (.cells (ints .u8 z32).toArray 24)) (by rw [Tryd.size24, ints_size, hcl]) (by rw [ints_size, ints_size, hcl]; rfl) (all_oneCell_toArray (ints_one .u8 _)) ?_; rw [setRow_alloc]))
  generalize hbb : w3.heap.size = b1 at *
  generalize w3.alloc (.cells (ints .u8 CD).toArray 24) = w4 at *
  clear hbb
  go_loopw [16] (fun i wr => ∃ j : Nat, (j = 0 ∨ na + j ≤ nc) ∧ i = .int .i64 ((na + j : Nat) : Int) ∧ DR w wr [(b1, climbTo k ks na CD j, 24), (w.heap.size + 1, ds, 24), (w.heap.size, ks, 33)]) (fun i _ => nc - (intOf i).toNat)
  case atStart => exact ⟨0, Or.inl rfl, rfl, d2⟩
  case round =>
    clear d2
    obtain ⟨j, hj, rfl, dr⟩ := hrel
    have hX1 := climbTo_len k ks na CD hcl j
    by_cases hlt' : na + j < nc
    · generalize hm : na + j = m at *
      have HM := hid hm
      have i3 : (m : Int) < (nc : Int) := by omega
      have hel := emptyD_len k m
      have KBit := hid (fun w1 => Bit_in w1 ks hk hby (255 - m) (by omega))
      rw [show ((255 - m : Nat) : Int) = 255 - (m : Int) by omega] at KBit
      have KE := hid (fun w1 (h : Glob w1) => KEm.out w1 h m (by omega))
      have hX2 := climbTo_len k ks na CD hcl (j + 1)
      have HS := hid (show climbTo k ks na CD (j + 1) = stepD k ks m (climbTo k ks na CD j) by rw [← hm]; rfl)
      have h01 := bitK_01 ks (255 - m)
      have rk := dr.row (.tail _ (.tail _ (.head _)))
      by_cases hb : bitK ks (255 - m) = 0
      · have KS := hid (fun w2 hG2 => branch_to w2 hG2 k (climbTo k ks na CD j) (emptyD k m) (climbTo k ks na CD (j + 1)) hX1 hel (by rw [HS.out, stepD, if_pos hb]))
        rw [hb] at KBit
        clear hb h01 HS hm
        generalize hX2e : climbTo k ks na CD (j + 1) = X2 at *
        have HX2 := hid hX2e
        clear hX2e
        generalize climbTo k ks na CD j = X1 at *
        generalize emptyD k m = E1 at *
        go_wp2_with (first | refine wpList_load_row rfl 33 _ rfl _ rfl 33 _ _ _ rk Tryd.underlying33 rfl (by rw [ints_size, hk]; rfl) ?_)
        refine (KBit.out _).mono ?_
        rintro e w7 ⟨rfl, hB7⟩
        replace dr := (dr.call hB7).drew
        clear KBit hB7 rk
        go_wp2
        refine wp_region_noPanic ?_
        refine wp_region_held_drew (S := fun _ => True) (by kernel_rfl) trivial (fun hHeld => ?_)
        refine wpAnyH_take (i := 0) (oi := { dst := some 42, op := Op.move (Operand.tmp 0), type := 3, pos := "outright.go:145", after := #[], guard := none }) (v := .int .i64 k) rfl (by kernel_rfl) (by kernel_rfl) (by kernel_rfl) (fun _ _ _ h => h) (Or.inl ⟨by rfl, by intro w hS; go_simp⟩) hHeld ?_
        try simp only [Act.put, List.setIfInBounds_toArray, List.set_cons_zero, List.set_cons_succ]
        refine wpAnyH_take (i := 2) (oi := { dst := some 44, op := Op.move (Operand.tmp 0), type := 3, pos := "outright.go:145", after := #[], guard := none }) (v := .int .i64 k) rfl (by kernel_rfl) (by kernel_rfl) (by kernel_rfl) (fun _ _ _ h => h) (Or.inl ⟨by rfl, by intro w hS; go_simp⟩) hHeld ?_
        try simp only [Act.put, List.setIfInBounds_toArray, List.set_cons_zero, List.set_cons_succ]
        refine wpAnyH_take (i := 3) (oi := { dst := some 45, op := Op.move (Operand.tmp 16), type := 3, pos := "outright.go:145", after := #[], guard := none }) (v := .int .i64 m) rfl (by kernel_rfl) (by kernel_rfl) (by kernel_rfl) (fun _ _ _ h => h) (Or.inl ⟨by rfl, by intro w hS; go_simp⟩) hHeld ?_
        try simp only [Act.put, List.setIfInBounds_toArray, List.set_cons_zero, List.set_cons_succ]
        refine wpAnyH_ready (rs := [1, 4]) (by kernel_rfl) (by simp) ?_
        refine (AllReadyH.cons (o := { dst := some 43, op := Op.load 24 (Operand.tmp 15), type := 24, pos := "outright.go:145", after := #[], guard := none }) rfl (fun K hK => ?_) (AllReadyH.cons (o := { dst := some 46, op := Op.call { callee := Callee.value (Operand.func 6), args := #[Operand.tmp 44, Operand.tmp 45], argTypes := #[3, 3] }, type := 24, pos := "outright.go:145", after := #[{ on := 2, ground := Ground.data }, { on := 3, ground := Ground.data }], guard := none }) rfl (fun K hK => ?_) AllReadyH.nil))
        · skip
          rw [if_pos (by rfl)]
          refine wp_load_mid 24 _ rfl b1 0 rfl (ints .u8 X1) _ (dr.rng (.head _)) Tryd.underlying24 rfl (by rw [ints_len, hX1]; rfl) ?_
          refine hK.out _ _ (trivial) (fun hHeld2 => ?_)
          clear hK K hHeld
          have hHeld := hHeld2
          clear hHeld2
          try simp only [Act.put, List.setIfInBounds_toArray, List.set_cons_zero, List.set_cons_succ]
          refine wpAnyH_ready (rs := [4]) (by kernel_rfl) (by simp) ?_
          refine (AllReadyH.cons (o := { dst := some 46, op := Op.call { callee := Callee.value (Operand.func 6), args := #[Operand.tmp 44, Operand.tmp 45], argTypes := #[3, 3] }, type := 24, pos := "outright.go:145", after := #[{ on := 2, ground := Ground.data }, { on := 3, ground := Ground.data }], guard := none }) rfl (fun K hK => ?_) AllReadyH.nil)
          go_simp
          go_at_call 6
          refine (KE.out _ (dr.glob hG)).mono ?_
          rintro e w4 ⟨rfl, hb4⟩
          replace dr := dr.call hb4
          clear hb4
          go_wp2_with fail
          refine hK.out _ _ (trivial) (fun hHeld2 => ?_)
          clear hK K hHeld
          have hHeld := hHeld2
          clear hHeld2
          try simp only [Act.put, List.setIfInBounds_toArray, List.set_cons_zero, List.set_cons_succ]
          refine wpAnyH_ready (rs := [5]) (by kernel_rfl) (by simp) ?_
          refine (AllReadyH.cons (o := { dst := some 47, op := Op.call { callee := Callee.value (Operand.func 8), args := #[Operand.tmp 42, Operand.tmp 43, Operand.tmp 46], argTypes := #[3, 24, 24] }, type := 24, pos := "outright.go:145", after := #[{ on := 0, ground := Ground.data }, { on := 1, ground := Ground.data }, { on := 4, ground := Ground.data }, { on := 4, ground := Ground.chain }], guard := none }) rfl (fun K hK => ?_) AllReadyH.nil)
          go_simp
          go_at_call 8
          refine (KS.out _ (dr.glob hG)).mono ?_
          rintro e w4 ⟨rfl, hb4⟩
          replace dr := dr.call hb4
          clear hb4
          go_wp2_with fail
          refine hK.out _ _ (trivial) (fun hHeld2 => ?_)
          clear hK K hHeld
          have hHeld := hHeld2
          clear hHeld2
          try simp only [Act.put, List.setIfInBounds_toArray, List.set_cons_zero, List.set_cons_succ]
          refine wpAnyH_ready (rs := [6]) (by kernel_rfl) (by simp) ?_
          refine (AllReadyH.cons (o := { dst := none, op := Op.store 24 (Operand.tmp 15) (Operand.tmp 47), type := 0, pos := "outright.go:145", after := #[{ on := 5, ground := Ground.data }, { on := 5, ground := Ground.chain }, { on := 0, ground := Ground.phase }, { on := 1, ground := Ground.phase }, { on := 2, ground := Ground.phase }, { on := 3, ground := Ground.phase }, { on := 4, ground := Ground.phase }, { on := 5, ground := Ground.phase }], guard := none }) rfl (fun K hK => ?_) AllReadyH.nil)
          rw [if_pos (by rfl)]
          refine wp_store_row 24 _ _ rfl b1 (ints .u8 X2).toArray rfl rfl 24 _ (dr.row (.head _)) (by rw [Tryd.size24, ints_size, hX2]) (by rw [ints_size, ints_size, hX2, hX1]) (all_oneCell_toArray (ints_one .u8 _)) ?_
          refine hK.out _ _ (trivial) (fun hHeld2 => ?_)
          clear hK K hHeld
          have hHeld := hHeld2
          clear hHeld2
          try simp only [Act.put, List.setIfInBounds_toArray, List.set_cons_zero, List.set_cons_succ]
          refine wpAnyH_done (by kernel_rfl) ?_ _
          refine NoPanic.normal ?_
          replace dr := dr.set hb1 hb1b X2
          go_wp2
          go_roundw
          case rel => exact ⟨j + 1, Or.inr (by have := HM.out; omega), by have := HM.out; rw [show na + (j + 1) = m + 1 by omega]; go_num, by rw [HX2.out]; exact dr⟩
          case measure => simp [intOf]; omega
        · skip
          go_simp
          go_at_call 6
          refine (KE.out _ (dr.glob hG)).mono ?_
          rintro e w4 ⟨rfl, hb4⟩
          replace dr := dr.call hb4
          clear hb4
          go_wp2_with fail
          refine hK.out _ _ (trivial) (fun hHeld2 => ?_)
          clear hK K hHeld
          have hHeld := hHeld2
          clear hHeld2
          try simp only [Act.put, List.setIfInBounds_toArray, List.set_cons_zero, List.set_cons_succ]
          refine wpAnyH_ready (rs := [1]) (by kernel_rfl) (by simp) ?_
          refine (AllReadyH.cons (o := { dst := some 43, op := Op.load 24 (Operand.tmp 15), type := 24, pos := "outright.go:145", after := #[], guard := none }) rfl (fun K hK => ?_) AllReadyH.nil)
          rw [if_pos (by rfl)]
          refine wp_load_mid 24 _ rfl b1 0 rfl (ints .u8 X1) _ (dr.rng (.head _)) Tryd.underlying24 rfl (by rw [ints_len, hX1]; rfl) ?_
          refine hK.out _ _ (trivial) (fun hHeld2 => ?_)
          clear hK K hHeld
          have hHeld := hHeld2
          clear hHeld2
          try simp only [Act.put, List.setIfInBounds_toArray, List.set_cons_zero, List.set_cons_succ]
          refine wpAnyH_ready (rs := [5]) (by kernel_rfl) (by simp) ?_
          refine (AllReadyH.cons (o := { dst := some 47, op := Op.call { callee := Callee.value (Operand.func 8), args := #[Operand.tmp 42, Operand.tmp 43, Operand.tmp 46], argTypes := #[3, 24, 24] }, type := 24, pos := "outright.go:145", after := #[{ on := 0, ground := Ground.data }, { on := 1, ground := Ground.data }, { on := 4, ground := Ground.data }, { on := 4, ground := Ground.chain }], guard := none }) rfl (fun K hK => ?_) AllReadyH.nil)
          go_simp
          go_at_call 8
          refine (KS.out _ (dr.glob hG)).mono ?_
          rintro e w4 ⟨rfl, hb4⟩
          replace dr := dr.call hb4
          clear hb4
          go_wp2_with fail
          refine hK.out _ _ (trivial) (fun hHeld2 => ?_)
          clear hK K hHeld
          have hHeld := hHeld2
          clear hHeld2
          try simp only [Act.put, List.setIfInBounds_toArray, List.set_cons_zero, List.set_cons_succ]
          refine wpAnyH_ready (rs := [6]) (by kernel_rfl) (by simp) ?_
          refine (AllReadyH.cons (o := { dst := none, op := Op.store 24 (Operand.tmp 15) (Operand.tmp 47), type := 0, pos := "outright.go:145", after := #[{ on := 5, ground := Ground.data }, { on := 5, ground := Ground.chain }, { on := 0, ground := Ground.phase }, { on := 1, ground := Ground.phase }, { on := 2, ground := Ground.phase }, { on := 3, ground := Ground.phase }, { on := 4, ground := Ground.phase }, { on := 5, ground := Ground.phase }], guard := none }) rfl (fun K hK => ?_) AllReadyH.nil)
          rw [if_pos (by rfl)]
          refine wp_store_row 24 _ _ rfl b1 (ints .u8 X2).toArray rfl rfl 24 _ (dr.row (.head _)) (by rw [Tryd.size24, ints_size, hX2]) (by rw [ints_size, ints_size, hX2, hX1]) (all_oneCell_toArray (ints_one .u8 _)) ?_
          refine hK.out _ _ (trivial) (fun hHeld2 => ?_)
          clear hK K hHeld
          have hHeld := hHeld2
          clear hHeld2
          try simp only [Act.put, List.setIfInBounds_toArray, List.set_cons_zero, List.set_cons_succ]
          refine wpAnyH_done (by kernel_rfl) ?_ _
          refine NoPanic.normal ?_
          replace dr := dr.set hb1 hb1b X2
          go_wp2
          go_roundw
          case rel => exact ⟨j + 1, Or.inr (by have := HM.out; omega), by have := HM.out; rw [show na + (j + 1) = m + 1 by omega]; go_num, by rw [HX2.out]; exact dr⟩
          case measure => simp [intOf]; omega
      · have hb1' : bitK ks (255 - m) = 1 := by rcases h01 with h | h; exact absurd h hb; exact h
        have KS := hid (fun w2 hG2 => branch_to w2 hG2 k (emptyD k m) (climbTo k ks na CD j) (climbTo k ks na CD (j + 1)) hel hX1 (by rw [HS.out, stepD, if_neg hb]))
        rw [hb1'] at KBit
        clear hb1'
        clear hb h01 HS hm
        generalize hX2e : climbTo k ks na CD (j + 1) = X2 at *
        have HX2 := hid hX2e
        clear hX2e
        generalize climbTo k ks na CD j = X1 at *
        generalize emptyD k m = E1 at *
        go_wp2_with (first | refine wpList_load_row rfl 33 _ rfl _ rfl 33 _ _ _ rk Tryd.underlying33 rfl (by rw [ints_size, hk]; rfl) ?_)
        refine (KBit.out _).mono ?_
        rintro e w7 ⟨rfl, hB7⟩
        replace dr := (dr.call hB7).drew
        clear KBit hB7 rk
        go_wp2
        refine wp_region_noPanic ?_
        refine wp_region_held_drew (S := fun _ => True) (by kernel_rfl) trivial (fun hHeld => ?_)
        refine wpAnyH_take (i := 0) (oi := { dst := some 48, op := Op.move (Operand.tmp 0), type := 3, pos := "outright.go:147", after := #[], guard := none }) (v := .int .i64 k) rfl (by kernel_rfl) (by kernel_rfl) (by kernel_rfl) (fun _ _ _ h => h) (Or.inl ⟨by rfl, by intro w hS; go_simp⟩) hHeld ?_
        try simp only [Act.put, List.setIfInBounds_toArray, List.set_cons_zero, List.set_cons_succ]
        refine wpAnyH_take (i := 1) (oi := { dst := some 49, op := Op.move (Operand.tmp 0), type := 3, pos := "outright.go:147", after := #[], guard := none }) (v := .int .i64 k) rfl (by kernel_rfl) (by kernel_rfl) (by kernel_rfl) (fun _ _ _ h => h) (Or.inl ⟨by rfl, by intro w hS; go_simp⟩) hHeld ?_
        try simp only [Act.put, List.setIfInBounds_toArray, List.set_cons_zero, List.set_cons_succ]
        refine wpAnyH_take (i := 2) (oi := { dst := some 50, op := Op.move (Operand.tmp 16), type := 3, pos := "outright.go:147", after := #[], guard := none }) (v := .int .i64 m) rfl (by kernel_rfl) (by kernel_rfl) (by kernel_rfl) (fun _ _ _ h => h) (Or.inl ⟨by rfl, by intro w hS; go_simp⟩) hHeld ?_
        try simp only [Act.put, List.setIfInBounds_toArray, List.set_cons_zero, List.set_cons_succ]
        refine wpAnyH_ready (rs := [3, 4]) (by kernel_rfl) (by simp) ?_
        refine (AllReadyH.cons (o := { dst := some 51, op := Op.call { callee := Callee.value (Operand.func 6), args := #[Operand.tmp 49, Operand.tmp 50], argTypes := #[3, 3] }, type := 24, pos := "outright.go:147", after := #[{ on := 1, ground := Ground.data }, { on := 2, ground := Ground.data }], guard := none }) rfl (fun K hK => ?_) (AllReadyH.cons (o := { dst := some 52, op := Op.load 24 (Operand.tmp 15), type := 24, pos := "outright.go:147", after := #[], guard := none }) rfl (fun K hK => ?_) AllReadyH.nil))
        · skip
          go_simp
          go_at_call 6
          refine (KE.out _ (dr.glob hG)).mono ?_
          rintro e w4 ⟨rfl, hb4⟩
          replace dr := dr.call hb4
          clear hb4
          go_wp2_with fail
          refine hK.out _ _ (trivial) (fun hHeld2 => ?_)
          clear hK K hHeld
          have hHeld := hHeld2
          clear hHeld2
          try simp only [Act.put, List.setIfInBounds_toArray, List.set_cons_zero, List.set_cons_succ]
          refine wpAnyH_ready (rs := [4]) (by kernel_rfl) (by simp) ?_
          refine (AllReadyH.cons (o := { dst := some 52, op := Op.load 24 (Operand.tmp 15), type := 24, pos := "outright.go:147", after := #[], guard := none }) rfl (fun K hK => ?_) AllReadyH.nil)
          rw [if_pos (by rfl)]
          refine wp_load_mid 24 _ rfl b1 0 rfl (ints .u8 X1) _ (dr.rng (.head _)) Tryd.underlying24 rfl (by rw [ints_len, hX1]; rfl) ?_
          refine hK.out _ _ (trivial) (fun hHeld2 => ?_)
          clear hK K hHeld
          have hHeld := hHeld2
          clear hHeld2
          try simp only [Act.put, List.setIfInBounds_toArray, List.set_cons_zero, List.set_cons_succ]
          refine wpAnyH_ready (rs := [5]) (by kernel_rfl) (by simp) ?_
          refine (AllReadyH.cons (o := { dst := some 53, op := Op.call { callee := Callee.value (Operand.func 8), args := #[Operand.tmp 48, Operand.tmp 51, Operand.tmp 52], argTypes := #[3, 24, 24] }, type := 24, pos := "outright.go:147", after := #[{ on := 0, ground := Ground.data }, { on := 3, ground := Ground.data }, { on := 4, ground := Ground.data }, { on := 3, ground := Ground.chain }], guard := none }) rfl (fun K hK => ?_) AllReadyH.nil)
          go_simp
          go_at_call 8
          refine (KS.out _ (dr.glob hG)).mono ?_
          rintro e w4 ⟨rfl, hb4⟩
          replace dr := dr.call hb4
          clear hb4
          go_wp2_with fail
          refine hK.out _ _ (trivial) (fun hHeld2 => ?_)
          clear hK K hHeld
          have hHeld := hHeld2
          clear hHeld2
          try simp only [Act.put, List.setIfInBounds_toArray, List.set_cons_zero, List.set_cons_succ]
          refine wpAnyH_ready (rs := [6]) (by kernel_rfl) (by simp) ?_
          refine (AllReadyH.cons (o := { dst := none, op := Op.store 24 (Operand.tmp 15) (Operand.tmp 53), type := 0, pos := "outright.go:147", after := #[{ on := 5, ground := Ground.data }, { on := 5, ground := Ground.chain }, { on := 0, ground := Ground.phase }, { on := 1, ground := Ground.phase }, { on := 2, ground := Ground.phase }, { on := 3, ground := Ground.phase }, { on := 4, ground := Ground.phase }, { on := 5, ground := Ground.phase }], guard := none }) rfl (fun K hK => ?_) AllReadyH.nil)
          rw [if_pos (by rfl)]
          refine wp_store_row 24 _ _ rfl b1 (ints .u8 X2).toArray rfl rfl 24 _ (dr.row (.head _)) (by rw [Tryd.size24, ints_size, hX2]) (by rw [ints_size, ints_size, hX2, hX1]) (all_oneCell_toArray (ints_one .u8 _)) ?_
          refine hK.out _ _ (trivial) (fun hHeld2 => ?_)
          clear hK K hHeld
          have hHeld := hHeld2
          clear hHeld2
          try simp only [Act.put, List.setIfInBounds_toArray, List.set_cons_zero, List.set_cons_succ]
          refine wpAnyH_done (by kernel_rfl) ?_ _
          refine NoPanic.normal ?_
          replace dr := dr.set hb1 hb1b X2
          go_wp2
          go_roundw
          case rel => exact ⟨j + 1, Or.inr (by have := HM.out; omega), by have := HM.out; rw [show na + (j + 1) = m + 1 by omega]; go_num, by rw [HX2.out]; exact dr⟩
          case measure => simp [intOf]; omega
        · skip
          rw [if_pos (by rfl)]
          refine wp_load_mid 24 _ rfl b1 0 rfl (ints .u8 X1) _ (dr.rng (.head _)) Tryd.underlying24 rfl (by rw [ints_len, hX1]; rfl) ?_
          refine hK.out _ _ (trivial) (fun hHeld2 => ?_)
          clear hK K hHeld
          have hHeld := hHeld2
          clear hHeld2
          try simp only [Act.put, List.setIfInBounds_toArray, List.set_cons_zero, List.set_cons_succ]
          refine wpAnyH_ready (rs := [3]) (by kernel_rfl) (by simp) ?_
          refine (AllReadyH.cons (o := { dst := some 51, op := Op.call { callee := Callee.value (Operand.func 6), args := #[Operand.tmp 49, Operand.tmp 50], argTypes := #[3, 3] }, type := 24, pos := "outright.go:147", after := #[{ on := 1, ground := Ground.data }, { on := 2, ground := Ground.data }], guard := none }) rfl (fun K hK => ?_) AllReadyH.nil)
          go_simp
          go_at_call 6
          refine (KE.out _ (dr.glob hG)).mono ?_
          rintro e w4 ⟨rfl, hb4⟩
          replace dr := dr.call hb4
          clear hb4
          go_wp2_with fail
          refine hK.out _ _ (trivial) (fun hHeld2 => ?_)
          clear hK K hHeld
          have hHeld := hHeld2
          clear hHeld2
          try simp only [Act.put, List.setIfInBounds_toArray, List.set_cons_zero, List.set_cons_succ]
          refine wpAnyH_ready (rs := [5]) (by kernel_rfl) (by simp) ?_
          refine (AllReadyH.cons (o := { dst := some 53, op := Op.call { callee := Callee.value (Operand.func 8), args := #[Operand.tmp 48, Operand.tmp 51, Operand.tmp 52], argTypes := #[3, 24, 24] }, type := 24, pos := "outright.go:147", after := #[{ on := 0, ground := Ground.data }, { on := 3, ground := Ground.data }, { on := 4, ground := Ground.data }, { on := 3, ground := Ground.chain }], guard := none }) rfl (fun K hK => ?_) AllReadyH.nil)
          go_simp
          go_at_call 8
          refine (KS.out _ (dr.glob hG)).mono ?_
          rintro e w4 ⟨rfl, hb4⟩
          replace dr := dr.call hb4
          clear hb4
          go_wp2_with fail
          refine hK.out _ _ (trivial) (fun hHeld2 => ?_)
          clear hK K hHeld
          have hHeld := hHeld2
          clear hHeld2
          try simp only [Act.put, List.setIfInBounds_toArray, List.set_cons_zero, List.set_cons_succ]
          refine wpAnyH_ready (rs := [6]) (by kernel_rfl) (by simp) ?_
          refine (AllReadyH.cons (o := { dst := none, op := Op.store 24 (Operand.tmp 15) (Operand.tmp 53), type := 0, pos := "outright.go:147", after := #[{ on := 5, ground := Ground.data }, { on := 5, ground := Ground.chain }, { on := 0, ground := Ground.phase }, { on := 1, ground := Ground.phase }, { on := 2, ground := Ground.phase }, { on := 3, ground := Ground.phase }, { on := 4, ground := Ground.phase }, { on := 5, ground := Ground.phase }], guard := none }) rfl (fun K hK => ?_) AllReadyH.nil)
          rw [if_pos (by rfl)]
          refine wp_store_row 24 _ _ rfl b1 (ints .u8 X2).toArray rfl rfl 24 _ (dr.row (.head _)) (by rw [Tryd.size24, ints_size, hX2]) (by rw [ints_size, ints_size, hX2, hX1]) (all_oneCell_toArray (ints_one .u8 _)) ?_
          refine hK.out _ _ (trivial) (fun hHeld2 => ?_)
          clear hK K hHeld
          have hHeld := hHeld2
          clear hHeld2
          try simp only [Act.put, List.setIfInBounds_toArray, List.set_cons_zero, List.set_cons_succ]
          refine wpAnyH_done (by kernel_rfl) ?_ _
          refine NoPanic.normal ?_
          replace dr := dr.set hb1 hb1b X2
          go_wp2
          go_roundw
          case rel => exact ⟨j + 1, Or.inr (by have := HM.out; omega), by have := HM.out; rw [show na + (j + 1) = m + 1 by omega]; go_num, by rw [HX2.out]; exact dr⟩
          case measure => simp [intOf]; omega
    · obtain rfl : j = nc - na := by omega
      generalize hWe : climbTo k ks na CD (nc - na) = W at *
      have HW := hid hWe
      clear hWe
      have hWl := hX1
      have qW := eqD_self W hWl
      have i3 : ¬ (((na + (nc - na) : Nat) : Int) < (nc : Int)) := by omega
      generalize na + (nc - na) = mm at *
      go_wp2
      refine wp_region_noPanic ?_
      refine wp_region_held_drew (S := (fun w' => DR w w' [(b1, W, 24), (w.heap.size + 1, ds, 24), (w.heap.size, ks, 33)])) (by kernel_rfl) dr.drew (fun hHeld => ?_)
      refine wpAnyH_take (i := 0) (oi := { dst := some 54, op := Op.move (Operand.tmp 0), type := 3, pos := "outright.go:150", after := #[], guard := none }) (v := .int .i64 k) rfl (by kernel_rfl) (by kernel_rfl) (by kernel_rfl) (fun _ _ _ h => h) (Or.inl ⟨by rfl, by intro w hS; go_simp⟩) hHeld ?_
      try simp only [Act.put, List.setIfInBounds_toArray, List.set_cons_zero, List.set_cons_succ]
      refine wpAnyH_take (i := 1) (oi := { dst := some 55, op := Op.load 33 (Operand.tmp 7), type := 33, pos := "outright.go:150", after := #[], guard := none }) (v := .agg (ints .u8 ks).toArray) rfl (by kernel_rfl) (by kernel_rfl) (by kernel_rfl) (fun _ _ _ h => h) (yieldsIf_load_mid (by rfl) 33 _ rfl w.heap.size (0) rfl (ints .u8 ks) _ (fun w hS => (DR.rng hS (.tail _ (.tail _ (.head _))))) Tryd.underlying33 rfl (by rw [ints_len, hk]; rfl)) hHeld ?_
      try simp only [Act.put, List.setIfInBounds_toArray, List.set_cons_zero, List.set_cons_succ]
      refine wpAnyH_take (i := 2) (oi := { dst := some 56, op := Op.move (Operand.tmp 2), type := 3, pos := "outright.go:150", after := #[], guard := none }) (v := .int .i64 fr) rfl (by kernel_rfl) (by kernel_rfl) (by kernel_rfl) (fun _ _ _ h => h) (Or.inl ⟨by rfl, by intro w hS; go_simp⟩) hHeld ?_
      try simp only [Act.put, List.setIfInBounds_toArray, List.set_cons_zero, List.set_cons_succ]
      refine wpAnyH_take (i := 3) (oi := { dst := some 57, op := Op.load 24 (Operand.tmp 9), type := 24, pos := "outright.go:150", after := #[], guard := none }) (v := .agg (ints .u8 ds).toArray) rfl (by kernel_rfl) (by kernel_rfl) (by kernel_rfl) (fun _ _ _ h => h) (yieldsIf_load_mid (by rfl) 24 _ rfl (w.heap.size + 1) (0) rfl (ints .u8 ds) _ (fun w hS => (DR.rng hS (.tail _ (.head _)))) Tryd.underlying24 rfl (by rw [ints_len, hd]; rfl)) hHeld ?_
      try simp only [Act.put, List.setIfInBounds_toArray, List.set_cons_zero, List.set_cons_succ]
      refine wpAnyH_take (i := 4) (oi := { dst := some 58, op := Op.move (Operand.tmp 4), type := 3, pos := "outright.go:150", after := #[], guard := none }) (v := .int .i64 tt) rfl (by kernel_rfl) (by kernel_rfl) (by kernel_rfl) (fun _ _ _ h => h) (Or.inl ⟨by rfl, by intro w hS; go_simp⟩) hHeld ?_
      try simp only [Act.put, List.setIfInBounds_toArray, List.set_cons_zero, List.set_cons_succ]
      refine wpAnyH_take (i := 6) (oi := { dst := some 60, op := Op.load 24 (Operand.tmp 15), type := 24, pos := "outright.go:150", after := #[], guard := none }) (v := .agg (ints .u8 W).toArray) rfl (by kernel_rfl) (by kernel_rfl) (by kernel_rfl) (fun _ _ _ h => h) (yieldsIf_load_mid (by rfl) 24 _ rfl b1 (0) rfl (ints .u8 W) _ (fun w hS => (DR.rng hS (.head _))) Tryd.underlying24 rfl (by rw [ints_len, hWl]; rfl)) hHeld ?_
      try simp only [Act.put, List.setIfInBounds_toArray, List.set_cons_zero, List.set_cons_succ]
      refine wpAnyH_ready (rs := [5]) (by kernel_rfl) (by simp) ?_
      refine (AllReadyH.cons (o := { dst := some 59, op := Op.call { callee := Callee.value (Operand.func 14), args := #[Operand.tmp 54, Operand.tmp 55, Operand.tmp 56, Operand.tmp 57, Operand.tmp 58], argTypes := #[3, 33, 3, 24, 3] }, type := 24, pos := "outright.go:150", after := #[{ on := 0, ground := Ground.data }, { on := 1, ground := Ground.data }, { on := 2, ground := Ground.data }, { on := 3, ground := Ground.data }, { on := 4, ground := Ground.data }], guard := none }) rfl (fun K hK => ?_) AllReadyH.nil)
      go_simp
      go_at_call 14
      refine (KC2.out _ (DR.glob hHeld hG)).mono ?_
      rintro e w4 ⟨rfl, hb4⟩
      go_wp2_with fail
      refine hK.out _ _ (DR.call hHeld hb4) (fun hHeld2 => ?_)
      clear hK K hHeld
      have hHeld := hHeld2
      clear hHeld2
      try simp only [Act.put, List.setIfInBounds_toArray, List.set_cons_zero, List.set_cons_succ]
      refine wpAnyH_take (i := 7) (oi := { dst := some 61, op := Op.binOp BinOp.neq 24 (Operand.tmp 59) (Operand.tmp 60) 24, type := 4, pos := "outright.go:150", after := #[{ on := 5, ground := Ground.data }, { on := 6, ground := Ground.data }], guard := none }) (v := .bool false) rfl (by kernel_rfl) (by kernel_rfl) (by kernel_rfl) (fun _ _ _ h => h) (Or.inl ⟨by rfl, by intro w hS; go_simp⟩) hHeld ?_
      try simp only [Act.put, List.setIfInBounds_toArray, List.set_cons_zero, List.set_cons_succ]
      refine wpAnyH_done (by kernel_rfl) ?_ _
      refine NoPanic.normal ?_
      have d3 := hHeld
      clear hHeld dr
      by_cases hcn : nc < na
      · have i5 : (nc : Int) < (na : Int) := by omega
        go_wp2
        go_ret
        exact ⟨rfl, d3.1⟩
      · have i5 : ¬ ((nc : Int) < (na : Int)) := by omega
        obtain ⟨nb, hnb⟩ : ∃ nb : Nat, min (max mid na) nc = (nb : Int) := ⟨(min (max mid na) nc).toNat, by omega⟩
        have KN := hid (fun w1 => lwithin_any mid na nc (by omega) w1)
        rw [hnb] at KN
        have hb0 : na ≤ nb := by omega
        have hb2 : nb ≤ nc := by omega
        have KC := hid (fun w1 h => KC3.out w1 h nb (by omega))
        have hHl := climbD_len k ks na ds nb hd
        have KZ := hid (fun w1 h => KC4.out w1 h nb (by omega) (climbD k ks na ds nb) hHl)
        rw [HJ.out nb hb0 hb2] at KZ
        have KY5 := hid (fun w1 h => KC5.out w1 h na nc ha hc (emptyD k na) (emptyD_len k na))
        rw [climbD_empty k ks na nc (by omega)] at KY5
        have qE := eqD_self (emptyD k nc) (emptyD_len k nc)
        generalize climbD k ks na ds nb = HF at *
        clear hnb
        have r3 := d3.row (.tail _ (.tail _ (.head _)))
        have s3 := d3.row (.tail _ (.head _))
        go_wp2_with (first | (go_at_call 7; refine (KN.out _).mono ?_; rintro e w8 ⟨rfl, hw8⟩; obtain rfl := hw8.symm) | refine wpList_load_row rfl 33 _ rfl _ rfl 33 _ _ _ r3 Tryd.underlying33 rfl (by rw [ints_size, hk]; rfl) ?_ | refine wpList_load_row rfl 24 _ rfl _ rfl 24 _ _ _ s3 Tryd.underlying24 rfl (by rw [ints_size, hd]; rfl) ?_)
        refine (KC.out _ (d3.glob hG)).mono ?_
        rintro e w9 ⟨rfl, hB9⟩
        have d5 := (d3.call hB9).alloc HF 24
        clear r3 s3 hB9 d3
        go_wp2_with (first | (refine wpList_store_row rfl 24 _ _ rfl _ _ rfl rfl 24 _ (by exact hnew _ (.cells (ints .u8 z32).toArray 24)) (by rw [Tryd.size24, ints_size, hHl]) (by rw [ints_size, ints_size, hHl]; rfl) (all_oneCell_toArray (ints_one .u8 _)) ?_; rw [setRow_alloc]))
        generalize w9.heap.size = b2 at *
        generalize w9.alloc (.cells (ints .u8 HF).toArray 24) = wq at *
        refine wp_region_noPanic ?_
        refine wp_region_held_drew (S := (fun w' => DR w w' [(b2, HF, 24), (b1, W, 24), (w.heap.size + 1, ds, 24), (w.heap.size, ks, 33)])) (by kernel_rfl) d5.drew (fun hHeld => ?_)
        refine wpAnyH_take (i := 0) (oi := { dst := some 75, op := Op.move (Operand.tmp 0), type := 3, pos := "outright.go:158", after := #[], guard := none }) (v := .int .i64 k) rfl (by kernel_rfl) (by kernel_rfl) (by kernel_rfl) (fun _ _ _ h => h) (Or.inl ⟨by rfl, by intro w hS; go_simp⟩) hHeld ?_
        try simp only [Act.put, List.setIfInBounds_toArray, List.set_cons_zero, List.set_cons_succ]
        refine wpAnyH_take (i := 1) (oi := { dst := some 76, op := Op.load 33 (Operand.tmp 7), type := 33, pos := "outright.go:158", after := #[], guard := none }) (v := .agg (ints .u8 ks).toArray) rfl (by kernel_rfl) (by kernel_rfl) (by kernel_rfl) (fun _ _ _ h => h) (yieldsIf_load_mid (by rfl) 33 _ rfl w.heap.size (0) rfl (ints .u8 ks) _ (fun w hS => (DR.rng hS (.tail _ (.tail _ (.tail _ (.head _)))))) Tryd.underlying33 rfl (by rw [ints_len, hk]; rfl)) hHeld ?_
        try simp only [Act.put, List.setIfInBounds_toArray, List.set_cons_zero, List.set_cons_succ]
        refine wpAnyH_take (i := 2) (oi := { dst := some 77, op := Op.move (Operand.tmp 17), type := 3, pos := "outright.go:158", after := #[], guard := none }) (v := .int .i64 nb) rfl (by kernel_rfl) (by kernel_rfl) (by kernel_rfl) (fun _ _ _ h => h) (Or.inl ⟨by rfl, by intro w hS; go_simp⟩) hHeld ?_
        try simp only [Act.put, List.setIfInBounds_toArray, List.set_cons_zero, List.set_cons_succ]
        refine wpAnyH_take (i := 3) (oi := { dst := some 78, op := Op.load 24 (Operand.tmp 18), type := 24, pos := "outright.go:158", after := #[], guard := none }) (v := .agg (ints .u8 HF).toArray) rfl (by kernel_rfl) (by kernel_rfl) (by kernel_rfl) (fun _ _ _ h => h) (yieldsIf_load_mid (by rfl) 24 _ rfl b2 (0) rfl (ints .u8 HF) _ (fun w hS => (DR.rng hS (.head _))) Tryd.underlying24 rfl (by rw [ints_len, hHl]; rfl)) hHeld ?_
        try simp only [Act.put, List.setIfInBounds_toArray, List.set_cons_zero, List.set_cons_succ]
        refine wpAnyH_take (i := 4) (oi := { dst := some 79, op := Op.move (Operand.tmp 4), type := 3, pos := "outright.go:158", after := #[], guard := none }) (v := .int .i64 tt) rfl (by kernel_rfl) (by kernel_rfl) (by kernel_rfl) (fun _ _ _ h => h) (Or.inl ⟨by rfl, by intro w hS; go_simp⟩) hHeld ?_
        try simp only [Act.put, List.setIfInBounds_toArray, List.set_cons_zero, List.set_cons_succ]
        refine wpAnyH_take (i := 6) (oi := { dst := some 81, op := Op.load 24 (Operand.tmp 15), type := 24, pos := "outright.go:158", after := #[], guard := none }) (v := .agg (ints .u8 W).toArray) rfl (by kernel_rfl) (by kernel_rfl) (by kernel_rfl) (fun _ _ _ h => h) (yieldsIf_load_mid (by rfl) 24 _ rfl b1 (0) rfl (ints .u8 W) _ (fun w hS => (DR.rng hS (.tail _ (.head _)))) Tryd.underlying24 rfl (by rw [ints_len, hWl]; rfl)) hHeld ?_
        try simp only [Act.put, List.setIfInBounds_toArray, List.set_cons_zero, List.set_cons_succ]
        refine wpAnyH_ready (rs := [5]) (by kernel_rfl) (by simp) ?_
        refine (AllReadyH.cons (o := { dst := some 80, op := Op.call { callee := Callee.value (Operand.func 14), args := #[Operand.tmp 75, Operand.tmp 76, Operand.tmp 77, Operand.tmp 78, Operand.tmp 79], argTypes := #[3, 33, 3, 24, 3] }, type := 24, pos := "outright.go:158", after := #[{ on := 0, ground := Ground.data }, { on := 1, ground := Ground.data }, { on := 2, ground := Ground.data }, { on := 3, ground := Ground.data }, { on := 4, ground := Ground.data }], guard := none }) rfl (fun K hK => ?_) AllReadyH.nil)
        go_simp
        go_at_call 14
        refine (KZ.out _ (DR.glob hHeld hG)).mono ?_
        rintro e w4 ⟨rfl, hb4⟩
        go_wp2_with fail
        refine hK.out _ _ (DR.call hHeld hb4) (fun hHeld2 => ?_)
        clear hK K hHeld
        have hHeld := hHeld2
        clear hHeld2
        try simp only [Act.put, List.setIfInBounds_toArray, List.set_cons_zero, List.set_cons_succ]
        refine wpAnyH_take (i := 7) (oi := { dst := some 82, op := Op.binOp BinOp.eql 24 (Operand.tmp 80) (Operand.tmp 81) 24, type := 4, pos := "outright.go:158", after := #[{ on := 5, ground := Ground.data }, { on := 6, ground := Ground.data }], guard := none }) (v := .bool true) rfl (by kernel_rfl) (by kernel_rfl) (by kernel_rfl) (fun _ _ _ h => h) (Or.inl ⟨by rfl, by intro w hS; go_simp⟩) hHeld ?_
        try simp only [Act.put, List.setIfInBounds_toArray, List.set_cons_zero, List.set_cons_succ]
        refine wpAnyH_take (i := 8) (oi := { dst := some 83, op := Op.move (Operand.tmp 82), type := 4, pos := "outright.go:158", after := #[{ on := 7, ground := Ground.data }, { on := 5, ground := Ground.chain }], guard := none }) (v := .bool true) rfl (by kernel_rfl) (by kernel_rfl) (by kernel_rfl) (fun _ _ _ h => h) (Or.inl ⟨by rfl, by intro w hS; go_simp⟩) hHeld ?_
        try simp only [Act.put, List.setIfInBounds_toArray, List.set_cons_zero, List.set_cons_succ]
        refine wpAnyH_take (i := 9) (oi := { dst := some 84, op := Op.move (Operand.tmp 0), type := 3, pos := "outright.go:158", after := #[{ on := 8, ground := Ground.guard }], guard := some (8, true) }) (v := .int .i64 k) rfl (by kernel_rfl) (by kernel_rfl) (by kernel_rfl) (fun _ _ _ h => h) (Or.inl ⟨by rfl, by intro w hS; go_simp⟩) hHeld ?_
        try simp only [Act.put, List.setIfInBounds_toArray, List.set_cons_zero, List.set_cons_succ]
        refine wpAnyH_take (i := 10) (oi := { dst := some 85, op := Op.load 33 (Operand.tmp 7), type := 33, pos := "outright.go:158", after := #[{ on := 8, ground := Ground.guard }], guard := some (8, true) }) (v := .agg (ints .u8 ks).toArray) rfl (by kernel_rfl) (by kernel_rfl) (by kernel_rfl) (fun _ _ _ h => h) (yieldsIf_load_mid (by rfl) 33 _ rfl w.heap.size (0) rfl (ints .u8 ks) _ (fun w hS => (DR.rng hS (.tail _ (.tail _ (.tail _ (.head _)))))) Tryd.underlying33 rfl (by rw [ints_len, hk]; rfl)) hHeld ?_
        try simp only [Act.put, List.setIfInBounds_toArray, List.set_cons_zero, List.set_cons_succ]
        refine wpAnyH_take (i := 11) (oi := { dst := some 86, op := Op.move (Operand.tmp 13), type := 3, pos := "outright.go:158", after := #[{ on := 8, ground := Ground.guard }], guard := some (8, true) }) (v := .int .i64 na) rfl (by kernel_rfl) (by kernel_rfl) (by kernel_rfl) (fun _ _ _ h => h) (Or.inl ⟨by rfl, by intro w hS; go_simp⟩) hHeld ?_
        try simp only [Act.put, List.setIfInBounds_toArray, List.set_cons_zero, List.set_cons_succ]
        refine wpAnyH_take (i := 12) (oi := { dst := some 87, op := Op.move (Operand.tmp 0), type := 3, pos := "outright.go:158", after := #[{ on := 8, ground := Ground.guard }], guard := some (8, true) }) (v := .int .i64 k) rfl (by kernel_rfl) (by kernel_rfl) (by kernel_rfl) (fun _ _ _ h => h) (Or.inl ⟨by rfl, by intro w hS; go_simp⟩) hHeld ?_
        try simp only [Act.put, List.setIfInBounds_toArray, List.set_cons_zero, List.set_cons_succ]
        refine wpAnyH_take (i := 13) (oi := { dst := some 88, op := Op.move (Operand.tmp 13), type := 3, pos := "outright.go:158", after := #[{ on := 8, ground := Ground.guard }], guard := some (8, true) }) (v := .int .i64 na) rfl (by kernel_rfl) (by kernel_rfl) (by kernel_rfl) (fun _ _ _ h => h) (Or.inl ⟨by rfl, by intro w hS; go_simp⟩) hHeld ?_
        try simp only [Act.put, List.setIfInBounds_toArray, List.set_cons_zero, List.set_cons_succ]
        refine wpAnyH_take (i := 15) (oi := { dst := some 90, op := Op.move (Operand.tmp 14), type := 3, pos := "outright.go:158", after := #[{ on := 8, ground := Ground.guard }], guard := some (8, true) }) (v := .int .i64 nc) rfl (by kernel_rfl) (by kernel_rfl) (by kernel_rfl) (fun _ _ _ h => h) (Or.inl ⟨by rfl, by intro w hS; go_simp⟩) hHeld ?_
        try simp only [Act.put, List.setIfInBounds_toArray, List.set_cons_zero, List.set_cons_succ]
        refine wpAnyH_take (i := 17) (oi := { dst := some 92, op := Op.move (Operand.tmp 0), type := 3, pos := "outright.go:158", after := #[{ on := 8, ground := Ground.guard }], guard := some (8, true) }) (v := .int .i64 k) rfl (by kernel_rfl) (by kernel_rfl) (by kernel_rfl) (fun _ _ _ h => h) (Or.inl ⟨by rfl, by intro w hS; go_simp⟩) hHeld ?_
        try simp only [Act.put, List.setIfInBounds_toArray, List.set_cons_zero, List.set_cons_succ]
        refine wpAnyH_take (i := 18) (oi := { dst := some 93, op := Op.move (Operand.tmp 14), type := 3, pos := "outright.go:158", after := #[{ on := 8, ground := Ground.guard }], guard := some (8, true) }) (v := .int .i64 nc) rfl (by kernel_rfl) (by kernel_rfl) (by kernel_rfl) (fun _ _ _ h => h) (Or.inl ⟨by rfl, by intro w hS; go_simp⟩) hHeld ?_
        try simp only [Act.put, List.setIfInBounds_toArray, List.set_cons_zero, List.set_cons_succ]
        refine wpAnyH_ready (rs := [14]) (by kernel_rfl) (by simp) ?_
        refine (AllReadyH.cons (o := { dst := some 89, op := Op.call { callee := Callee.value (Operand.func 6), args := #[Operand.tmp 87, Operand.tmp 88], argTypes := #[3, 3] }, type := 24, pos := "outright.go:158", after := #[{ on := 12, ground := Ground.data }, { on := 13, ground := Ground.data }, { on := 8, ground := Ground.chain }, { on := 8, ground := Ground.guard }], guard := some (8, true) }) rfl (fun K hK => ?_) AllReadyH.nil)
        go_simp
        go_at_call 6
        refine (KEm.out _ (DR.glob hHeld hG) na ha).mono ?_
        rintro e w4 ⟨rfl, hb4⟩
        go_wp2_with fail
        refine hK.out _ _ (DR.call hHeld hb4) (fun hHeld2 => ?_)
        clear hK K hHeld
        have hHeld := hHeld2
        clear hHeld2
        try simp only [Act.put, List.setIfInBounds_toArray, List.set_cons_zero, List.set_cons_succ]
        refine wpAnyH_ready (rs := [16]) (by kernel_rfl) (by simp) ?_
        refine (AllReadyH.cons (o := { dst := some 91, op := Op.call { callee := Callee.value (Operand.func 14), args := #[Operand.tmp 84, Operand.tmp 85, Operand.tmp 86, Operand.tmp 89, Operand.tmp 90], argTypes := #[3, 33, 3, 24, 3] }, type := 24, pos := "outright.go:158", after := #[{ on := 9, ground := Ground.data }, { on := 10, ground := Ground.data }, { on := 11, ground := Ground.data }, { on := 14, ground := Ground.data }, { on := 15, ground := Ground.data }, { on := 14, ground := Ground.chain }, { on := 8, ground := Ground.guard }], guard := some (8, true) }) rfl (fun K hK => ?_) AllReadyH.nil)
        go_simp
        go_at_call 14
        refine (KY5.out _ (DR.glob hHeld hG)).mono ?_
        rintro e w4 ⟨rfl, hb4⟩
        go_wp2_with fail
        refine hK.out _ _ (DR.call hHeld hb4) (fun hHeld2 => ?_)
        clear hK K hHeld
        have hHeld := hHeld2
        clear hHeld2
        try simp only [Act.put, List.setIfInBounds_toArray, List.set_cons_zero, List.set_cons_succ]
        refine wpAnyH_ready (rs := [19]) (by kernel_rfl) (by simp) ?_
        refine (AllReadyH.cons (o := { dst := some 94, op := Op.call { callee := Callee.value (Operand.func 6), args := #[Operand.tmp 92, Operand.tmp 93], argTypes := #[3, 3] }, type := 24, pos := "outright.go:158", after := #[{ on := 17, ground := Ground.data }, { on := 18, ground := Ground.data }, { on := 16, ground := Ground.chain }, { on := 8, ground := Ground.guard }], guard := some (8, true) }) rfl (fun K hK => ?_) AllReadyH.nil)
        go_simp
        go_at_call 6
        refine (KEm.out _ (DR.glob hHeld hG) nc hc).mono ?_
        rintro e w4 ⟨rfl, hb4⟩
        go_wp2_with fail
        refine hK.out _ _ (DR.call hHeld hb4) (fun hHeld2 => ?_)
        clear hK K hHeld
        have hHeld := hHeld2
        clear hHeld2
        try simp only [Act.put, List.setIfInBounds_toArray, List.set_cons_zero, List.set_cons_succ]
        refine wpAnyH_take (i := 20) (oi := { dst := some 95, op := Op.binOp BinOp.eql 24 (Operand.tmp 91) (Operand.tmp 94) 24, type := 4, pos := "outright.go:158", after := #[{ on := 16, ground := Ground.data }, { on := 19, ground := Ground.data }, { on := 8, ground := Ground.guard }], guard := some (8, true) }) (v := .bool true) rfl (by kernel_rfl) (by kernel_rfl) (by kernel_rfl) (fun _ _ _ h => h) (Or.inl ⟨by rfl, by intro w hS; go_simp⟩) hHeld ?_
        try simp only [Act.put, List.setIfInBounds_toArray, List.set_cons_zero, List.set_cons_succ]
        refine wpAnyH_take (i := 21) (oi := { dst := some 96, op := Op.pick (Operand.tmp 83) (Operand.tmp 95) (Operand.const (Value.bool false)), type := 4, pos := "outright.go:158", after := #[{ on := 8, ground := Ground.data }, { on := 20, ground := Ground.data }], guard := none }) (v := .bool true) rfl (by kernel_rfl) (by kernel_rfl) (by kernel_rfl) (fun _ _ _ h => h) (Or.inl ⟨by rfl, by intro w hS; go_simp⟩) hHeld ?_
        try simp only [Act.put, List.setIfInBounds_toArray, List.set_cons_zero, List.set_cons_succ]
        refine wpAnyH_take (i := 22) (oi := { dst := some 12, op := Op.assign (Operand.tmp 96), type := 4, pos := "outright.go:158", after := #[{ on := 21, ground := Ground.data }, { on := 19, ground := Ground.chain }, { on := 0, ground := Ground.phase }, { on := 1, ground := Ground.phase }, { on := 2, ground := Ground.phase }, { on := 3, ground := Ground.phase }, { on := 4, ground := Ground.phase }, { on := 5, ground := Ground.phase }, { on := 6, ground := Ground.phase }, { on := 7, ground := Ground.phase }, { on := 8, ground := Ground.phase }, { on := 9, ground := Ground.phase }, { on := 10, ground := Ground.phase }, { on := 11, ground := Ground.phase }, { on := 12, ground := Ground.phase }, { on := 13, ground := Ground.phase }, { on := 14, ground := Ground.phase }, { on := 15, ground := Ground.phase }, { on := 16, ground := Ground.phase }, { on := 17, ground := Ground.phase }, { on := 18, ground := Ground.phase }, { on := 19, ground := Ground.phase }, { on := 20, ground := Ground.phase }, { on := 21, ground := Ground.phase }], guard := none }) (v := .bool true) rfl (by kernel_rfl) (by kernel_rfl) (by kernel_rfl) (fun _ _ _ h => h) (Or.inl ⟨by rfl, by intro w hS; go_simp⟩) hHeld ?_
        try simp only [Act.put, List.setIfInBounds_toArray, List.set_cons_zero, List.set_cons_succ]
        refine wpAnyH_done (by kernel_rfl) ?_ _
        refine NoPanic.normal ?_
        go_wp2
        go_ret
        exact ⟨rfl, hHeld.1⟩
end Go.Proofs.YtibpffoencjlcaaDoor
