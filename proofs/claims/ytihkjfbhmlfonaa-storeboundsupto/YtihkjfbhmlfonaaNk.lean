import Derived.Test.YtihkjfbhmlfonaaNj
namespace Go.Proofs.Ytihkjfbhmlfonaa
set_option linter.unusedVariables false
set_option linter.unusedSimpArgs false
open Go.RowKit
attribute [local go_sem ↓] Go.wp_at_zero Go.wp_at_succ

def supL (s : Sup) : List Value := [.int .i64 s.wd, .int .i64 s.ge, .int .i64 s.ma, .int .i64 s.hd, .int .i64 s.pg]
theorem guardS : Try.prog.eqGuardType Try.prog.depth 133 = false := by kernel_rfl
theorem eqS (xs ys : List Int) (ha : xs.length = 64) (hb : ys.length = 64) (w : World) :
    (Op.equalIn 10000 133 (.agg (ints .u8 xs).toArray) (.agg (ints .u8 ys).toArray)).run Try.prog w = .ok (decide (xs = ys)) w :=
  equalIn_ints Try.underlying133 Try.underlying5 Try.size5 .u8 xs ys ha hb w
theorem lay_page (sec : List Int) (h : sec.length = 64) : splice (ints .u8 (padz [] 256)) 0 (ints .u8 sec) = ints .u8 (sec ++ List.replicate 192 0) := by
  unfold splice
  rw [List.take_zero, List.nil_append, Nat.zero_add, ints_len, h]
  have e : (ints .u8 (padz [] 256)).drop 64 = ints .u8 (List.replicate 192 0) := by
    unfold padz ints
    rw [List.nil_append, ← List.map_drop, List.drop_replicate]; rfl
  rw [e]
  simp only [ints, List.map_append]
set_option maxRecDepth 100000 in
set_option maxHeartbeats 1000000 in
theorem packSuper_any (w : World) (s : Sup) :
    Calls Try.prog 57 #[.agg (supC s)] w fun e w' => ∃ v, e = .returned (.tuple #[v, .int .i64 (superF s).2]) ∧ New w w' v (superF s).1 ∧ Below w.heap.size w w' := by
  have r0 := hnew w (.cells (supC s) 56)
  have b0 := below_new w (.cells (supC s) 56)
  have KSU := hid (show (Try.prog.info? 56).map (·.size) = some (supC s).size by rw [size_super]; rfl)
  cases hv : validS s
  · have HF := hid (superF_bad s hv)
    go_enter Try.func57, Try.ntmps57
    go_wp2_with (first
      | (refine wpList_load_row_w rfl 56 (.tmp 1) rfl w.heap.size rfl 56 (supC s) (0, 0) _ r0 Try.underlying56 rfl KSU.out ?_))
    refine (valid_any _ s).mono ?_
    rintro e w1 ⟨rfl, b1⟩
    rw [hv]
    have B1 := b0.trans (b1.mono b0.size)
    clear b1 b0 r0
    go_wp2
    go_ret2
    exact ⟨_, by rw [HF.out]; rfl, by rw [HF.out]; exact Or.inl ⟨rfl, rfl⟩, B1⟩
  · have HF := hid (superF_ok s hv)
    obtain ⟨i5, hi5, hz5, hs5, hy5⟩ := Try.info5
    have HI := hid hi5
    clear hi5
    have K1 := hid (show i5.bytes * 256 ≤ 281474976710656 by rw [hy5]; omega)
    have K2 := hid (show 256 ≤ maxLen by unfold maxLen; omega)
    have hlen := secS_len s
    go_enter Try.func57, Try.ntmps57
    go_wp2_with (first
      | (refine wpList_load_row_w rfl 56 (.tmp 1) rfl w.heap.size rfl 56 (supC s) (0, 0) _ r0 Try.underlying56 rfl KSU.out ?_))
    refine (valid_any _ s).mono ?_
    rintro e w1 ⟨rfl, b1⟩
    rw [hv]
    replace hv := hid hv
    have B1 := b0.trans (b1.mono b0.size)
    have r1 := hbel b1 r0 (hlt r0)
    clear b1 b0 r0
    go_wp2_with (first
      | (refine wpList_load_row_w rfl 56 (.tmp 1) rfl w.heap.size rfl 56 (supC s) (0, 0) _ r1 Try.underlying56 rfl KSU.out ?_))
    refine (laySuper_any w1 s hv.out).mono ?_
    rintro e w2 ⟨rfl, b2⟩
    have B2 := B1.trans (b2.mono B1.size)
    clear b2 B1 r1
    generalize hsec : secS s = sec at *
    replace hsec := hid hsec
    have K3 := hid (show (Try.prog.info? 133).map (·.size) = some (ints .u8 sec).toArray.size by rw [size_sector, ints_size, hlen])
    have K4 := hid (show (ints .u8 (zz 64)).toArray.size = (ints .u8 sec).toArray.size by rw [ints_size, ints_size, hlen, zz_len])
    have ho := hid (all_oneCell_toArray (ints_one .u8 sec))
    have KC := hid (show (ints .u8 sec).length = Nat.min 64 256 by rw [ints_len, hlen]; rfl)
    have KF := hid (show 0 + (ints .u8 sec).length ≤ (ints .u8 (padz [] 256)).length by rw [ints_len, ints_len, padz_len _ _ (by simp), hlen]; decide)
    have KO := hid (ints_one .u8 sec)
    have KS := hid (lay_page sec hlen)
    have rS := hnew w2 (Obj.cells (ints .u8 sec).toArray 133 (0, 0))
    have BA : Below w.heap.size w (w2.alloc (Obj.cells (ints .u8 sec).toArray 133 (0, 0))) := B2.alloc B2.size _
    have HG := hid B2.size
    replace hlen := hid hlen
    go_wp2_with (first
      | (refine wpList_alloc64 rfl rfl ?_)
      | (refine wpList_store_row rfl 133 _ _ rfl _ _ rfl rfl 133 _ (by exact hnew _ _) K3.out (by exact K4.out) ho.out ?_; rw [setRow_alloc]; generalize w2.alloc (Obj.cells (ints .u8 sec).toArray 133 (0, 0)) = w3 at *; generalize w2.heap.size = G at *)
      | (refine wpList_make_full _ rfl _ _ 36 rfl w3.heap.size 5 i5 (.int .u8 0) 1 Try.underlying36 HI.out hz5 hs5 .i64 .i64 _ _ 256 rfl rfl rfl rfl K1.out K2.out (Nat.le_refl _) ?_; intro w4 hO4 hg4; have hB4 := grown_keeps hg4 (fun k hk => by cases hk) (Nat.le_refl w3.heap.size); have hr4 := made_row hO4; have rS4 := hbel hB4 rS (hlt rS); clear hg4 hO4)
      | (refine wpList_copy_splice rfl (.tmp 12) (.tmp 13) 36 36 rfl 5 Try.underlying36 Try.size5 (some ⟨w3.heap.size, 0, none⟩) (some ⟨G, 0, none⟩) 256 256 64 64 rfl rfl w3.heap.size 0 (ints .u8 (padz [] 256)) 5 hr4 (ints .u8 sec) KC.out (fun h => ⟨rfl, ⟨G, 0, none⟩, rfl, fun j v hv => by rw [Addr.add_mid, Nat.zero_add, cell_of_row _ _ _ _ _ _ rS4]; simpa using hv⟩) KF.out KO.out w3.heap.size w3 hB4 (Nat.le_refl _) ?_; intro w5 hr5 hB5))
    have r6 := hr5.out
    rw [KS.out] at r6
    have B6 := BA.trans (hB5.mono BA.size)
    have HG2 := BA.size
    clear hr5 hB5 hr4 hB4 rS4 rS BA
    go_ret2
    refine ⟨_, by rw [HF.out]; rfl, Or.inr ⟨?_, w3.heap.size, ?_, HG2, ?_⟩, B6⟩
    · rw [HF.out]; intro h0; have := hlen.out; simp at h0
    · rw [HF.out]; simp [hlen.out]
    · rw [HF.out]; exact r6
theorem results_c2 {P : Program} {fn : Func} {p q : Tmp} {ty : TypeId} (h : fn.results = #[.cell p ty, .tmp q]) (tmps : Array Value) (w : World) (g : Nat) (t : TypeId) (cs : Array Value) (fr : Nat × Nat) (d : TypeDesc)
    (hp : tmps.getD p undef = .pointer (some ⟨g, 0, none⟩)) (hg : w.heap[g]? = some (.cells cs t fr))
    (hu : P.underlying ty = some d) (hd : (match d with | .struct _ | .array _ _ => true | _ => false) = true) (hi : (P.info? ty).map (·.size) = some cs.size) :
    (results fn tmps).run P w = .ok (.tuple #[.agg cs, tmps.getD q undef]) w := by
  have hp' : tmps[p]?.getD undef = .pointer (some ⟨g, 0, none⟩) := by simpa using hp
  simp [results, h, hp', asAddr, run_loadVar_row w g t ty cs fr d hg hu hd hi]
theorem supC0 : supC sup0 = #[.int .i64 0, .int .i64 0, .int .i64 0, .int .i64 0, .int .i64 0] := rfl
theorem zero_super (w : World) : w.alloc (.cells #[.int .i64 0, .int .i64 0, .int .i64 0, .int .i64 0, .int .i64 0] 56) = w.alloc (.cells (supC sup0) 56) := rfl
set_option maxRecDepth 100000 in
set_option maxHeartbeats 1000000 in
theorem unSuper_short (w : World) (r : List Int) (hl : r.length ≠ 256) (hlm : r.length ≤ maxLen) (sp : Option Addr) (cap : Nat) :
    Calls Try.prog 76 #[.slice sp r.length cap] w fun e w' => e = .returned (.tuple #[.agg (supC sup0), .int .i64 53]) ∧ Below w.heap.size w w' := by
  unfold maxLen at hlm
  have hl2 : ((r.length : Int) != 256) = true := by simp; omega
  have i0 : (r.length : Int) ≤ 9223372036854775807 := by omega
  have r0 := hnew w (.cells (supC sup0) 56)
  have b0 := below_new w (.cells (supC sup0) 56)
  clear hl
  go_enter Try.func76, Try.ntmps76
  go_wp2
  exact bodyPost_ret (v := .tuple #[.agg (supC sup0), .int .i64 53]) (results_c2 Try.results76 _ _ w.heap.size 56 _ _ _ rfl r0 Try.underlying56 rfl (by rw [size_super]; rfl)) rfl ⟨rfl, b0⟩
set_option maxRecDepth 100000 in
set_option maxHeartbeats 2000000 in
theorem unSuper_any (w : World) (r : List Int) (h8 : Byts r) (sp : Option Addr) (cap : Nat) (hS : Src w sp cap r) :
    Calls Try.prog 76 #[.slice sp r.length cap] w fun e w' => e = .returned (.tuple #[.agg (supC (unSuperF r).1), .int .i64 (unSuperF r).2]) ∧ Below w.heap.size w w' := by
  by_cases hl : ¬ r.length = 256
  · have HF : unSuperF r = (sup0, 53) := by rw [unSuperF, if_pos hl]
    rw [HF]
    exact unSuper_short w r hl (Nat.le_trans hS.1 hS.2.1) sp cap
  replace hl : r.length = 256 := Classical.not_not.1 hl
  rw [hl]
  have r0 := hnew w (.cells (supC sup0) 56)
  have b0 := below_new w (.cells (supC sup0) 56)
  have hS0 := hS.below b0 (Nat.le_refl _)
  have hfs := firstSector_any (w.alloc (.cells (supC sup0) 56)) r 256 cap sp (by omega) hl.symm hS0
  have hl64 : (r.take 64).length = 64 := by rw [List.length_take]; omega
  have hb64 : Byts (r.take 64) := h8.take 64
  have HU := hid (show unSuperF r = (if feed ones (r.take 64) ≠ CR then (sup0, 52)
    else if validS (readS (r.take 64)) = false ∨ secS (readS (r.take 64)) ≠ r.take 64 then (sup0, 53) else (readS (r.take 64), 0)) by rw [unSuperF, if_neg (by simp [hl])])
  clear hS hS0 hl
  generalize r.take 64 = sec at *
  have K3 := hid (show (Try.prog.info? 133).map (·.size) = some (ints .u8 sec).toArray.size by rw [size_sector, ints_size, hl64])
  have KSZ := hid (show (Try.prog.info? 133).map (·.size) = some (ints .u8 sec).length by rw [size_sector, ints_len, hl64])
  have K4 := hid (show (ints .u8 (zz 64)).toArray.size = (ints .u8 sec).toArray.size by rw [ints_size, ints_size, hl64, zz_len])
  have ho := hid (all_oneCell_toArray (ints_one .u8 sec))
  go_enter Try.func76, Try.ntmps76
  go_wp2_with fail
  refine hfs.mono ?_
  rintro e w2 ⟨rfl, b2⟩
  have B2 := b0.trans (b2.mono b0.size)
  have r2 := hbel b2 r0 (hlt r0)
  have rS := hnew w2 (Obj.cells (ints .u8 sec).toArray 133 (0, 0))
  have bS := below_new w2 (Obj.cells (ints .u8 sec).toArray 133 (0, 0))
  clear b2 b0 r0 hfs
  have hw := whole_L (w2.alloc (Obj.cells (ints .u8 sec).toArray 133 (0, 0))) sec hb64 (by omega) (some ⟨w2.heap.size, 0, none⟩) 64 (src_rowf rS 64 (by omega) (by decide))
  rw [hl64] at hw
  have r3 := hbel bS r2 (hlt r2)
  have B3 := B2.trans (bS.mono B2.size)
  have hGs : w.heap.size < w2.heap.size := hlt r2
  clear bS B2 r2
  go_wp2_with (first
    | (refine wpList_alloc64 rfl rfl ?_)
    | (refine wpList_store_row rfl 133 _ _ rfl _ _ rfl rfl 133 _ (by exact hnew _ _) K3.out (by exact K4.out) ho.out ?_; rw [setRow_alloc]; generalize w2.alloc (Obj.cells (ints .u8 sec).toArray 133 (0, 0)) = w3 at *; generalize w2.heap.size = G4 at *))
  refine hw.mono ?_
  rintro e w4 ⟨rfl, b4⟩
  have r4 := hbel b4 r3 (hlt r3)
  have s4 := hbel b4 rS (hlt rS)
  have B4 := B3.trans (b4.mono B3.size)
  clear hw b4 B3 r3 rS
  by_cases hC : feed ones sec = CR
  case neg =>
    have HF := hid (show unSuperF r = (sup0, 52) by rw [HU.out, if_pos hC])
    rw [show decide (feed ones sec = CR) = false by simpa using hC]
    clear HU hC
    go_wp2_with (first
      | (refine wpList_store_row rfl 56 _ _ rfl w.heap.size (supC sup0) rfl rfl 56 _ r4 (by rw [size_super]; rfl) rfl (by simp [supC, Value.oneCell']) ?_; have R9 := setRow_heap w4 _ _ (supC sup0) _ _ r4; have BF := below_setRow B4 (Nat.le_refl _) (supC sup0)))
    exact bodyPost_ret (v := .tuple #[.agg (supC sup0), .int .i64 52]) (results_c2 Try.results76 _ _ w.heap.size 56 _ _ _ rfl R9 Try.underlying56 rfl (by rw [size_super]; rfl)) rfl ⟨by rw [HF.out], BF⟩
  rw [show decide (feed ones sec = CR) = true by simpa using hC]
  replace HU := hid (show unSuperF r = (if validS (readS sec) = false ∨ secS (readS sec) ≠ sec then (sup0, 53) else (readS sec, 0)) by rw [HU.out, if_neg (by simp [hC])])
  have hrd := readSuper_any w4 sec hb64 hl64
  clear hC
  go_wp2_with (first
    | (refine wpList_load_row_w rfl 133 (.tmp 4) rfl G4 rfl 133 (ints .u8 sec).toArray (0, 0) _ s4 Try.underlying133 rfl K3.out ?_))
  refine hrd.mono ?_
  rintro e w5 ⟨rfl, b5⟩
  have r5 := hbel b5 r4 (hlt r4)
  have s5 := hbel b5 s4 (hlt s4)
  have B5 := B4.trans (b5.mono B4.size)
  clear hrd b5 B4 r4 s4
  obtain ⟨s, hs⟩ : ∃ s, s = readS sec := ⟨_, rfl⟩
  rw [← hs] at HU ⊢
  have HSS := hid hs
  clear hs
  have KU1 := hid (show (Try.prog.info? 56).map (·.size) = some (supC s).size by rw [size_super]; rfl)
  have KU2 := hid (show (supC s).all (·.oneCell') = true by simp [supC, Value.oneCell'])
  have KU3 := hid (show (#[.int .i64 0, .int .i64 0, .int .i64 0, .int .i64 0, .int .i64 0] : Array Value).size = (supC s).size from rfl)
  go_wp2_with (first
    | (refine wpList_store_row rfl 56 (.tmp 5) (.tmp 17) rfl w5.heap.size (supC s) rfl rfl 56 _ (by exact hnew _ _) KU1.out KU3.out KU2.out ?_; rw [setRow_alloc]))
  have KZ1 := hid (show (Try.prog.info? 56).map (·.size) = some (supC sup0).size by rw [size_super]; rfl)
  have KZ2 := hid (show (supC sup0).all (·.oneCell') = true by simp [supC, Value.oneCell'])
  have KZ4 := hid (show (supC sup0).size = (supC s).size from rfl)
  have s7 := hnew w5 (.cells (supC s) 56)
  have b7' := below_new w5 (.cells (supC s) 56)
  have r7 := hbel b7' r5 (hlt r5)
  have q7 := hbel b7' s5 (hlt s5)
  have B7 := B5.trans (b7'.mono B5.size)
  simp only [Act.put]
  generalize w5.alloc (.cells (supC s) 56) = W7 at *
  generalize w5.heap.size = G5 at *
  have HS := hid (fun (w' : World) (hB : Below W7.heap.size W7 w') => show w'.rangeAt G5 0 (supL s) ∧ w'.rangeAt G4 0 (ints .u8 sec) from ⟨rng (hbel hB s7 (hlt s7)), rng (hbel hB q7 (hlt q7))⟩)
  have HR := hid (fun (w' : World) (hB : Below W7.heap.size W7 w') => show w'.heap[w.heap.size]? = some (.cells (supC sup0) 56 (0, 0)) ∧ w'.heap[G5]? = some (.cells (supC s) 56 (0, 0)) ∧ Below w.heap.size w w' from ⟨hbel hB r7 (hlt r7), hbel hB s7 (hlt s7), B7.trans (hB.mono B7.size)⟩)
  clear s7 b7' r7 q7 B7 r5 s5 B5
  cases hv : validS s
  · have HV := hid hv
    have HF := hid (show unSuperF r = (sup0, 53) by rw [HU.out, if_pos (Or.inl hv)])
    clear hv HU
    refine wp_region_noPanic ?_
    refine wp_region_held_drew (S := fun w' => w'.rangeAt G5 0 (supL s) ∧ w'.rangeAt G4 0 (ints .u8 sec)) (by kernel_rfl) (HS.out _ (Below.refl _ _).drew) (fun hHeld => ?_)
    refine wpAnyH_take (i := 0) (oi := { dst := some 18, op := Op.load 56 (Operand.tmp 5), type := 56, pos := "super.go:47", after := #[], guard := none }) (v := .agg (supL s).toArray) rfl (by kernel_rfl) (by kernel_rfl) (by kernel_rfl) (fun _ _ _ h => h) (yieldsIf_load_mid (by rfl) 56 _ rfl G5 (0) rfl (supL s) _ (fun w hS => hS.1) Try.underlying56 rfl (by rw [size_super]; rfl)) hHeld ?_
    try simp only [Act.put, List.setIfInBounds_toArray, List.set_cons_zero, List.set_cons_succ]
    refine wpAnyH_ready (rs := [1]) (by kernel_rfl) (by simp) ?_
    refine (AllReadyH.cons (o := { dst := some 19, op := Op.call { callee := Callee.value (Operand.func 79), args := #[Operand.tmp 18], argTypes := #[56] }, type := 4, pos := "super.go:47", after := #[{ on := 0, ground := Ground.data }], guard := none }) rfl (fun K hK => ?_) AllReadyH.nil)
    go_simp
    go_at_call 79
    refine (valid_any _ s).mono ?_
    rintro e w6 ⟨rfl, bb6⟩
    rw [HV.out]
    have b6 : Below W7.heap.size W7 w6 := (Below.refl _ W7).drew.trans bb6
    clear bb6
    go_wp2_with fail
    refine hK.out _ _ (HS.out _ b6) (fun hHeld2 => ?_)
    clear hK K hHeld
    have hHeld := hHeld2
    clear hHeld2
    try simp only [Act.put, List.setIfInBounds_toArray, List.set_cons_zero, List.set_cons_succ]
    refine wpAnyH_take (i := 2) (oi := { dst := some 20, op := Op.unOp UnOp.not 4 (Operand.tmp 19), type := 4, pos := "super.go:47", after := #[{ on := 1, ground := Ground.data }], guard := none }) (v := .bool true) rfl (by kernel_rfl) (by kernel_rfl) (by kernel_rfl) (fun _ _ _ h => h) (Or.inl ⟨by rfl, by intro w hS; go_simp⟩) hHeld ?_
    try simp only [Act.put, List.setIfInBounds_toArray, List.set_cons_zero, List.set_cons_succ]
    refine wpAnyH_take (i := 3) (oi := { dst := some 21, op := Op.move (Operand.tmp 20), type := 4, pos := "super.go:47", after := #[{ on := 2, ground := Ground.data }, { on := 1, ground := Ground.chain }], guard := none }) (v := .bool true) rfl (by kernel_rfl) (by kernel_rfl) (by kernel_rfl) (fun _ _ _ h => h) (Or.inl ⟨by rfl, by intro w hS; go_simp⟩) hHeld ?_
    try simp only [Act.put, List.setIfInBounds_toArray, List.set_cons_zero, List.set_cons_succ]
    refine wpAnyH_take (i := 4) (oi := { dst := some 22, op := Op.load 56 (Operand.tmp 5), type := 56, pos := "super.go:47", after := #[{ on := 3, ground := Ground.guard }], guard := some (3, false) }) (v := undef) rfl (by kernel_rfl) (by kernel_rfl) (by kernel_rfl) (fun _ _ _ h => h) (Or.inr ⟨by rfl, rfl⟩) hHeld ?_
    try simp only [Act.put, List.setIfInBounds_toArray, List.set_cons_zero, List.set_cons_succ]
    refine wpAnyH_take (i := 6) (oi := { dst := some 24, op := Op.load 133 (Operand.tmp 4), type := 133, pos := "super.go:47", after := #[{ on := 3, ground := Ground.guard }], guard := some (3, false) }) (v := undef) rfl (by kernel_rfl) (by kernel_rfl) (by kernel_rfl) (fun _ _ _ h => h) (Or.inr ⟨by rfl, rfl⟩) hHeld ?_
    try simp only [Act.put, List.setIfInBounds_toArray, List.set_cons_zero, List.set_cons_succ]
    refine wpAnyH_take (i := 5) (oi := { dst := some 23, op := Op.call { callee := Callee.value (Operand.func 80), args := #[Operand.tmp 22], argTypes := #[56] }, type := 133, pos := "super.go:47", after := #[{ on := 4, ground := Ground.data }, { on := 3, ground := Ground.chain }, { on := 3, ground := Ground.guard }], guard := some (3, false) }) (v := undef) rfl (by kernel_rfl) (by kernel_rfl) (by kernel_rfl) (fun _ _ _ h => h) (Or.inr ⟨by rfl, rfl⟩) hHeld ?_
    try simp only [Act.put, List.setIfInBounds_toArray, List.set_cons_zero, List.set_cons_succ]
    refine wpAnyH_take (i := 7) (oi := { dst := some 25, op := Op.binOp BinOp.neq 133 (Operand.tmp 23) (Operand.tmp 24) 133, type := 4, pos := "super.go:47", after := #[{ on := 5, ground := Ground.data }, { on := 6, ground := Ground.data }, { on := 3, ground := Ground.guard }], guard := some (3, false) }) (v := undef) rfl (by kernel_rfl) (by kernel_rfl) (by kernel_rfl) (fun _ _ _ h => h) (Or.inr ⟨by rfl, rfl⟩) hHeld ?_
    try simp only [Act.put, List.setIfInBounds_toArray, List.set_cons_zero, List.set_cons_succ]
    refine wpAnyH_take (i := 8) (oi := { dst := some 26, op := Op.pick (Operand.tmp 21) (Operand.const (Value.bool true)) (Operand.tmp 25), type := 4, pos := "super.go:47", after := #[{ on := 3, ground := Ground.data }, { on := 7, ground := Ground.data }], guard := none }) (v := .bool true) rfl (by kernel_rfl) (by kernel_rfl) (by kernel_rfl) (fun _ _ _ h => h) (Or.inl ⟨by rfl, by intro w hS; go_simp⟩) hHeld ?_
    try simp only [Act.put, List.setIfInBounds_toArray, List.set_cons_zero, List.set_cons_succ]
    refine wpAnyH_done (by kernel_rfl) ?_ _
    refine NoPanic.normal ?_
    clear hHeld
    obtain ⟨r8, s8, B8⟩ := HR.out _ b6
    go_wp2_with (first | (refine wpList_store_row rfl 56 _ _ rfl w.heap.size (supC sup0) rfl rfl 56 _ r8 KZ1.out rfl KZ2.out ?_; have R9 := setRow_heap w6 _ _ (supC sup0) _ _ r8; have BF := below_setRow B8 (Nat.le_refl _) (supC sup0)))
    exact bodyPost_ret (v := .tuple #[.agg (supC sup0), .int .i64 53]) (results_c2 Try.results76 _ _ w.heap.size 56 _ _ _ rfl R9 Try.underlying56 rfl KZ1.out) rfl ⟨by rw [HF.out], BF⟩
  have HV := hid hv
  clear hv
  by_cases hD : secS s = sec
  · have HF := hid (show unSuperF r = (s, 0) by rw [HU.out, if_neg (by simp [HV.out, hD])])
    have KQ := hid (fun w => show (Op.equalIn 10000 133 (.agg (ints .u8 (secS s)).toArray) (.agg (ints .u8 sec).toArray)).run Try.prog w = .ok true w by rw [eqS _ _ (secS_len s) hl64 w, show decide (secS s = sec) = true by simpa using hD])
    clear hD HU
    refine wp_region_noPanic ?_
    refine wp_region_held_drew (S := fun w' => w'.rangeAt G5 0 (supL s) ∧ w'.rangeAt G4 0 (ints .u8 sec)) (by kernel_rfl) (HS.out _ (Below.refl _ _).drew) (fun hHeld => ?_)
    refine wpAnyH_take (i := 0) (oi := { dst := some 18, op := Op.load 56 (Operand.tmp 5), type := 56, pos := "super.go:47", after := #[], guard := none }) (v := .agg (supL s).toArray) rfl (by kernel_rfl) (by kernel_rfl) (by kernel_rfl) (fun _ _ _ h => h) (yieldsIf_load_mid (by rfl) 56 _ rfl G5 (0) rfl (supL s) _ (fun w hS => hS.1) Try.underlying56 rfl (by rw [size_super]; rfl)) hHeld ?_
    try simp only [Act.put, List.setIfInBounds_toArray, List.set_cons_zero, List.set_cons_succ]
    refine wpAnyH_ready (rs := [1]) (by kernel_rfl) (by simp) ?_
    refine (AllReadyH.cons (o := { dst := some 19, op := Op.call { callee := Callee.value (Operand.func 79), args := #[Operand.tmp 18], argTypes := #[56] }, type := 4, pos := "super.go:47", after := #[{ on := 0, ground := Ground.data }], guard := none }) rfl (fun K hK => ?_) AllReadyH.nil)
    go_simp
    go_at_call 79
    refine (valid_any _ s).mono ?_
    rintro e w6 ⟨rfl, bb6⟩
    rw [HV.out]
    have b6 : Below W7.heap.size W7 w6 := (Below.refl _ W7).drew.trans bb6
    clear bb6
    go_wp2_with fail
    refine hK.out _ _ (HS.out _ b6) (fun hHeld2 => ?_)
    clear hK K hHeld
    have hHeld := hHeld2
    clear hHeld2
    try simp only [Act.put, List.setIfInBounds_toArray, List.set_cons_zero, List.set_cons_succ]
    refine wpAnyH_take (i := 2) (oi := { dst := some 20, op := Op.unOp UnOp.not 4 (Operand.tmp 19), type := 4, pos := "super.go:47", after := #[{ on := 1, ground := Ground.data }], guard := none }) (v := .bool false) rfl (by kernel_rfl) (by kernel_rfl) (by kernel_rfl) (fun _ _ _ h => h) (Or.inl ⟨by rfl, by intro w hS; go_simp⟩) hHeld ?_
    try simp only [Act.put, List.setIfInBounds_toArray, List.set_cons_zero, List.set_cons_succ]
    refine wpAnyH_take (i := 3) (oi := { dst := some 21, op := Op.move (Operand.tmp 20), type := 4, pos := "super.go:47", after := #[{ on := 2, ground := Ground.data }, { on := 1, ground := Ground.chain }], guard := none }) (v := .bool false) rfl (by kernel_rfl) (by kernel_rfl) (by kernel_rfl) (fun _ _ _ h => h) (Or.inl ⟨by rfl, by intro w hS; go_simp⟩) hHeld ?_
    try simp only [Act.put, List.setIfInBounds_toArray, List.set_cons_zero, List.set_cons_succ]
    refine wpAnyH_take (i := 4) (oi := { dst := some 22, op := Op.load 56 (Operand.tmp 5), type := 56, pos := "super.go:47", after := #[{ on := 3, ground := Ground.guard }], guard := some (3, false) }) (v := .agg (supL s).toArray) rfl (by kernel_rfl) (by kernel_rfl) (by kernel_rfl) (fun _ _ _ h => h) (yieldsIf_load_mid (by rfl) 56 _ rfl G5 (0) rfl (supL s) _ (fun w hS => hS.1) Try.underlying56 rfl (by rw [size_super]; rfl)) hHeld ?_
    try simp only [Act.put, List.setIfInBounds_toArray, List.set_cons_zero, List.set_cons_succ]
    refine wpAnyH_take (i := 6) (oi := { dst := some 24, op := Op.load 133 (Operand.tmp 4), type := 133, pos := "super.go:47", after := #[{ on := 3, ground := Ground.guard }], guard := some (3, false) }) (v := .agg (ints .u8 sec).toArray) rfl (by kernel_rfl) (by kernel_rfl) (by kernel_rfl) (fun _ _ _ h => h) (yieldsIf_load_mid (by rfl) 133 _ rfl G4 (0) rfl (ints .u8 sec) _ (fun w hS => hS.2) Try.underlying133 rfl KSZ.out) hHeld ?_
    try simp only [Act.put, List.setIfInBounds_toArray, List.set_cons_zero, List.set_cons_succ]
    refine wpAnyH_ready (rs := [5]) (by kernel_rfl) (by simp) ?_
    refine (AllReadyH.cons (o := { dst := some 23, op := Op.call { callee := Callee.value (Operand.func 80), args := #[Operand.tmp 22], argTypes := #[56] }, type := 133, pos := "super.go:47", after := #[{ on := 4, ground := Ground.data }, { on := 3, ground := Ground.chain }, { on := 3, ground := Ground.guard }], guard := some (3, false) }) rfl (fun K hK => ?_) AllReadyH.nil)
    go_simp
    go_at_call 80
    refine (laySuper_any _ s HV.out).mono ?_
    rintro e w7 ⟨rfl, bb7⟩
    have b7 := b6.trans (bb7.mono b6.size)
    go_wp2_with fail
    refine hK.out _ _ (HS.out _ b7) (fun hHeld2 => ?_)
    clear hK K hHeld
    have hHeld := hHeld2
    clear hHeld2
    try simp only [Act.put, List.setIfInBounds_toArray, List.set_cons_zero, List.set_cons_succ]
    refine wpAnyH_take (i := 7) (oi := { dst := some 25, op := Op.binOp BinOp.neq 133 (Operand.tmp 23) (Operand.tmp 24) 133, type := 4, pos := "super.go:47", after := #[{ on := 5, ground := Ground.data }, { on := 6, ground := Ground.data }, { on := 3, ground := Ground.guard }], guard := some (3, false) }) (v := .bool false) rfl (by kernel_rfl) (by kernel_rfl) (by kernel_rfl) (fun _ _ _ h => h) (Or.inl ⟨by rfl, by intro w hS; have q := KQ.out w; have gq := guardS; go_simp⟩) hHeld ?_
    try simp only [Act.put, List.setIfInBounds_toArray, List.set_cons_zero, List.set_cons_succ]
    refine wpAnyH_take (i := 8) (oi := { dst := some 26, op := Op.pick (Operand.tmp 21) (Operand.const (Value.bool true)) (Operand.tmp 25), type := 4, pos := "super.go:47", after := #[{ on := 3, ground := Ground.data }, { on := 7, ground := Ground.data }], guard := none }) (v := .bool false) rfl (by kernel_rfl) (by kernel_rfl) (by kernel_rfl) (fun _ _ _ h => h) (Or.inl ⟨by rfl, by intro w hS; go_simp⟩) hHeld ?_
    try simp only [Act.put, List.setIfInBounds_toArray, List.set_cons_zero, List.set_cons_succ]
    refine wpAnyH_done (by kernel_rfl) ?_ _
    refine NoPanic.normal ?_
    clear hHeld
    obtain ⟨r8, s8, B8⟩ := HR.out _ b7
    go_wp2_with (first | (refine wpList_load_row_w rfl 56 (.tmp 5) rfl G5 rfl 56 (supC s) (0, 0) _ s8 Try.underlying56 rfl KU1.out ?_) | (refine wpList_store_row rfl 56 _ _ rfl w.heap.size (supC s) rfl rfl 56 _ r8 KU1.out KZ4.out KU2.out ?_; have R9 := setRow_heap w7 _ _ (supC s) _ _ r8; have BF := below_setRow B8 (Nat.le_refl _) (supC s)))
    exact bodyPost_ret (v := .tuple #[.agg (supC s), .int .i64 0]) (results_c2 Try.results76 _ _ w.heap.size 56 _ _ _ rfl R9 Try.underlying56 rfl KU1.out) rfl ⟨by rw [HF.out], BF⟩
  · have HF := hid (show unSuperF r = (sup0, 53) by rw [HU.out, if_pos (Or.inr hD)])
    have KQ := hid (fun w => show (Op.equalIn 10000 133 (.agg (ints .u8 (secS s)).toArray) (.agg (ints .u8 sec).toArray)).run Try.prog w = .ok false w by rw [eqS _ _ (secS_len s) hl64 w, show decide (secS s = sec) = false by simpa using hD])
    clear hD HU
    refine wp_region_noPanic ?_
    refine wp_region_held_drew (S := fun w' => w'.rangeAt G5 0 (supL s) ∧ w'.rangeAt G4 0 (ints .u8 sec)) (by kernel_rfl) (HS.out _ (Below.refl _ _).drew) (fun hHeld => ?_)
    refine wpAnyH_take (i := 0) (oi := { dst := some 18, op := Op.load 56 (Operand.tmp 5), type := 56, pos := "super.go:47", after := #[], guard := none }) (v := .agg (supL s).toArray) rfl (by kernel_rfl) (by kernel_rfl) (by kernel_rfl) (fun _ _ _ h => h) (yieldsIf_load_mid (by rfl) 56 _ rfl G5 (0) rfl (supL s) _ (fun w hS => hS.1) Try.underlying56 rfl (by rw [size_super]; rfl)) hHeld ?_
    try simp only [Act.put, List.setIfInBounds_toArray, List.set_cons_zero, List.set_cons_succ]
    refine wpAnyH_ready (rs := [1]) (by kernel_rfl) (by simp) ?_
    refine (AllReadyH.cons (o := { dst := some 19, op := Op.call { callee := Callee.value (Operand.func 79), args := #[Operand.tmp 18], argTypes := #[56] }, type := 4, pos := "super.go:47", after := #[{ on := 0, ground := Ground.data }], guard := none }) rfl (fun K hK => ?_) AllReadyH.nil)
    go_simp
    go_at_call 79
    refine (valid_any _ s).mono ?_
    rintro e w6 ⟨rfl, bb6⟩
    rw [HV.out]
    have b6 : Below W7.heap.size W7 w6 := (Below.refl _ W7).drew.trans bb6
    clear bb6
    go_wp2_with fail
    refine hK.out _ _ (HS.out _ b6) (fun hHeld2 => ?_)
    clear hK K hHeld
    have hHeld := hHeld2
    clear hHeld2
    try simp only [Act.put, List.setIfInBounds_toArray, List.set_cons_zero, List.set_cons_succ]
    refine wpAnyH_take (i := 2) (oi := { dst := some 20, op := Op.unOp UnOp.not 4 (Operand.tmp 19), type := 4, pos := "super.go:47", after := #[{ on := 1, ground := Ground.data }], guard := none }) (v := .bool false) rfl (by kernel_rfl) (by kernel_rfl) (by kernel_rfl) (fun _ _ _ h => h) (Or.inl ⟨by rfl, by intro w hS; go_simp⟩) hHeld ?_
    try simp only [Act.put, List.setIfInBounds_toArray, List.set_cons_zero, List.set_cons_succ]
    refine wpAnyH_take (i := 3) (oi := { dst := some 21, op := Op.move (Operand.tmp 20), type := 4, pos := "super.go:47", after := #[{ on := 2, ground := Ground.data }, { on := 1, ground := Ground.chain }], guard := none }) (v := .bool false) rfl (by kernel_rfl) (by kernel_rfl) (by kernel_rfl) (fun _ _ _ h => h) (Or.inl ⟨by rfl, by intro w hS; go_simp⟩) hHeld ?_
    try simp only [Act.put, List.setIfInBounds_toArray, List.set_cons_zero, List.set_cons_succ]
    refine wpAnyH_take (i := 4) (oi := { dst := some 22, op := Op.load 56 (Operand.tmp 5), type := 56, pos := "super.go:47", after := #[{ on := 3, ground := Ground.guard }], guard := some (3, false) }) (v := .agg (supL s).toArray) rfl (by kernel_rfl) (by kernel_rfl) (by kernel_rfl) (fun _ _ _ h => h) (yieldsIf_load_mid (by rfl) 56 _ rfl G5 (0) rfl (supL s) _ (fun w hS => hS.1) Try.underlying56 rfl (by rw [size_super]; rfl)) hHeld ?_
    try simp only [Act.put, List.setIfInBounds_toArray, List.set_cons_zero, List.set_cons_succ]
    refine wpAnyH_take (i := 6) (oi := { dst := some 24, op := Op.load 133 (Operand.tmp 4), type := 133, pos := "super.go:47", after := #[{ on := 3, ground := Ground.guard }], guard := some (3, false) }) (v := .agg (ints .u8 sec).toArray) rfl (by kernel_rfl) (by kernel_rfl) (by kernel_rfl) (fun _ _ _ h => h) (yieldsIf_load_mid (by rfl) 133 _ rfl G4 (0) rfl (ints .u8 sec) _ (fun w hS => hS.2) Try.underlying133 rfl KSZ.out) hHeld ?_
    try simp only [Act.put, List.setIfInBounds_toArray, List.set_cons_zero, List.set_cons_succ]
    refine wpAnyH_ready (rs := [5]) (by kernel_rfl) (by simp) ?_
    refine (AllReadyH.cons (o := { dst := some 23, op := Op.call { callee := Callee.value (Operand.func 80), args := #[Operand.tmp 22], argTypes := #[56] }, type := 133, pos := "super.go:47", after := #[{ on := 4, ground := Ground.data }, { on := 3, ground := Ground.chain }, { on := 3, ground := Ground.guard }], guard := some (3, false) }) rfl (fun K hK => ?_) AllReadyH.nil)
    go_simp
    go_at_call 80
    refine (laySuper_any _ s HV.out).mono ?_
    rintro e w7 ⟨rfl, bb7⟩
    have b7 := b6.trans (bb7.mono b6.size)
    go_wp2_with fail
    refine hK.out _ _ (HS.out _ b7) (fun hHeld2 => ?_)
    clear hK K hHeld
    have hHeld := hHeld2
    clear hHeld2
    try simp only [Act.put, List.setIfInBounds_toArray, List.set_cons_zero, List.set_cons_succ]
    refine wpAnyH_take (i := 7) (oi := { dst := some 25, op := Op.binOp BinOp.neq 133 (Operand.tmp 23) (Operand.tmp 24) 133, type := 4, pos := "super.go:47", after := #[{ on := 5, ground := Ground.data }, { on := 6, ground := Ground.data }, { on := 3, ground := Ground.guard }], guard := some (3, false) }) (v := .bool true) rfl (by kernel_rfl) (by kernel_rfl) (by kernel_rfl) (fun _ _ _ h => h) (Or.inl ⟨by rfl, by intro w hS; have q := KQ.out w; have gq := guardS; go_simp⟩) hHeld ?_
    try simp only [Act.put, List.setIfInBounds_toArray, List.set_cons_zero, List.set_cons_succ]
    refine wpAnyH_take (i := 8) (oi := { dst := some 26, op := Op.pick (Operand.tmp 21) (Operand.const (Value.bool true)) (Operand.tmp 25), type := 4, pos := "super.go:47", after := #[{ on := 3, ground := Ground.data }, { on := 7, ground := Ground.data }], guard := none }) (v := .bool true) rfl (by kernel_rfl) (by kernel_rfl) (by kernel_rfl) (fun _ _ _ h => h) (Or.inl ⟨by rfl, by intro w hS; go_simp⟩) hHeld ?_
    try simp only [Act.put, List.setIfInBounds_toArray, List.set_cons_zero, List.set_cons_succ]
    refine wpAnyH_done (by kernel_rfl) ?_ _
    refine NoPanic.normal ?_
    clear hHeld
    obtain ⟨r8, s8, B8⟩ := HR.out _ b7
    go_wp2_with (first | (refine wpList_store_row rfl 56 _ _ rfl w.heap.size (supC sup0) rfl rfl 56 _ r8 KZ1.out rfl KZ2.out ?_; have R9 := setRow_heap w7 _ _ (supC sup0) _ _ r8; have BF := below_setRow B8 (Nat.le_refl _) (supC sup0)))
    exact bodyPost_ret (v := .tuple #[.agg (supC sup0), .int .i64 53]) (results_c2 Try.results76 _ _ w.heap.size 56 _ _ _ rfl R9 Try.underlying56 rfl KZ1.out) rfl ⟨by rw [HF.out], BF⟩
end Go.Proofs.Ytihkjfbhmlfonaa
