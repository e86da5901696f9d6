import Derived.Test.YtbnghhgeoodphaaGreatDoorDa1
namespace Go.Proofs.YtbnghhgeoodphaaGreatDoor
set_option maxRecDepth 100000
set_option maxHeartbeats 40000000
set_option linter.unusedVariables false
set_option linter.unusedSimpArgs false
open Go.RowKit
attribute [local go_sem ↓] Go.wp_at_zero Go.wp_at_succ
theorem hc_set_block (st bk : List Int) (tk : Int) (j : Nat) (x : Int) (h1 : st.length = 8) (h2 : bk.length = 64) (hj : j < 64) : (hcells st bk tk).set (8 + j) (.int .u8 x) = hcells st (bk.set j x) tk := by
 have e1 : (ints .u32 st).length = 8 := by rw [ints_len, h1]
 have e2 : (ints .u8 bk).length = 64 := by rw [ints_len, h2]
 unfold hcells
 rw [List.set_append_right _ _ (by omega), e1, show 8 + j - 8 = j by omega, List.set_append_left _ _ (by omega)]
 simp [ints, List.map_set]
theorem hc_set_taken (st bk : List Int) (tk tk' : Int) (h1 : st.length = 8) (h2 : bk.length = 64) : (hcells st bk tk).set 72 (.int .u64 tk') = hcells st bk tk' := by
 have e1 : (ints .u32 st).length = 8 := by rw [ints_len, h1]
 have e2 : (ints .u8 bk).length = 64 := by rw [ints_len, h2]
 unfold hcells
 rw [List.set_append_right _ _ (by omega), e1, List.set_append_right _ _ (by omega), e2]
 rfl
theorem Hsh.setB {w : World} {g : Nat} {st bk : List Int} {tk : Int} (h : Hsh w g st bk tk) (j : Nat) (x : Int) (hj : j < 64) : w.setCell ⟨g, 8 + j, none⟩ (.int .u8 x) = w.setRow g (hcells st (bk.set j x) tk).toArray /\ Hsh (w.setRow g (hcells st (bk.set j x) tk).toArray) g st (bk.set j x) tk := by
 refine ⟨?_, setRow_heap _ _ _ _ _ _ h.1, h.2.1, by simp [h.2.2]⟩
 rw [setCell_eq_setRow w g _ _ _ _ _ h.1, <- hc_set_block st bk tk j x h.2.1 h.2.2 hj]; simp
theorem Hsh.setT {w : World} {g : Nat} {st bk : List Int} {tk : Int} (h : Hsh w g st bk tk) (tk' : Int) : w.setCell ⟨g, 72, none⟩ (.int .u64 tk') = w.setRow g (hcells st bk tk').toArray /\ Hsh (w.setRow g (hcells st bk tk').toArray) g st bk tk' := by
 refine ⟨?_, setRow_heap _ _ _ _ _ _ h.1, h.2.1, h.2.2⟩
 rw [setCell_eq_setRow w g _ _ _ _ _ h.1, <- hc_set_taken st bk tk tk' h.2.1 h.2.2]; simp
theorem Hsh.cellB {w : World} {g : Nat} {st bk : List Int} {tk : Int} (h : Hsh w g st bk tk) (j : Nat) (hj : j < 64) : w.cell? ⟨g, 8 + j, none⟩ = some (.int .u8 (bk.getD j 0)) := h.block j _ (ints_get .u8 bk j (by rw [h.2.2]; exact hj))
theorem Hsh.fz {w : World} {g : Nat} {st bk : List Int} {tk : Int} (h : Hsh w g st bk tk) (j : Nat) : w.frozen? ⟨g, j, none⟩ = false := frozen_of_row _ _ _ _ _ h.1
def lb (L : Int) (i : Nat) : Int := IntKind.u8.wrap (L / 2 ^ (8 * (i : Int)).toNat)
def lenTo (bk : List Int) (L : Int) : Nat -> List Int
 | 0 => bk
 | n + 1 => (lenTo bk L n).set (63 - n) (lb L n)
def lenBits (tk : Int) : Int := IntKind.u64.wrap (tk * 8)
theorem lenBits_bd (tk : Int) : 0 <= lenBits tk /\ lenBits tk <= 18446744073709551615 := bounds_u64 (wf_wrap .u64 _)
theorem pad_lo (w : World) (g : Nat) (st bk : List Int) (tk : Int) (h : Hsh w g st bk tk) (hbd : Bd8 st) (hG : Glob w) (hg : 2 <= g) (h0 : 0 <= tk) (h1 : tk <= 18446744073709551615)
   (a : Nat) (HA : Hid (tk % 64 = a)) (ha : (a : Int) < 56) (L : Int) (HL : Hid (IntKind.u64.wrap (tk * 8) = L)) (hL0 : 0 <= L) (hL1 : L <= 18446744073709551615) (bk1 : List Int) (HB : Hid (bk.set a 128 = bk1)) :
   Calls Tryz.prog 118 #[.pointer (some ⟨g, 0, none⟩)] w fun e w' => e = .returned (.tuple #[]) /\ Hsh w' g (mixF st (lenTo bk1 L 8)) z64 tk /\ Keeps g w w' := by
 have KF := hid (filled_any w g st bk tk h h0 h1)
 rw [HA.out] at KF
 have a1 : (a : Int) < 64 := by omega
 have a2 : a < 64 := by omega
 have cB := h.cellB a a2
 have fB := h.fz (8 + a)
 obtain ⟨e1, hs1⟩ := h.setB a 128 a2
 rw [HB.out] at e1 hs1
 have cT : (w.setCell ⟨g, 8 + a, none⟩ (.int .u8 128)).cell? ⟨g, 72, none⟩ = some (.int .u64 tk) := by rw [e1]; exact hs1.taken
 have E1 := hid e1
 clear e1
 have ha' : ((56 : Int) <= (a : Int)) = False := by simp; omega
 go_enter Tryz.func118, Tryz.ntmps118
 go_wp2_with fail
 refine KF.out.mono ?_
 rintro e w' ⟨rfl, rfl⟩
 go_wp2
 rw [E1.out, HL.out]
 have k1 : Keeps g w' (w'.setRow g (hcells st bk1 tk).toArray) := (Keeps.refl g w').setRow _
 generalize w'.setRow g (hcells st bk1 tk).toArray = w1 at *
 clear h cB fB cT E1 KF HA HL HB ha'
 go_loopw [4, 21] (fun _ i wr => ∃ n : Nat, n <= 8 /\ i = .int .i64 n /\ Hsh wr g st (lenTo bk1 L n) tk /\ Keeps g w' wr) (fun _ i _ => 8 - (intOf i).toNat)
 case atStart => exact ⟨0, by omega, rfl, hs1, k1⟩
 case round =>
   clear hs1 k1
   obtain ⟨n, hn, rfl, hs, hk⟩ := hrel
   by_cases hlt : n < 8
   · have i1 : (n : Int) < 8 := by omega
     have i2 : (n : Int) <= 63 := by omega
     have i3 : 63 - (n : Int) < 64 := by omega
     have r1 : IntKind.i64.wrap (63 - (n : Int)) = 63 - (n : Int) := wrap_i64_id _ (by omega) (by omega)
     have r2 : IntKind.i64.wrap (8 * (n : Int)) = 8 * (n : Int) := wrap_i64_id _ (by omega) (by omega)
     have cB := hs.cellB (63 - n) (by omega)
     have fB := hs.fz (8 + (63 - n))
     go_wp2
     go_region_held3 (fun w' => True) (trivial) (fail)
     obtain ⟨e2, h2⟩ := hs.setB (63 - n) (lb L n) (by omega)
     have k2 : Keeps g w' (wr.setRow g (hcells st ((lenTo bk1 L n).set (63 - n) (lb L n)) tk).toArray) := hk.setRow _
     rw [show IntKind.u8.wrap (L / 2 ^ (8 * (n : Int)).toNat) = lb L n from rfl, e2]
     rw [show (lenTo bk1 L n).set (63 - n) (lb L n) = lenTo bk1 L (n + 1) from rfl] at h2 k2 ⊢
     generalize wr.setRow g (hcells st (lenTo bk1 L (n + 1)) tk).toArray = w2 at *
     clear e2
     go_wp2
     go_roundw
     case rel => exact ⟨n + 1, by omega, by go_num, h2, k2.drew⟩
     case measure => simp [intOf]; omega
   · obtain rfl : n = 8 := by omega
     go_wp2_with fail
     refine (mixBlock_any wr g st (lenTo bk1 L 8) tk hs hbd (hk.glob hG hg)).mono ?_
     rintro e w3 ⟨rfl, h3, k3⟩
     go_wp2
     go_end0
     exact ⟨rfl, h3, hk.trans k3⟩
theorem pad_hi (w : World) (g : Nat) (st bk : List Int) (tk : Int) (h : Hsh w g st bk tk) (hbd : Bd8 st) (hG : Glob w) (hg : 2 <= g) (h0 : 0 <= tk) (h1 : tk <= 18446744073709551615)
   (a : Nat) (HA : Hid (tk % 64 = a)) (ha : (56 : Int) <= (a : Int)) (a1 : (a : Int) < 64) (L : Int) (HL : Hid (IntKind.u64.wrap (tk * 8) = L)) (hL0 : 0 <= L) (hL1 : L <= 18446744073709551615) (bk1 : List Int) (HB : Hid (bk.set a 128 = bk1)) :
   Calls Tryz.prog 118 #[.pointer (some ⟨g, 0, none⟩)] w fun e w' => e = .returned (.tuple #[]) /\ Hsh w' g (mixF (mixF st bk1) (lenTo z64 L 8)) z64 tk /\ Keeps g w w' := by
 have KF := hid (filled_any w g st bk tk h h0 h1)
 rw [HA.out] at KF
 have a2 : a < 64 := by omega
 have cB := h.cellB a a2
 have fB := h.fz (8 + a)
 obtain ⟨e1, hs1⟩ := h.setB a 128 a2
 rw [HB.out] at e1 hs1
 have cT : (w.setCell ⟨g, 8 + a, none⟩ (.int .u8 128)).cell? ⟨g, 72, none⟩ = some (.int .u64 tk) := by rw [e1]; exact hs1.taken
 have E1 := hid e1
 clear e1
 go_enter Tryz.func118, Tryz.ntmps118
 go_wp2_with fail
 refine KF.out.mono ?_
 rintro e w' ⟨rfl, rfl⟩
 go_wp2_with fail
 rw [E1.out]
 have k0 : Keeps g w' (w'.setRow g (hcells st bk1 tk).toArray) := (Keeps.refl g w').setRow _
 generalize w'.setRow g (hcells st bk1 tk).toArray = w0 at *
 refine (mixBlock_any w0 g st bk1 tk hs1 hbd (k0.glob hG hg)).mono ?_
 rintro e w1 ⟨rfl, hs2, k2⟩
 have k1 := k0.trans k2
 have hbd2 := mixF_bd st bk1
 have cT2 := hs2.taken
 clear cT hs1 k0 k2
 have hs1 := hs2
 clear hs2
 go_wp2
 rw [HL.out]
 clear h cB fB cT2 E1 KF HA HL
 go_loopw [4, 21] (fun _ i wr => ∃ n : Nat, n <= 8 /\ i = .int .i64 n /\ Hsh wr g (mixF st bk1) (lenTo z64 L n) tk /\ Keeps g w' wr) (fun _ i _ => 8 - (intOf i).toNat)
 case atStart => exact ⟨0, by omega, rfl, hs1, k1⟩
 case round =>
   clear hs1 k1
   obtain ⟨n, hn, rfl, hs, hk⟩ := hrel
   by_cases hlt : n < 8
   · have i1 : (n : Int) < 8 := by omega
     have i2 : (n : Int) <= 63 := by omega
     have i3 : 63 - (n : Int) < 64 := by omega
     have r1 : IntKind.i64.wrap (63 - (n : Int)) = 63 - (n : Int) := wrap_i64_id _ (by omega) (by omega)
     have r2 : IntKind.i64.wrap (8 * (n : Int)) = 8 * (n : Int) := wrap_i64_id _ (by omega) (by omega)
     have cB := hs.cellB (63 - n) (by omega)
     have fB := hs.fz (8 + (63 - n))
     go_wp2
     go_region_held3 (fun w' => True) (trivial) (fail)
     obtain ⟨e2, h2⟩ := hs.setB (63 - n) (lb L n) (by omega)
     have k2 : Keeps g w' (wr.setRow g (hcells (mixF st bk1) ((lenTo z64 L n).set (63 - n) (lb L n)) tk).toArray) := hk.setRow _
     rw [show IntKind.u8.wrap (L / 2 ^ (8 * (n : Int)).toNat) = lb L n from rfl, e2]
     rw [show (lenTo z64 L n).set (63 - n) (lb L n) = lenTo z64 L (n + 1) from rfl] at h2 k2 ⊢
     generalize wr.setRow g (hcells (mixF st bk1) (lenTo z64 L (n + 1)) tk).toArray = w2 at *
     clear e2
     go_wp2
     go_roundw
     case rel => exact ⟨n + 1, by omega, by go_num, h2, k2.drew⟩
     case measure => simp [intOf]; omega
   · obtain rfl : n = 8 := by omega
     go_wp2_with fail
     refine (mixBlock_any wr g (mixF st bk1) (lenTo z64 L 8) tk hs hbd2 (hk.glob hG hg)).mono ?_
     rintro e w3 ⟨rfl, h3, k3⟩
     go_wp2
     go_end0
     exact ⟨rfl, h3, hk.trans k3⟩
def padS (st bk : List Int) (tk : Int) : List Int :=
 if tk % 64 < 56 then mixF st (lenTo (bk.set (tk % 64).toNat 128) (lenBits tk) 8) else mixF (mixF st (bk.set (tk % 64).toNat 128)) (lenTo z64 (lenBits tk) 8)
theorem padS_bd (st bk : List Int) (tk : Int) : Bd8 (padS st bk tk) := by unfold padS; split <;> exact mixF_bd _ _
theorem padS_len (st bk : List Int) (tk : Int) (h : st.length = 8) (hb : Bd8 st) : (padS st bk tk).length = 8 := by
 unfold padS; split
 · exact mixF_len _ _ h hb
 · exact mixF_len _ _ (mixF_len _ _ h hb) (mixF_bd _ _)
theorem pad_any (w : World) (g : Nat) (st bk : List Int) (tk : Int) (h : Hsh w g st bk tk) (hbd : Bd8 st) (hG : Glob w) (hg : 2 <= g) (h0 : 0 <= tk) (h1 : tk <= 18446744073709551615) :
   Calls Tryz.prog 118 #[.pointer (some ⟨g, 0, none⟩)] w fun e w' => e = .returned (.tuple #[]) /\ Hsh w' g (padS st bk tk) z64 tk /\ Keeps g w w' := by
 have hL := lenBits_bd tk
 obtain ⟨a, ha⟩ := Int.eq_ofNat_of_zero_le (show 0 <= tk % 64 by omega)
 have ea : (tk % 64).toNat = a := by omega
 unfold padS
 rw [ea]
 by_cases c : tk % 64 < 56
 · rw [if_pos c]
   exact pad_lo w g st bk tk h hbd hG hg h0 h1 a (hid ha) (by omega) (lenBits tk) (hid rfl) hL.1 hL.2 _ (hid rfl)
 · rw [if_neg c]
   exact pad_hi w g st bk tk h hbd hG hg h0 h1 a (hid ha) (by omega) (by omega) (lenBits tk) (hid rfl) hL.1 hL.2 _ (hid rfl)
theorem setRow_alloc2 (w : World) (A : Obj) (cs ds : Array Value) (t : TypeId) (fr : Nat × Nat) : ((w.alloc A).alloc (.cells cs t fr)).setRow (w.heap.size + 1) ds = (w.alloc A).alloc (.cells ds t fr) := by
 have := setRow_alloc (w.alloc A) cs ds t fr
 simpa using this
def z32 : List Int := padz [] 32
theorem hsum_any (w : World) (g : Nat) (st bk : List Int) (tk : Int) (h : Hsh w g st bk tk) (hbd : Bd8 st) (hG : Glob w) (h0 : 0 <= tk) (h1 : tk <= 18446744073709551615) :
   Calls Tryz.prog 89 #[.pointer (some ⟨g, 0, none⟩)] w fun e w' => e = .returned (.agg (ints .u8 (stBytes (padS st bk tk))).toArray) /\ Below w.heap.size w w' := by
 have hl := hcells_len st bk tk h.2.1 h.2.2
 have ho := all_oneCell_toArray (hcells_one st bk tk)
 have hgl := hlt h.1
 have hz := zero55
 have hzl := zh_len
 have hw0 := hG.1
 have hg1 := hold (o := Obj.cells (ints .u8 z32).toArray 47) h.1
 go_enter Tryz.func89, Tryz.ntmps89
 go_wp2_with (first | refine wpList_load_row rfl 180 _ rfl _ rfl 180 _ _ _ (by exact hg1) Tryz.underlying180 rfl (by rw [Tryz.size180]; simp [hl]) ?_ | (refine wpList_store_row rfl 180 _ _ rfl (w.heap.size + 1) _ rfl rfl 180 _ (by exact heap_alloc2_new w _ _) (by rw [Tryz.size180]; simp [hl]) (by simp [hl, hzl]) ho ?_))
 rw [setRow_alloc2]
 show Calls Tryz.prog 118 _ ((w.alloc (Obj.cells (ints .u8 z32).toArray 47)).alloc (Obj.cells (hcells st bk tk).toArray 180)) _
 have d1 : Hsh ((w.alloc (Obj.cells (ints .u8 z32).toArray 47)).alloc (Obj.cells (hcells st bk tk).toArray 180)) (w.heap.size + 1) st bk tk := ⟨heap_alloc2_new w _ _, h.2.1, h.2.2⟩
 have d0 : ((w.alloc (Obj.cells (ints .u8 z32).toArray 47)).alloc (Obj.cells (hcells st bk tk).toArray 180)).heap[w.heap.size]? = some (Obj.cells (ints .u8 z32).toArray 47) := heap_alloc2_old w _ _
 have hB : Below w.heap.size w ((w.alloc (Obj.cells (ints .u8 z32).toArray 47)).alloc (Obj.cells (hcells st bk tk).toArray 180)) := ((Below.refl _ _).alloc (Nat.le_refl _) _).alloc (by simp) _
 have hG1 := hG.below hB hw0
 clear ho hz hg1
 generalize (w.alloc (Obj.cells (ints .u8 z32).toArray 47)).alloc (Obj.cells (hcells st bk tk).toArray 180) = w1 at *
 refine (pad_any w1 (w.heap.size + 1) st bk tk d1 hbd hG1 (by omega) h0 h1).mono ?_
 rintro e w2 ⟨rfl, d2, k2⟩
 have f0 := k2.heap d0 (by omega)
 have hB2 : Below w.heap.size w w2 := hB.trans (k2.below_g (by omega) hB.size)
 have hpl := padS_len st bk tk h.2.1 hbd
 have hpb := padS_bd st bk tk
 clear d0 d1 k2 hB hG1
 have S1 := d2.state
 go_wp2_with (first | refine wpList_load_mid rfl 177 _ rfl (w.heap.size + 1) 0 rfl (ints .u32 (padS st bk tk)) _ S1 Tryz.underlying177 rfl (by rw [Tryz.size177, ints_len, hpl]) ?_)
 refine (stateBytes_any (padS st bk tk) hpl hpb w2).mono ?_
 rintro e w3 ⟨rfl, hb3⟩
 have f3 := hbel hb3 f0 (hlt f0)
 have hB3 : Below w.heap.size w w3 := hB2.trans (hb3.mono hB2.size)
 have hsl : (stBytes (padS st bk tk)).length = 32 := by rw [stBytes_len, hpl]
 have ho := all_oneCell_toArray (ints_one .u8 (stBytes (padS st bk tk)))
 have hz32 : z32.length = 32 := rfl
 go_wp2_with (first | refine wpList_store_row rfl 47 _ _ rfl _ _ rfl rfl 47 _ f3 (by rw [Tryz.size47, ints_size, hsl]) (by rw [ints_size, ints_size, hsl, hz32]) ho ?_)
 exact bodyPost_ret (v := .agg (ints .u8 (stBytes (padS st bk tk))).toArray) (results_cell_row Tryz.results89 _ _ w.heap.size 47 _ _ _ rfl (setRow_heap _ _ _ _ _ _ f3) Tryz.underlying47 rfl (by rw [Tryz.size47, ints_size, hsl])) rfl ⟨rfl, below_setRow hB3 (Nat.le_refl _) _⟩
end Go.Proofs.YtbnghhgeoodphaaGreatDoor
namespace Go.Proofs.YtbnghhgeoodphaaGreatDoor
set_option maxRecDepth 100000
set_option maxHeartbeats 40000000
set_option linter.unusedVariables false
set_option linter.unusedSimpArgs false
open Go.RowKit
def stN (m : List Int) : Nat -> List Int
 | 0 => fTab
 | n + 1 => mixF (stN m n) ((m.drop (64 * n)).take 64)
def stOf (m : List Int) : List Int := stN m (m.length / 64)
def restOf (m : List Int) : List Int := m.drop (64 * (m.length / 64))
theorem fTab_bd : Bd8 fTab := by intro x hx; revert x hx; decide
theorem stN_ok (m : List Int) : ∀ n, (stN m n).length = 8 /\ Bd8 (stN m n)
 | 0 => ⟨rfl, fTab_bd⟩
 | n + 1 => ⟨mixF_len _ _ (stN_ok m n).1 (stN_ok m n).2, mixF_bd _ _⟩
theorem stOf_len (m : List Int) : (stOf m).length = 8 := (stN_ok m _).1
theorem stOf_bd (m : List Int) : Bd8 (stOf m) := (stN_ok m _).2
theorem restOf_len (m : List Int) : (restOf m).length = m.length % 64 := by simp [restOf]; omega
theorem stN_append (m y : List Int) : ∀ n, 64 * n <= m.length -> stN (m ++ y) n = stN m n
 | 0, _ => rfl
 | n + 1, h => by
   rw [stN, stN, stN_append m y n (by omega), List.drop_append_of_le_length (by omega), List.take_append_of_le_length (by simp; omega)]
theorem text_part (m y : List Int) (h : (restOf m).length + y.length < 64) : stOf (m ++ y) = stOf m /\ restOf (m ++ y) = restOf m ++ y := by
 rw [restOf_len] at h
 have e : (m ++ y).length / 64 = m.length / 64 := by simp; omega
 constructor
 · rw [stOf, e, stN_append m y _ (by omega)]; rfl
 · rw [restOf, e, List.drop_append_of_le_length (by omega)]; rfl
theorem text_full (m y : List Int) (h : (restOf m).length + y.length = 64) : stOf (m ++ y) = mixF (stOf m) (restOf m ++ y) /\ restOf (m ++ y) = [] := by
 have h' := h
 rw [restOf_len] at h
 have e : (m ++ y).length / 64 = m.length / 64 + 1 := by simp; omega
 constructor
 · rw [stOf, e, stN, stN_append m y _ (by omega), List.drop_append_of_le_length (by omega)]
   show mixF (stOf m) ((restOf m ++ y).take 64) = _
   rw [List.take_of_length_le (by simp; omega)]
 · rw [restOf, e]; exact List.drop_eq_nil_of_le (by simp; omega)
def HsT (w : World) (g : Nat) (m : List Int) : Prop := Hsh w g (stOf m) (padz (restOf m) 64) m.length
theorem HsT.nil {w : World} {g : Nat} (h : w.heap[g]? = some (.cells (hcells fTab z64 0).toArray 180 (0, 0))) : HsT w g [] := ⟨h, rfl, rfl⟩
def sha (m : List Int) : List Int := stBytes (padS (stOf m) (padz (restOf m) 64) m.length)
theorem sha_len (m : List Int) : (sha m).length = 32 := by rw [sha, stBytes_len, padS_len _ _ _ (stOf_len m) (stOf_bd m)]
theorem hsumT_any (w : World) (g : Nat) (m : List Int) (h : HsT w g m) (hG : Glob w) (hm : m.length <= 4611686018427387904) :
   Calls Tryz.prog 89 #[.pointer (some ⟨g, 0, none⟩)] w fun e w' => e = .returned (.agg (ints .u8 (sha m)).toArray) /\ Below w.heap.size w w' :=
 hsum_any w g _ _ _ h (stOf_bd m) hG (by omega) (by omega)
theorem hc_splice (st r y : List Int) (tk : Int) (h1 : st.length = 8) (h2 : r.length + y.length <= 64) : (hcells st (padz r 64) tk).take (8 + r.length) ++ ints .u8 y ++ (hcells st (padz r 64) tk).drop (8 + r.length + (ints .u8 y).length) = hcells st (padz (r ++ y) 64) tk := by
 have e1 : (ints .u32 st).length = 8 := by rw [ints_len, h1]
 have e2 : (ints .u8 r).length = r.length := ints_len _ _
 have e3 : (ints .u8 y).length = y.length := ints_len _ _
 have ep : ints .u8 (padz r 64) = ints .u8 r ++ List.replicate (64 - r.length) (.int .u8 0) := by simp [ints, padz]
 have ep2 : ints .u8 (padz (r ++ y) 64) = ints .u8 r ++ (ints .u8 y ++ List.replicate (64 - (r.length + y.length)) (.int .u8 0)) := by simp [ints, padz]
 unfold hcells
 rw [ep, ep2, e3]
 have hsplit : List.replicate (64 - r.length) (Value.int .u8 0) = List.replicate y.length (.int .u8 0) ++ List.replicate (64 - (r.length + y.length)) (.int .u8 0) := by
   rw [List.replicate_append_replicate]; congr 1; omega
 rw [hsplit]
 have t1 : (ints .u32 st ++ (ints .u8 r ++ (List.replicate y.length (Value.int .u8 0) ++ List.replicate (64 - (r.length + y.length)) (.int .u8 0)) ++ [Value.int .u64 tk])) = (ints .u32 st ++ ints .u8 r) ++ (List.replicate y.length (Value.int .u8 0) ++ (List.replicate (64 - (r.length + y.length)) (.int .u8 0) ++ [Value.int .u64 tk])) := by simp only [List.append_assoc]
 rw [t1, List.take_left' (by simp [e1, e2]), <- List.append_assoc (ints .u32 st ++ ints .u8 r) (List.replicate y.length _), List.drop_left' (by simp [e1, e2]; omega)]
 simp
end Go.Proofs.YtbnghhgeoodphaaGreatDoor
namespace Go.Proofs.YtbnghhgeoodphaaGreatDoor
set_option maxRecDepth 100000
set_option maxHeartbeats 40000000
set_option linter.unusedVariables false
set_option linter.unusedSimpArgs false
open Go.RowKit
attribute [local go_sem ↓] Go.wp_at_zero Go.wp_at_succ
theorem HsT_full {w : World} {g : Nat} {M r y : List Int} (hr : restOf M = r) (h : r.length + y.length = 64) (hs : Hsh w g (mixF (stOf M) (padz (r ++ y) 64)) z64 ((M.length : Int) + (y.length : Int))) : HsT w g (M ++ y) := by
 subst hr
 obtain ⟨e1, e2⟩ := text_full M y h
 unfold HsT
 rw [e1, e2, List.length_append, Int.natCast_add]
 rwa [padz_full _ _ (by simpa using h)] at hs
theorem HsT_part {w : World} {g : Nat} {M r y : List Int} (hr : restOf M = r) (h : r.length + y.length < 64) (hs : Hsh w g (stOf M) (padz (r ++ y) 64) ((M.length : Int) + (y.length : Int))) : HsT w g (M ++ y) := by
 subst hr
 obtain ⟨e1, e2⟩ := text_part M y h
 unfold HsT
 rwa [e1, e2, List.length_append, Int.natCast_add]
def lenOf : Value -> Nat | .slice _ l _ => l | _ => 0
theorem write_any (w : World) (g : Nat) (m zs : List Int) (b o : Nat) (sp : Option Addr) (cap : Nat) (h : HsT w g m) (hG : Glob w) (hg4 : 2 <= g) (hlen : m.length + zs.length <= 4611686018427387904)
   (hsp : 0 < zs.length -> sp = some ⟨b, o, none⟩) (hbg : b ≠ g) (hcap : zs.length <= cap) (hcap2 : cap <= maxLen) (hsrc : ∀ j, j < zs.length -> w.cell? ⟨b, o + j, none⟩ = some (.int .u8 (zs.getD j 0))) :
   Calls Tryz.prog 88 #[.pointer (some ⟨g, 0, none⟩), .slice sp zs.length cap] w fun e w' => e = .returned (.tuple #[]) /\ HsT w' g (m ++ zs) /\ Keeps g w w' := by
 unfold maxLen at hcap2
 go_enter Tryz.func88, Tryz.ntmps88
 go_wp2
 go_loopw [1, 4] (fun v _ wr => ∃ (k L : Nat) (sp' : Option Addr) (cap' : Nat), k + L = zs.length /\ v = .slice sp' L cap' /\ L <= cap' /\ cap' <= cap /\ (0 < L -> sp' = some ⟨b, o + k, none⟩) /\ HsT wr g (m ++ zs.take k) /\ Keeps g w wr) (fun v _ _ => lenOf v)
 case atStart => exact ⟨0, zs.length, sp, cap, by omega, rfl, hcap, Nat.le_refl _, hsp, by simpa using h, Keeps.refl _ _⟩
 case round =>
   obtain ⟨k, L, sp', cap', hkL, rfl, hLc, hcc, hsp', hT, hk⟩ := hrel
   by_cases hL : 0 < L
   · obtain rfl := hsp' hL
     clear hsp'
     have hM : (m ++ zs.take k).length = m.length + k := by simp; omega
     have htake : ∀ n, n <= L -> m ++ zs.take (k + n) = (m ++ zs.take k) ++ (zs.drop k).take n := fun n hn => by
       rw [List.take_add, List.append_assoc]
     have hcell : ∀ j, j < L -> wr.cell? ⟨b, o + k + j, none⟩ = some (.int .u8 (zs.getD (k + j) 0)) := fun j hj => by
       have h1 := hsrc (k + j) (by omega)
       rw [<- Nat.add_assoc] at h1
       have hb : b < w.heap.size := block_lt_of_cell h1
       rw [<- h1]; exact World.cell?_of_block (w := w) (hk.block b hb hbg)
     generalize hMM : m ++ zs.take k = M at *
     have hMl : M.length <= 4611686018427387904 := by omega
     have hrl := restOf_len M
     have hst := stOf_len M
     have hbd := stOf_bd M
     unfold HsT at hT
     generalize hn : min L (64 - (restOf M).length) = n at *
     have hn0 : 0 < n := by omega
     have hnL : n <= L := by omega
     have hn64 : (restOf M).length + n <= 64 := by omega
     have HN := hid hn
     clear hn
     have hy : ((zs.drop k).take n).length = n := by simp; omega
     have hyg : ∀ j, j < n -> ((zs.drop k).take n).getD j 0 = zs.getD (k + j) 0 := fun j hj => by
       simp [List.getElem?_take, hj]
     generalize hyy : (zs.drop k).take n = y at *
     generalize hrr : restOf M = r at *
     have i0 : (0 : Int) < (L : Int) := by omega
     have KF := hid (filled_any wr.drew g _ _ _ hT (by omega) (by omega))
     have rlt : r.length < 64 := by omega
     rw [show ((M.length : Int) % 64) = ((r.length : Nat) : Int) by omega] at KF
     have hsrcY : ∀ j v, (ints .u8 y)[j]? = some v -> wr.drew.cell? ((⟨b, o + k, none⟩ : Addr).add j) = some v := fun j v hv => by
       have hj : j < y.length := by have := (List.getElem?_eq_some_iff.1 hv).1; rwa [ints_len] at this
       rw [ints_get .u8 y j hj, hyg j (by omega)] at hv
       rw [Addr.add_mid, <- hv]; exact hcell j (by omega)
     have hfit : 8 + r.length + (ints .u8 y).length <= (hcells (stOf M) (padz r 64) M.length).length := by
       rw [hcells_len _ _ _ hst (padz_len _ _ (by omega)), ints_len]; omega
     have hspl := hc_splice (stOf M) r y M.length hst (by omega)
     have hyn : (ints .u8 y).length = Nat.min L (64 - r.length) := by rw [ints_len, hy]; exact HN.out.symm
     have HYN := hid hyn
     clear hyn
     have HM := hid hM
     have HMM := hid hMM
     have HRL := hid hrl
     have HY := hid hy
     have HYY := hid hyy
     have HRR := hid hrr
     have HNN := HN.out
     have HTK := hid htake
     generalize hrl2 : r.length = rl at *
     have HR2 := hid hrl2
     have i1 : (rl : Int) <= 64 := by omega
     have i3 : ¬ 64 = rl := by omega
     have i2 : (0 : Int) <= (rl : Int) := by omega
     clear hM hMM hrl hy hyy hrr hrl2 hyg hcell htake hsrc HNN
     go_wp2
     go_region_held3 (fun w' => True) (trivial) (first | (go_at_call 116; refine KF.out.mono ?_; rintro e w' ⟨rfl, rfl⟩) | (refine step_copy_row ?_ (.tmp 13) (.tmp 14) 58 58 ?_ 5 Tryz.underlying58 Tryz.size5 ⟨b, o + k, none⟩ (64 - rl) (64 - rl) L cap' g (8 + rl) ?_ ?_ (hcells (stOf M) (padz r 64) M.length) 180 ?_ (ints .u8 y) HYN.out hsrcY hfit (ints_one _ _) ?_; rfl; rfl; rfl; rfl; exact hT.1))
     rw [hspl]
     have hT2 : Hsh (wr.drew.setRow g (hcells (stOf M) (padz (r ++ y) 64) M.length).toArray) g (stOf M) (padz (r ++ y) 64) M.length := ⟨setRow_heap _ _ _ _ _ _ (show wr.drew.heap[g]? = _ from hT.1), hst, padz_len _ _ (by have := HY.out; have := HR2.out; simp; omega)⟩
     have hk2 : Keeps g w (wr.drew.setRow g (hcells (stOf M) (padz (r ++ y) 64) M.length).toArray) := hk.drew.setRow _
     clear hspl hsrcY hfit hT hk KF
     generalize wr.drew.setRow g (hcells (stOf M) (padz (r ++ y) 64) M.length).toArray = w2 at *
     have cT := hT2.taken
     have fT := hT2.fz 72
     have i4 : (n : Int) <= (L : Int) := by omega
     have i5 : (n : Int) <= (cap' : Int) := by omega
     rw [show (ints .u8 y).length = n by rw [ints_len]; exact HY.out]
     clear HYN
     obtain ⟨e3, hT3⟩ := hT2.setT ((M.length : Int) + (n : Int))
     have hk3 := hk2.setRow (hcells (stOf M) (padz (r ++ y) 64) ((M.length : Int) + (n : Int))).toArray
     have E3 := hid e3
     clear e3
     have hGr : Glob w := hG
     by_cases hfull : rl + n = 64
     · have hz : ((M.length : Int) + (n : Int)) % 64 = 0 := by have := HRL.out; omega
       have HZ := hid hz
       clear hz
       go_wp2_with fail
       all_goals
         rw [E3.out]
         generalize w2.setRow g (hcells (stOf M) (padz (r ++ y) 64) ((M.length : Int) + (n : Int))).toArray = w3 at *
         refine (filled_any w3 g _ _ _ hT3 (by omega) (by omega)).mono ?_
         rintro e w4 ⟨rfl, rfl⟩
         rw [HZ.out]
         go_wp2_with fail
         refine (mixBlock_any w4 g _ _ _ hT3 hbd (hk3.glob hG hg4)).mono ?_
         rintro e w5 ⟨rfl, hT5, hk5⟩
         go_wp2
         go_roundw
         case rel => exact ⟨k + n, L - n, _, _, by omega, rfl, by omega, by omega, (fun hp => by first | (exfalso; omega) | rw [Nat.add_assoc]), by rw [HTK.out n hnL, HYY.out]; exact HsT_full HRR.out (by have := HY.out; have := HR2.out; omega) (by rw [HY.out]; exact hT5), hk3.trans hk5⟩
         case measure => simp [lenOf]; omega
     · have hz : ((((M.length : Int) + (n : Int)) % 64) == 0) = false := by have := HRL.out; simp; omega
       go_wp2_with fail
       all_goals
         rw [E3.out]
         generalize w2.setRow g (hcells (stOf M) (padz (r ++ y) 64) ((M.length : Int) + (n : Int))).toArray = w3 at *
         refine (filled_any w3 g _ _ _ hT3 (by omega) (by omega)).mono ?_
         rintro e w4 ⟨rfl, rfl⟩
         go_wp2
         go_roundw
         case rel => exact ⟨k + n, L - n, _, _, by omega, rfl, by omega, by omega, (fun hp => by first | (exfalso; omega) | rw [Nat.add_assoc]), by rw [HTK.out n hnL, HYY.out]; exact HsT_part HRR.out (by have := HY.out; have := HR2.out; omega) (by rw [HY.out]; exact hT3), hk3⟩
         case measure => simp [lenOf]; omega
   · obtain rfl : L = 0 := by omega
     obtain rfl : k = zs.length := by omega
     rw [List.take_length] at hT
     go_wp2
     go_end0
     exact ⟨rfl, hT, hk⟩
theorem writeS_any (w : World) (g : Nat) (m zs : List Int) (sp : Option Addr) (cap : Nat) (h : HsT w g m) (hG : Glob w) (hg4 : 2 <= g) (hlen : m.length + zs.length <= 4611686018427387904)
   (hs : ∃ b o, b ≠ g /\ (0 < zs.length -> sp = some ⟨b, o, none⟩) /\ ∀ j, j < zs.length -> w.cell? ⟨b, o + j, none⟩ = some (.int .u8 (zs.getD j 0))) (hc : zs.length <= cap) (hm : cap <= maxLen) :
   Calls Tryz.prog 88 #[.pointer (some ⟨g, 0, none⟩), .slice sp zs.length cap] w fun e w' => e = .returned (.tuple #[]) /\ HsT w' g (m ++ zs) /\ Keeps g w w' := by
 obtain ⟨b, o, h1, h2, h3⟩ := hs
 exact write_any w g m zs b o sp cap h hG hg4 hlen h2 h1 hc hm h3
theorem dsum_any (w : World) (zs : List Int) (sp : Option Addr) (cap : Nat) (hS : Src w sp cap zs) (hG : Glob w) (hlen : zs.length <= 4611686018427387904) :
   Calls Tryz.prog 59 #[.slice sp zs.length cap] w fun e w' => e = .returned (.agg (ints .u8 (sha zs)).toArray) /\ Below w.heap.size w w' := by
 have hw0 := hG.1
 obtain ⟨hc, hm, b0, o0, hb0, hsp0, hsrc0⟩ := hS
 obtain ⟨b, o, hb, hsp, hsrc⟩ : ∃ b o, b < w.heap.size /\ (0 < zs.length -> sp = some ⟨b, o, none⟩) /\ ∀ j, j < zs.length -> w.cell? ⟨b, o + j, none⟩ = some (.int .u8 (zs.getD j 0)) := by
   by_cases hz : 0 < zs.length
   · exact ⟨b0, o0, hb0 hz, hsp0, hsrc0⟩
   · exact ⟨0, 0, by omega, fun h => absurd h hz, fun j hj => by omega⟩
 clear hsrc0 hsp0 hb0
 have hB1 : Below w.heap.size w (w.alloc (Obj.cells (ints .u8 z32).toArray 47)) := (Below.refl _ _).alloc (Nat.le_refl _) _
 have hG1 := hG.below hB1 hw0
 have d0 := hnew w (Obj.cells (ints .u8 z32).toArray 47)
 have hsz : (w.alloc (Obj.cells (ints .u8 z32).toArray 47)).heap.size = w.heap.size + 1 := by simp
 go_enter Tryz.func59, Tryz.ntmps59
 go_wp2_with fail
 show Calls Tryz.prog 87 _ (w.alloc (Obj.cells (ints .u8 z32).toArray 47)) _
 generalize w.alloc (Obj.cells (ints .u8 z32).toArray 47) = w1 at *
 refine (new_any w1 hG1).mono ?_
 rintro e w2 ⟨rfl, hw2⟩
 have hB2 : Below w.heap.size w w2 := by rw [hw2]; exact hB1.alloc (by omega) _
 have d2 : HsT w2 (w.heap.size + 1) [] := by have := hnew w1 (.cells (hcells fTab z64 0).toArray 180); rw [<- hw2, hsz] at this; exact HsT.nil this
 have f2 : w2.heap[w.heap.size]? = some (Obj.cells (ints .u8 z32).toArray 47) := by rw [hw2]; exact hold d0
 have hG2 := hG.below hB2 hw0
 rw [hsz]
 clear hw2 hB1 hG1 d0 hsz
 go_wp2_with fail
 refine (writeS_any w2 (w.heap.size + 1) [] zs sp cap d2 hG2 (by omega) (by simpa using hlen) ⟨b, o, by omega, hsp, fun j hj => (hB2.cell (p := ⟨b, o + j, none⟩) hb).trans (hsrc j hj)⟩ hc hm).mono ?_
 rintro e w3 ⟨rfl, d3, k3⟩
 rw [List.nil_append] at d3
 have hB3 : Below w.heap.size w w3 := hB2.trans (k3.below_g (by omega) hB2.size)
 have f3 := k3.heap f2 (by omega)
 have hG3 := hG.below hB3 hw0
 clear d2 f2 hG2 hB2 k3
 go_wp2_with fail
 refine (hsumT_any w3 (w.heap.size + 1) zs d3 hG3 hlen).mono ?_
 rintro e w4 ⟨rfl, hb4⟩
 have f4 := hbel hb4 f3 (hlt f3)
 have hB4 : Below w.heap.size w w4 := hB3.trans (hb4.mono hB3.size)
 have hsl := sha_len zs
 have ho := all_oneCell_toArray (ints_one .u8 (sha zs))
 have hz32 : z32.length = 32 := rfl
 clear f3 hb4 d3 hG3 hB3
 go_wp2_with (first | refine wpList_store_row rfl 47 _ _ rfl _ _ rfl rfl 47 _ f4 (by rw [Tryz.size47, ints_size, hsl]) (by rw [ints_size, ints_size, hsl, hz32]) ho ?_)
 exact bodyPost_ret (v := .agg (ints .u8 (sha zs)).toArray) (results_cell_row Tryz.results59 _ _ w.heap.size 47 _ _ _ rfl (setRow_heap _ _ _ _ _ _ f4) Tryz.underlying47 rfl (by rw [Tryz.size47, ints_size, hsl])) rfl ⟨rfl, below_setRow hB4 (Nat.le_refl _) _⟩
end Go.Proofs.YtbnghhgeoodphaaGreatDoor
namespace Go.Proofs.YtbnghhgeoodphaaGreatDoor
set_option maxRecDepth 100000
set_option maxHeartbeats 40000000
open Go.RowKit
attribute [local go_sem ↓] Go.wp_at_zero Go.wp_at_succ
def zero32 : List Value := List.replicate 32 (.int .u8 0)
def cutV (cs : List Value) (n : Nat) : List Value := splice zero32 0 (cs.take n)
theorem zero32_len : zero32.length = 32 := by simp [zero32]
theorem cutV_len (cs : List Value) (n : Nat) (hl : cs.length = 32) : (cutV cs n).length = 32 := by
 unfold cutV; rw [length_splice _ _ _ (by rw [zero32_len]; simp; omega), zero32_len]
theorem cutV_one (cs : List Value) (n : Nat) (h1 : ∀ v ∈ cs, v.oneCell' = true) : ∀ v ∈ cutV cs n, v.oneCell' = true := by
 intro v hv
 simp only [cutV, splice, List.take_zero, List.nil_append, List.mem_append] at hv
 rcases hv with hv | hv
 · exact h1 v (List.mem_of_mem_take hv)
 · have := List.mem_of_mem_drop hv
   simp [zero32] at this; subst this; rfl
def kept (k : Int) : Nat := (min (max k 0) 32).toNat
theorem kept_le (k : Int) : kept k <= 32 := by unfold kept; omega
theorem cut_mid (cs : List Value) (hl : cs.length = 32) (h1 : ∀ v ∈ cs, v.oneCell' = true) (n : Nat) (hn : n <= 32) (w : World) :
   Calls Tryz.prog 58 #[.agg cs.toArray, .int .i64 n] w fun e w' => e = .returned (.agg (cutV cs n).toArray) /\ Below w.heap.size w w' := by
 have i0 : (0 : Int) <= n := by omega
 have i1 : (n : Int) <= 32 := by omega
 go_enter Tryz.func58, Tryz.ntmps58
 go_wp2
 go_region_held3 (fun w' => True) (trivial) ((refine step_copy_splice (by rfl) _ _ _ _ (by rfl) 5 Tryz.underlying58 Tryz.size5 _ _ _ _ _ _ (by rfl) (by rfl) (w.heap.size + 1 + 1) 0 zero32 47 (by exact heap3_new w _ _ _) (cs.take n) (by rw [List.length_take, hl]) (by exact fun _ => ⟨rfl, _, rfl, fun j v hv => by rw [Addr.add_mid, Nat.zero_add]; simp [cell_of_row _ _ _ _ _ _ (heap3_old w _ _ _), List.getElem?_take] at hv ⊢; exact hv.2⟩) (by rw [zero32_len]; simp; omega) (by exact fun v hv => h1 v (List.mem_of_mem_take hv)) (w.heap.size + 1 + 1) _ (by exact Below.refl _ _) (by omega) ?_; intro w1 hg1 hb1))
 have hc : w1.heap[w.heap.size + 1 + 1]? = some (Obj.cells (cutV cs n).toArray 47) := hg1
 have hr : w1.heap[w.heap.size + 1]? = some (Obj.cells zero32.toArray 47) := (hb1.block _ (by omega)).trans (heap3_mid w _ _ _)
 have hb : Below w.heap.size w w1 := (below3 w _ _ _).drew.trans (hb1.mono (by omega))
 have hs : w.heap.size + 1 + 1 < w1.heap.size := (Array.getElem?_eq_some_iff.1 hc).1
 clear hg1 hb1
 have hz : (cutV cs n).length = 32 := cutV_len cs n hl
 have ho := all_oneCell_toArray (cutV_one cs n h1)
 go_wp2_with (first | refine wpList_load_row rfl 47 _ rfl _ rfl 47 _ _ _ hc Tryz.underlying47 rfl (by rw [Tryz.size47]; simp [hz]) ?_ | refine wpList_store_row rfl 47 _ _ rfl _ _ rfl rfl 47 _ hr (by rw [Tryz.size47]; simp [hz]) (by simp [hz, zero32_len]) ho ?_)
 exact bodyPost_ret (v := .agg (cutV cs n).toArray) (results_cell_row Tryz.results58 _ _ (w.heap.size + 1) 47 _ _ _ rfl (setRow_heap _ _ _ _ _ _ hr) Tryz.underlying47 rfl (by rw [Tryz.size47]; simp [hz])) rfl ⟨rfl, below_setRow hb (by omega) _⟩
theorem cut_low (cs : List Value) (hl : cs.length = 32) (h1 : ∀ v ∈ cs, v.oneCell' = true) (k : Int) (hk : k < 0) (w : World) :
   Calls Tryz.prog 58 #[.agg cs.toArray, .int .i64 k] w fun e w' => e = .returned (.agg (cutV cs 0).toArray) /\ Below w.heap.size w w' := by
 go_enter Tryz.func58, Tryz.ntmps58
 go_wp2
 go_region_held3 (fun w' => True) (trivial) ((refine step_copy_splice (by rfl) _ _ _ _ (by rfl) 5 Tryz.underlying58 Tryz.size5 _ _ _ _ _ _ (by rfl) (by rfl) (w.heap.size + 1 + 1) 0 zero32 47 (by exact heap3_new w _ _ _) (cs.take 0) (by rw [List.length_take, hl]) (by exact fun hp => absurd hp (by simp)) (by simp) (by exact fun v hv => h1 v (List.mem_of_mem_take hv)) (w.heap.size + 1 + 1) _ (by exact Below.refl _ _) (by omega) ?_; intro w1 hg1 hb1))
 have hc : w1.heap[w.heap.size + 1 + 1]? = some (Obj.cells (cutV cs 0).toArray 47) := hg1
 have hr : w1.heap[w.heap.size + 1]? = some (Obj.cells zero32.toArray 47) := (hb1.block _ (by omega)).trans (heap3_mid w _ _ _)
 have hb : Below w.heap.size w w1 := (below3 w _ _ _).drew.trans (hb1.mono (by omega))
 have hs : w.heap.size + 1 + 1 < w1.heap.size := (Array.getElem?_eq_some_iff.1 hc).1
 clear hg1 hb1
 have hz : (cutV cs 0).length = 32 := cutV_len cs 0 hl
 have ho := all_oneCell_toArray (cutV_one cs 0 h1)
 go_wp2_with (first | refine wpList_load_row rfl 47 _ rfl _ rfl 47 _ _ _ hc Tryz.underlying47 rfl (by rw [Tryz.size47]; simp [hz]) ?_ | refine wpList_store_row rfl 47 _ _ rfl _ _ rfl rfl 47 _ hr (by rw [Tryz.size47]; simp [hz]) (by simp [hz, zero32_len]) ho ?_)
 exact bodyPost_ret (v := .agg (cutV cs 0).toArray) (results_cell_row Tryz.results58 _ _ (w.heap.size + 1) 47 _ _ _ rfl (setRow_heap _ _ _ _ _ _ hr) Tryz.underlying47 rfl (by rw [Tryz.size47]; simp [hz])) rfl ⟨rfl, below_setRow hb (by omega) _⟩
theorem cut_high (cs : List Value) (hl : cs.length = 32) (h1 : ∀ v ∈ cs, v.oneCell' = true) (k : Int) (hk : 32 < k) (w : World) :
   Calls Tryz.prog 58 #[.agg cs.toArray, .int .i64 k] w fun e w' => e = .returned (.agg (cutV cs 32).toArray) /\ Below w.heap.size w w' := by
 have i0 : (0 : Int) < k := by omega
 go_enter Tryz.func58, Tryz.ntmps58
 go_wp2
 go_region_held3 (fun w' => True) (trivial) ((refine step_copy_splice (by rfl) _ _ _ _ (by rfl) 5 Tryz.underlying58 Tryz.size5 _ _ _ _ _ _ (by rfl) (by rfl) (w.heap.size + 1 + 1) 0 zero32 47 (by exact heap3_new w _ _ _) (cs.take 32) (by rw [List.length_take, hl]) (by exact fun _ => ⟨rfl, _, rfl, fun j v hv => by rw [Addr.add_mid, Nat.zero_add]; simp [cell_of_row _ _ _ _ _ _ (heap3_old w _ _ _), List.getElem?_take] at hv ⊢; exact hv.2⟩) (by rw [zero32_len]; simp; omega) (by exact fun v hv => h1 v (List.mem_of_mem_take hv)) (w.heap.size + 1 + 1) _ (by exact Below.refl _ _) (by omega) ?_; intro w1 hg1 hb1))
 have hc : w1.heap[w.heap.size + 1 + 1]? = some (Obj.cells (cutV cs 32).toArray 47) := hg1
 have hr : w1.heap[w.heap.size + 1]? = some (Obj.cells zero32.toArray 47) := (hb1.block _ (by omega)).trans (heap3_mid w _ _ _)
 have hb : Below w.heap.size w w1 := (below3 w _ _ _).drew.trans (hb1.mono (by omega))
 have hs : w.heap.size + 1 + 1 < w1.heap.size := (Array.getElem?_eq_some_iff.1 hc).1
 clear hg1 hb1
 have hz : (cutV cs 32).length = 32 := cutV_len cs 32 hl
 have ho := all_oneCell_toArray (cutV_one cs 32 h1)
 go_wp2_with (first | refine wpList_load_row rfl 47 _ rfl _ rfl 47 _ _ _ hc Tryz.underlying47 rfl (by rw [Tryz.size47]; simp [hz]) ?_ | refine wpList_store_row rfl 47 _ _ rfl _ _ rfl rfl 47 _ hr (by rw [Tryz.size47]; simp [hz]) (by simp [hz, zero32_len]) ho ?_)
 exact bodyPost_ret (v := .agg (cutV cs 32).toArray) (results_cell_row Tryz.results58 _ _ (w.heap.size + 1) 47 _ _ _ rfl (setRow_heap _ _ _ _ _ _ hr) Tryz.underlying47 rfl (by rw [Tryz.size47]; simp [hz])) rfl ⟨rfl, below_setRow hb (by omega) _⟩
theorem cut_any (cs : List Value) (hl : cs.length = 32) (h1 : ∀ v ∈ cs, v.oneCell' = true) (k : Int) (w : World) :
   Calls Tryz.prog 58 #[.agg cs.toArray, .int .i64 k] w fun e w' => e = .returned (.agg (cutV cs (kept k)).toArray) /\ Below w.heap.size w w' := by
 by_cases a : k < 0
 · rw [show kept k = 0 by unfold kept; omega]; exact cut_low cs hl h1 k a w
 · by_cases b : 32 < k
   · rw [show kept k = 32 by unfold kept; omega]; exact cut_high cs hl h1 k b w
   · obtain ⟨n, rfl⟩ := Int.eq_ofNat_of_zero_le (by omega : 0 <= k)
     rw [show kept (n : Int) = n by unfold kept; omega]; exact cut_mid cs hl h1 n (by omega) w
end Go.Proofs.YtbnghhgeoodphaaGreatDoor
