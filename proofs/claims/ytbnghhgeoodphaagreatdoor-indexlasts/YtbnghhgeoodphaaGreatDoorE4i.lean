import Derived.Maps.RangeWalk
import Derived.Test.YtbnghhgeoodphaaGreatDoorMg6
namespace Go.Proofs.YtbnghhgeoodphaaGreatDoor
set_option maxRecDepth 100000
set_option maxHeartbeats 40000000
set_option linter.unusedVariables false
set_option linter.unusedSimpArgs false
open Go.RowKit
attribute [local go_sem ↓] Go.wp_at_zero Go.wp_at_succ
theorem Sync_goes (w : World) (base : Nat) (P : DP) (D : DS) (h : DK w base P D) (hok : DsOk D) (hpw : D.power = true) (hac : D.armed = 1) :
   Calls Tryz.prog 57 #[.pointer (some ⟨P.p, 0, none⟩)] w fun e w' => e = .returned (.int .i64 2) /\ DK w' base P D.acted /\ Fr P.fp w w' := by
 have c7 := h.c7
 rw [hpw] at c7
 have HA := act_in w base P D h hok.armed
 have ha0 : D.actE = 2 := by unfold DS.actE; rw [if_pos hac]
 rw [ha0] at HA
 have HAA := hid HA
 clear hpw h HA ha0 hac
 go_enter Tryz.func57, Tryz.ntmps57
 go_wp2_with (go_at_call 86; refine HAA.out.mono ?_; rintro e w1 ⟨rfl, h1, f1⟩)
 go_ret
 exact ⟨rfl, h1, f1⟩
def tornTo (img : List Int) (o : OW) (f : Nat) : Nat -> List Int
 | 0 => img
 | j + 1 => if f.testBit j then putAt (tornTo img o f j) (o.page * 256 + j * 64) ((o.data.drop (j * 64)).take 64) else tornTo img o f j
theorem arr_lh (w : World) (N l h : Nat) (h1 : l < h) (h2 : h <= 256) : (Instr.sliceAt 110 (.pointer (some ⟨N, 1, none⟩)) (some (.int .i64 (l : Nat))) (some (.int .i64 (h : Nat))) none).run Tryz.prog w = .ok (.slice (some ⟨N, 1 + l, none⟩) (h - l) (256 - l)) w := by
 have hl : Tryz.prog.arrayLen 110 = 256 := by kernel_rfl
 have hz : (sizeOf (Tryz.prog.elem 110)).run Tryz.prog w = .ok 1 w := by kernel_rfl
 rw [run_sliceAt_array_lh w 110 ⟨N, 1, none⟩ (by kernel_rfl) .i64 .i64 l h (by omega) (by omega) (by rw [hl]; omega), hz, hl]
 simp only [Result.andThen_ok, slicedAt, Int.toNat_natCast, Nat.mul_one, if_neg (show ¬ 256 = l by omega), Addr.add_mid]
theorem and1_u8 : ∀ x, x < 256 -> bits .and .u8 ((x : Nat) : Int) 1 = ((x % 2 : Nat) : Int) := by decide +kernel
theorem bit_u8 (f j : Nat) (hf : f < 256) : (bits .and .u8 ((f : Int) / 2 ^ j) 1 == 1) = f.testBit j := by
 have e : ((f : Int) / 2 ^ j) = ((f / 2 ^ j : Nat) : Int) := by push_cast; rfl
 rw [e, and1_u8 _ (Nat.lt_of_le_of_lt (Nat.div_le_self _ _) hf), <- Nat.toNat_testBit]
 cases f.testBit j <;> rfl
theorem tornTo_len {img : List Int} {n : Nat} {o : OW} (f : Nat) (h : img.length = 256 * n) (ho : OwOk n o) : ∀ j, j <= 4 -> (tornTo img o f j).length = 256 * n
 | 0, _ => h
 | j + 1, hj => by
   have ih := tornTo_len f h ho j (by omega)
   obtain ⟨h1, h2, h3⟩ := ho
   unfold tornTo
   split
   · rw [putAt_len _ _ _ (by rw [ih, List.length_take, List.length_drop, h2]; omega), ih]
   · exact ih
theorem tornTo_bts {img : List Int} {o : OW} (f : Nat) (h : Bts img) (ho : Bts o.data) : ∀ j, Bts (tornTo img o f j)
 | 0 => h
 | j + 1 => by
   have ih := tornTo_bts f h ho j
   unfold tornTo
   split
   · exact putAt_bts _ ih (fun x hx => ho x (List.mem_of_mem_drop (List.mem_of_mem_take hx)))
   · exact ih
theorem encW_part {w : World} {g : Nat} {x : OW} (h : w.rangeAt g 0 (encW x)) (hg : g < w.heap.size) (hd : x.data.length = 256) (k l cap : Nat) (hk : k + l <= 256) (hc : l <= cap) (hm : cap <= maxLen) : Src w (some ⟨g, 1 + k, none⟩) cap ((x.data.drop k).take l) := by
 have el : ((x.data.drop k).take l).length = l := by simp; omega
 refine ⟨by omega, hm, g, 1 + k, fun _ => hg, fun _ => rfl, fun j hj => ?_⟩
 rw [el] at hj
 have := h (1 + k + j) (.int .u8 (((x.data.drop k).take l).getD j 0)) (by
   rw [show 1 + k + j = (k + j) + 1 by omega, encW, List.getElem?_cons_succ, ints_get _ _ _ (by omega)]
   simp [List.getElem?_take, hj])
 rwa [Nat.zero_add] at this
theorem tear_in (w : World) (base : Nat) (P : DP) (D : DS) (h : DK w base P D) (n : Nat) (hn : D.img.length = 256 * n) (h4 : n <= 4096) (o : OW) (ho : OwOk n o) (f : Nat) (hf : f < 256) :
   Calls Tryz.prog 47 #[.pointer (some ⟨P.p, 0, none⟩), .agg (encW o).toArray, .int .u8 f] w fun e w' => e = .returned (.tuple #[]) /\ DK w' base P { D with img := tornTo D.img o f 4 } /\ Fr P.fp w w' := by
 have HTL := hid (fun j hj => tornTo_len f hn ho j hj)
 obtain ⟨hpg, hdl, hdb⟩ := ho
 have hel : (encW o).length = 257 := by rw [encW, List.length_cons, ints_len, hdl]
 have hA := h.below ((Below.refl _ w).alloc (Nat.le_refl _) (.cells (encW o).toArray 112))
 have hFA := (Fr.refl P.fp w).alloc (.cells (encW o).toArray 112)
 have gN := hnew w (.cells (encW o).toArray 112)
 have HBY := hid (bytesOf_in _ base _ _ hA n hn h4 o.page hpg)
 have KN0 : (w.alloc (.cells (encW o).toArray 112)).cell? ⟨w.heap.size, 0, none⟩ = some (.int .i64 o.page) := by rw [cell_of_row _ _ _ _ _ _ gN]; rfl
 have hgc : P.gc <= 9223372036854775807 := by have := h.gm; unfold maxLen at this; omega
 have hgl : 256 * n <= P.gc := by have := h.gl; omega
 have hgN : P.g ≠ w.heap.size := by have := hlt h.im; omega
 clear h hn
 obtain ⟨p, g, m, gc, ov, rs, M⟩ := P
 simp only at *
 go_enter Tryz.func47, Tryz.ntmps47
 go_wp2_with (go_at_call 33; refine HBY.out.mono ?_; rintro e w1 ⟨rfl, rfl⟩)
 generalize hNN : w.heap.size = N at *
 clear HBY KN0 hNN
 go_loopw [14] (fun jv wr => ∃ j : Nat, j <= 4 /\ jv = .int .i64 j /\ DK wr base ⟨p, g, m, gc, ov, rs, M⟩ { D with img := tornTo D.img o f j } /\ Fr (DP.mk p g m gc ov rs M).fp w wr /\ wr.heap[N]? = some (.cells (encW o).toArray 112 (0, 0))) (fun jv _ => 4 - (intOf jv).toNat)
 case atStart => exact ⟨0, by omega, rfl, hA, hFA, gN⟩
 case round =>
   clear hA hFA gN
   obtain ⟨j, hj, rfl, hD, hF, hNr⟩ := hrel
   by_cases hlt : j < 4
   · have i1 : (j : Int) < 4 := by omega
     have hb := bit_u8 f j hf
     have hll := HTL.out j hj
     cases hc : f.testBit j with
     | false =>
       rw [hc] at hb
       have HT := hid (show tornTo D.img o f (j + 1) = tornTo D.img o f j by rw [tornTo, hc]; rfl)
       clear hc
       go_wp2
       go_roundw
       case rel => exact ⟨j + 1, by omega, by go_num, by rw [HT.out]; exact hD, hF, hNr⟩
       case measure => simp [intOf]; omega
     | true =>
       rw [hc] at hb
       have hTe : tornTo D.img o f (j + 1) = putAt (tornTo D.img o f j) (o.page * 256 + j * 64) ((o.data.drop (j * 64)).take 64) := by rw [tornTo, hc]; rfl
       have hdd : ((o.data.drop (j * 64)).take 64).length = 64 := by simp; omega
       have hD1 := hD.drew
       have HIM := hid hD1.im
       have KC := hid (show (ints .u8 ((o.data.drop (j * 64)).take 64)).length = Nat.min ((j + 1) * 64 - j * 64) ((j + 1) * 64 - j * 64) by rw [ints_len, hdd, show (j + 1) * 64 - j * 64 = 64 by omega]; decide)
       have KSRC := hid (src_news (encW_part (rng (show wr.drew.heap[N]? = _ from hNr)) (hlt_ hNr) hdl (j * 64) 64 64 (by omega) (Nat.le_refl _) (by unfold maxLen; omega)))
       have KFIT := hid (show o.page * 256 + j * 64 + (ints .u8 ((o.data.drop (j * 64)).take 64)).length <= (ints .u8 (tornTo D.img o f j) ++ rs).length by rw [ints_len, List.length_append, ints_len, hdd, hll]; omega)
       have KEQ := hid (show (ints .u8 (tornTo D.img o f j) ++ rs).take (o.page * 256 + j * 64) ++ ints .u8 ((o.data.drop (j * 64)).take 64) ++ (ints .u8 (tornTo D.img o f j) ++ rs).drop (o.page * 256 + j * 64 + (ints .u8 ((o.data.drop (j * 64)).take 64)).length) = ints .u8 (tornTo D.img o f (j + 1)) ++ rs by rw [ints_putAt _ _ _ _ (by omega), hTe])
       have KDK := hid (hD1.setImg (tornTo D.img o f (j + 1)) (by show _ = (tornTo D.img o f j).length; rw [hll, HTL.out (j + 1) (by omega)]))
       have KFR := hid (hF.drew.setRow hD.hg (ints .u8 (tornTo D.img o f (j + 1)) ++ rs).toArray)
       have KNN := hid (show (wr.drew.setRow g (ints .u8 (tornTo D.img o f (j + 1)) ++ rs).toArray).heap[N]? = some (.cells (encW o).toArray 112 (0, 0)) by rw [setRow_other _ _ _ _ (fun e => hgN e.symm)]; exact hNr)
       clear hc hD1 hD hF hNr hTe hdd hll hdl hdb hel
       have i2 : o.page * 256 + j * 64 + 64 <= gc := by omega
       have SL := hid (fun w => (show (Instr.sliceAt 110 (.pointer (some ⟨N, 1, none⟩)) (some (.int .i64 ((j : Int) * 64))) (some (.int .i64 (((j : Int) + 1) * 64))) none).run Tryz.prog w = .ok (.slice (some ⟨N, 1 + j * 64, none⟩) ((j + 1) * 64 - j * 64) (256 - j * 64)) w by have h := arr_lh w N (j * 64) ((j + 1) * 64) (by omega) (by omega); push_cast at h; exact h))
       go_wp2
       refine wp_region_noPanic ?_
       refine wp_region_held_drew (S := fun _ => True) (by kernel_rfl) trivial (fun hHeld => ?_)
       refine tkA 0 (.slice (some ⟨g, o.page * 256, none⟩) 256 (gc - o.page * 256)) rfl hHeld ?_
       try go_frame
       refine tkA 1 (.int .i64 (j * 64)) rfl hHeld ?_
       try go_frame
       refine tkA 2 (.int .i64 ((j + 1) * 64)) rfl hHeld ?_
       try go_frame
       refine tkA 4 (.pointer (some ⟨N, 1, none⟩)) rfl hHeld ?_
       try go_frame
       refine tkA 5 (.int .i64 (j * 64)) rfl hHeld ?_
       try go_frame
       refine tkA 6 (.int .i64 ((j + 1) * 64)) rfl hHeld ?_
       try go_frame
       refine tqA 3 (.slice (some ⟨g, o.page * 256 + j * 64, none⟩) ((j + 1) * 64 - j * 64) (gc - o.page * 256 - j * 64)) rfl (yA (by intro w hS; go_simp; have q1 : ((j : Int) * 64).toNat = j * 64 := (by omega); have q2 : (((j : Int) + 1) * 64).toNat = (j + 1) * 64 := (by omega); rw [if_pos ⟨by omega, by omega⟩, if_pos ⟨by omega, by omega⟩, q1, q2, if_neg (by omega)])) hHeld ?_
       try go_frame
       refine tqA 7 (.slice (some ⟨N, 1 + j * 64, none⟩) ((j + 1) * 64 - j * 64) (256 - j * 64)) rfl (yA (by intro w hS; have hq := SL.out w; go_simp)) hHeld ?_
       try go_frame
       refine rdA 8 rfl (fun K hK => ?_)
       refine step_copy_row rfl (.tmp 30) (.tmp 34) 58 58 rfl 5 Tryz.underlying58 Tryz.size5 ⟨N, 1 + j * 64, none⟩ ((j + 1) * 64 - j * 64) (gc - o.page * 256 - j * 64) ((j + 1) * 64 - j * 64) (256 - j * 64) g (o.page * 256 + j * 64) rfl rfl _ 5 HIM.out (ints .u8 ((o.data.drop (j * 64)).take 64)) KC.out KSRC.out KFIT.out (ints_one .u8 _) ?_
       refine hK.out _ _ (trivial) ?_
       clear hK K hHeld
       intro hHeld
       try go_frame
       refine wdA ?_
       clear hHeld
       rw [KEQ.out]
       go_wp2
       go_roundw
       case rel => exact ⟨j + 1, by omega, by go_num, KDK.out, KFR.out, KNN.out⟩
       case measure => simp [intOf]; omega
   · obtain rfl : j = 4 := by omega
     clear hlt
     go_wp2
     go_end0
     exact ⟨rfl, hD, hF⟩
def fateOf (fs : List Int) (i : Nat) : Nat := (fs.getD i 0).toNat
def crashTo (img : List Int) (ops : List OW) (fs : List Int) : Nat -> List Int
 | 0 => img
 | i + 1 => if i < fs.length then tornTo (crashTo img ops fs i) (ops.getD i dW) (fateOf fs i) 4 else crashTo img ops fs i
theorem crashTo_len {img : List Int} {ops : List OW} {n : Nat} (fs : List Int) (h : img.length = 256 * n) (ho : ∀ o ∈ ops, OwOk n o) : ∀ i, i <= ops.length -> (crashTo img ops fs i).length = 256 * n
 | 0, _ => h
 | i + 1, hi => by
   have ih := crashTo_len fs h ho i (by omega)
   unfold crashTo
   split
   · exact tornTo_len _ ih (ho _ (getD_memW ops i (by omega))) 4 (Nat.le_refl _)
   · exact ih
theorem crashTo_bts {img : List Int} {ops : List OW} {n : Nat} (fs : List Int) (h : Bts img) (ho : ∀ o ∈ ops, OwOk n o) : ∀ i, i <= ops.length -> Bts (crashTo img ops fs i)
 | 0, _ => h
 | i + 1, hi => by
   have ih := crashTo_bts fs h ho i (by omega)
   unfold crashTo
   split
   · exact tornTo_bts _ ih (ho _ (getD_memW ops i (by omega))).2.2 4
   · exact ih
def DS.crashed (D : DS) (fs : List Int) : DS := { D with img := crashTo D.img D.ops fs D.ops.length, ops := [], power := true, armed := 0, epoch := D.epoch + 1 }
theorem Crash_in (w : World) (base : Nat) (P : DP) (D : DS) (h : DK w base P D) (hok : DsOk D) (hep : D.epoch < 4000000000000000000) (fs : List Int) (hfb : Bts fs) (sp : Option Addr) (fcap : Nat) (hS : Src w sp fcap fs) (hsb : ∀ a, 0 < fs.length -> sp = some a -> a.block ∉ P.fp) :
   Calls Tryz.prog 21 #[.pointer (some ⟨P.p, 0, none⟩), .slice sp fs.length fcap] w fun e w' => e = .returned (.int .i64 D.ops.length) /\ DK w' base { P with ov := .slice none 0 0, M := .map [] } (D.crashed fs) /\ Fr P.fp w w' := by
 obtain ⟨h3, h4, hn, hop⟩ := hok.np
 have hol := hok.ops
 have ep := hok.epoch
 have eb : D.epoch + 1 <= 9223372036854775807 := by omega
 have eb0 : 0 <= D.epoch := ep.1
 have k5 := h.c5
 obtain ⟨spo, capo, hov⟩ := ownsRow_form h.opn
 have okL := hid (fun (i : Nat) (hi : i <= D.ops.length) => (show DsOk { D with img := crashTo D.img D.ops fs i } from ⟨⟨D.np, h3, h4, crashTo_len fs hn hop i hi, hop⟩, crashTo_bts fs hok.bts hop i hi, hol, hok.reads, hok.writes, hok.syncs, hok.epoch, hok.armed⟩))
 have HLL := hid (fun (i : Nat) (hi : i <= D.ops.length) => crashTo_len fs hn hop i hi)
 have h1' : DK w base P { D with img := crashTo D.img D.ops fs 0 } := h
 have hfl : fs.length <= 9223372036854775807 := by have := hS.1; have := hS.2.1; unfold maxLen at this; omega
 obtain ⟨hfc, hfm, fb, fo, hfb1, hfsp, hfsrc⟩ := hS
 have HOP := hid hop
 have HFB := hid hfb
 have HFS := hid hfsrc
 have HFI := hid hfb1
 have HFSP := hid hfsp
 have hfi : (fs.length : Int) <= 9223372036854775807 := by omega
 clear h hn hop hok hep hfm hfb hfsrc hfb1 hfsp ep
 obtain ⟨p, g, m, gc, ov, rs, M⟩ := P
 simp only at *
 subst hov
 go_enter Tryz.func21, Tryz.ntmps21
 go_wp2
 clear k5
 go_loopw [18] (fun iv wr => ∃ i : Nat, i <= D.ops.length /\ iv = .int .i64 i /\ DK wr base ⟨p, g, m, gc, .slice spo D.ops.length capo, rs, M⟩ { D with img := crashTo D.img D.ops fs i } /\ Fr (DP.mk p g m gc (.slice spo D.ops.length capo) rs M).fp w wr) (fun iv _ => D.ops.length - (intOf iv).toNat)
 case atStart => exact ⟨0, by omega, rfl, h1', Fr.refl _ _⟩
 case round =>
   clear h1'
   obtain ⟨i, hi, rfl, hD, hF⟩ := hrel
   by_cases hlt : i < D.ops.length
   · have i1 : (i : Int) < (D.ops.length : Int) := by omega
     obtain ⟨go, cap, e1, e2, e3, e4, e5, rg⟩ := hD.opAt (okL.out i hi) i hlt
     simp only [Value.slice.injEq] at e1
     obtain ⟨rfl, hxx, rfl⟩ := e1
     clear hxx
     simp only at rg
     obtain ⟨o, ho⟩ : ∃ o, o = D.ops.getD i dW := ⟨_, rfl⟩
     rw [<- ho] at rg
     have hoo : OwOk D.np o := by rw [ho]; exact HOP.out _ (getD_memW _ _ hlt)
     have hll := HLL.out i hi
     have hel := hoo.len
     have hio : (Tryz.prog.info? 112).map (·.size) = some (encW o).length := by rw [sizeW, hel]
     obtain ⟨Z0, hZ0⟩ : ∃ Z, Z = zW 0 := ⟨_, rfl⟩
     have HZ0 := hid hZ0
     have g1 := hid (hnew wr (.cells Z0.toArray 112))
     have K1 := hid (show (Tryz.prog.info? 112).map (·.size) = some (encW o).toArray.size by rw [sizeW, List.size_toArray, hel])
     have K2 := hid (show Z0.toArray.size = (encW o).toArray.size by rw [hZ0, List.size_toArray, List.size_toArray, zW_len, hel])
     have oo := hid (all_oneCell_toArray (encW_one o))
     have hA := hD.below ((Below.refl _ wr).alloc (Nat.le_refl _) (.cells (encW o).toArray 112))
     have hFA := hF.alloc (.cells (encW o).toArray 112)
     have gN := hnew wr (.cells (encW o).toArray 112)
     clear e2 e3 e4 e5 hZ0
     by_cases hfl2 : i < fs.length
     · have i2 : (i : Int) < (fs.length : Int) := by omega
       have HS := hid (show crashTo D.img D.ops fs (i + 1) = tornTo (crashTo D.img D.ops fs i) o (fateOf fs i) 4 by rw [crashTo, if_pos hfl2, <- ho])
       clear ho
       have hsp := HFSP.out (by omega)
       subst hsp
       have hfbb := HFI.out (by omega)
       have hbt := HFB.out.get i
       obtain ⟨f, hf⟩ : ∃ f : Nat, (f : Int) = fs.getD i 0 := ⟨(fs.getD i 0).toNat, by omega⟩
       have hfo : fateOf fs i = f := by unfold fateOf; omega
       have hf256 : f < 256 := by omega
       rw [hfo] at HS
       have HTE := hid (tear_in _ base _ _ hA.drew D.np hll h4 o hoo f hf256)
       have hwb : (wr.alloc (.cells (encW o).toArray 112)).heap[fb]? = w.heap[fb]? := hFA.block fb hfbb (hsb _ (by omega) rfl)
       have hcf : (wr.alloc (.cells (encW o).toArray 112)).cell? ⟨fb, fo + i, none⟩ = some (.int .u8 f) := by
         rw [World.cell?, hwb, hf]; exact HFS.out i hfl2
       have KIN := hid (show (wr.alloc (.cells (encW o).toArray 112)).drew.rangeAt wr.heap.size 0 (encW o) /\ (wr.alloc (.cells (encW o).toArray 112)).drew.cell? ⟨fb, fo + i, none⟩ = some (.int .u8 f) from ⟨rng (show (wr.alloc (.cells (encW o).toArray 112)).drew.heap[wr.heap.size]? = _ from gN), hcf⟩)
       have hNF : wr.heap.size ∉ (DP.mk p g m gc (.slice (some ⟨go, 0, none⟩) D.ops.length capo) rs M).fp := fun e => by have := (hD.lt _ e).2; omega
       have KKEEP := hid (fun (w4 : World) (hF4 : Fr (DP.mk p g m gc (.slice (some ⟨go, 0, none⟩) D.ops.length capo) rs M).fp (wr.alloc (.cells (encW o).toArray 112)).drew w4) => (show w4.rangeAt wr.heap.size 0 (encW o) /\ w4.cell? ⟨fb, fo + i, none⟩ = some (.int .u8 f) from
         ⟨rng_of_heap KIN.out.1 (hF4.block _ (hlt_ gN) hNF), by rw [World.cell?, hF4.block fb (by have := hFA.size; show fb < (wr.alloc (.cells (encW o).toArray 112)).heap.size; omega) (hsb _ (by omega) rfl)]; exact KIN.out.2⟩))
       have KDK := hid (fun (w4 : World) (hD4 : DK w4 base (DP.mk p g m gc (.slice (some ⟨go, 0, none⟩) D.ops.length capo) rs M) { D with img := tornTo (crashTo D.img D.ops fs i) o f 4 }) => (show DK w4 base (DP.mk p g m gc (.slice (some ⟨go, 0, none⟩) D.ops.length capo) rs M) { D with img := crashTo D.img D.ops fs (i + 1) } by rw [HS.out]; exact hD4))
       have KFR := hid (fun (w4 : World) (hF4 : Fr (DP.mk p g m gc (.slice (some ⟨go, 0, none⟩) D.ops.length capo) rs M).fp (wr.alloc (.cells (encW o).toArray 112)).drew w4) => hFA.drew.trans hF4 (Gr.refl _ _))
       clear hD hF hA hFA gN hNF hwb hll hel HFS HFI HFB hbt hf hfo hoo hsb HFSP
       go_wp2_with (first
         | refine wpList_load_mid rfl 112 _ rfl go (i * 257) rfl _ _ rg Tryz.underlying112 rfl hio ?_
         | refine wpList_allocW rfl rfl Z0 HZ0.out ?_
         | (refine wpList_store_row rfl 112 _ _ rfl wr.heap.size _ rfl rfl 112 _ g1.out K1.out K2.out oo.out ?_; rw [setRow_alloc]))
       clear g1 K1 K2 oo HZ0 rg hcf
       generalize hNN : wr.heap.size = N at *
       clear hNN
       refine wp_region_noPanic ?_
       refine wp_region_held_drew (S := fun w' => w'.rangeAt N 0 (encW o) /\ w'.cell? ⟨fb, fo + i, none⟩ = some (.int .u8 f)) (by kernel_rfl) KIN.out (fun hHeld => ?_)
       refine tkA 0 (.pointer (some ⟨p, 0, none⟩)) rfl hHeld ?_
       try go_frame
       refine tqA 1 (.agg (encW o).toArray) rfl (yieldsIf_load_mid (by rfl) 112 _ rfl N (0) rfl (encW o) _ (fun w hS => hS.1) Tryz.underlying112 rfl hio) hHeld ?_
       try go_frame
       refine tkA 2 (.slice (some ⟨fb, fo, none⟩) fs.length fcap) rfl hHeld ?_
       try go_frame
       refine tkA 3 (.int .i64 i) rfl hHeld ?_
       try go_frame
       refine tkA 4 (.pointer (some ⟨fb, fo + i, none⟩)) rfl hHeld ?_
       try go_frame
       refine tqA 5 (.int .u8 f) rfl (yA (by intro w hS; have hc := hS.2; go_simp)) hHeld ?_
       try go_frame
       refine rdA 6 rfl (fun K hK => ?_)
       go_simp
       go_at_call 47
       refine HTE.out.mono ?_
       rintro e w4 ⟨rfl, hD4, hF4⟩
       go_wp2_with fail
       refine hK.out _ _ (KKEEP.out w4 hF4) ?_
       clear hK K hHeld
       intro hHeld
       try go_frame
       refine wdA ?_
       clear hHeld
       go_wp2
       go_roundw
       case rel => exact ⟨i + 1, by omega, by go_num, KDK.out w4 hD4, KFR.out w4 hF4⟩
       case measure => simp [intOf]; omega
     · have i2 : ¬ (i : Int) < (fs.length : Int) := by omega
       have KDK := hid (show DK (wr.alloc (.cells (encW o).toArray 112)) base ⟨p, g, m, gc, .slice (some ⟨go, 0, none⟩) D.ops.length capo, rs, M⟩ { D with img := crashTo D.img D.ops fs (i + 1) } by rw [crashTo, if_neg hfl2]; exact hA)
       have KFR := hid hFA
       clear hD hF hA hFA gN hll hel hoo ho
       go_wp2_with (first
         | refine wpList_load_mid rfl 112 _ rfl go (i * 257) rfl _ _ rg Tryz.underlying112 rfl hio ?_
         | refine wpList_allocW rfl rfl Z0 HZ0.out ?_
         | (refine wpList_store_row rfl 112 _ _ rfl wr.heap.size _ rfl rfl 112 _ g1.out K1.out K2.out oo.out ?_; rw [setRow_alloc]))
       go_roundw
       case rel => exact ⟨i + 1, by omega, by go_num, KDK.out, KFR.out⟩
       case measure => simp [intOf]; omega
   · obtain rfl : i = D.ops.length := by omega
     clear hlt
     have k3 := hid (dropOpen_in wr base _ _ hD)
     have HF := hid hF
     clear hD hF
     go_wp2_with (go_at_call 48; refine k3.out.mono ?_; rintro e w5 ⟨rfl, h5, f5⟩; have c7 := h5.c7; have c8 := h5.c8; have c9 := h5.c9; have fz := h5.fz; simp only at c7 c8 c9 fz)
     go_ret
     have h6 := h5.put (D' := { D with img := crashTo D.img D.ops fs D.ops.length, ops := [], power := true }) 7 (.bool true) rfl rfl rfl
     have h7 := h6.put (D' := { D with img := crashTo D.img D.ops fs D.ops.length, ops := [], power := true, armed := 0 }) 8 (.int .i64 0) rfl rfl rfl
     have h8 := h7.put (D' := D.crashed fs) 9 (.int .i64 (D.epoch + 1)) rfl rfl rfl
     have hm := (DP.mem (DP.mk p g m gc (.slice spo D.ops.length capo) rs M) p).2 (Or.inl rfl)
     exact ⟨rfl, h8, (((HF.out.trans f5 (Gr.refl _ _)).setCell hm _ _).setCell hm _ _).setCell hm _ _⟩
end Go.Proofs.YtbnghhgeoodphaaGreatDoor
