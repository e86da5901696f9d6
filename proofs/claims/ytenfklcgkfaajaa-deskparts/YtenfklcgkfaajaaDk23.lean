import Derived.Test.YtenfklcgkfaajaaDk22
import Derived.Laws.Cover3
namespace Go.Proofs.Ytenfklcgkfaajaa
set_option linter.unusedVariables false
set_option linter.unusedSimpArgs false
open Go.RowKit
attribute [local go_sem ↓] Go.wp_at_zero Go.wp_at_succ

theorem built_ent' (l : List Value) (hl : l.length = 32) : Try.prog.built 52 [(0, .agg l.toArray)] = some (l ++ [Value.slice none 0 0]).toArray := by
  obtain ⟨x0, x1, x2, x3, x4, x5, x6, x7, x8, x9, x10, x11, x12, x13, x14, x15, x16, x17, x18, x19, x20, x21, x22, x23, x24, x25, x26, x27, x28, x29, x30, x31, rfl⟩ := list32 hl
  kernel_rfl
theorem built_ent (k : List Int) (h : k.length = 32) : Try.prog.built 52 [(0, .agg (ints .u8 k).toArray)] = some (elC false k false (.slice none 0 0)).toArray := built_ent' _ (by rw [ints_len, h])
theorem allocEnt (a : Act) (o : Oper) (w : World) (ho : o.op = .alloc 52) : (execOp a.eval o).run Try.prog w = .ok (.value (.pointer (some ⟨w.heap.size, 0, none⟩))) (w.alloc (.cells (elC false z32 false (.slice none 0 0)).toArray 52)) := by
  unfold execOp
  rw [ho]
  kernel_rfl
theorem allocChg (a : Act) (o : Oper) (w : World) (ho : o.op = .alloc 54) : (execOp a.eval o).run Try.prog w = .ok (.value (.pointer (some ⟨w.heap.size, 0, none⟩))) (w.alloc (.cells (elC true z32 false (.slice none 0 0)).toArray 54)) := by
  unfold execOp
  rw [ho]
  kernel_rfl
theorem Try.sizeKey : (Try.prog.info? 50).map (·.size) = some 32 := by kernel_rfl
theorem Try.sizeDg : (Try.prog.info? 26).map (·.size) = some 32 := by kernel_rfl
theorem Try.sizeEnt : (Try.prog.info? 52).map (·.size) = some 33 := by kernel_rfl
theorem Try.sizeChg : (Try.prog.info? 54).map (·.size) = some 34 := by kernel_rfl
theorem z32_len : z32.length = 32 := by simp [z32]
theorem elC_set {c : Bool} {k : List Int} {d : Bool} {v u : Value} (h : k.length = 32) : (elC c k d v).set (szE c - 1) u = elC c k d u := by
  unfold elC szE
  cases c
  · rw [List.set_append_right _ _ (by simp [ints, h])]; simp [ints, h]
  · rw [List.set_append_right _ _ (by simp [ints, h])]; simp [ints, h]
theorem ElO.snoc {c : Bool} {w w1 : World} {base : Nat} {v v' : Value} {ms : List ME} {xs : List Cg} (h : ElO c w base v ms xs) (m : ME) (x : Cg) (hO : OwnL c w1 base v' (ms ++ [m])) (hk : w.grownBy w1 v.ownBlock) (h1 : m.key = x.key) (h2 : x.key.length = 32) (h3 : m.del = x.del) (h4 : Own w base m.sv x.val) : ElO c w1 base v' (ms ++ [m]) (xs ++ [x]) := by
  have hfar : ∀ (u : Value) (zs : List Int), Own w base u zs → Own w1 base u zs := fun u zs hu => hu.of_heap fun k hk2 => by
    refine hk.block k (hu.block k hk2).2 (fun e => ?_)
    obtain ⟨_, _, cs, e2⟩ := h.own.block k e.symm
    rcases hu.2 with ⟨e3, _⟩ | ⟨g, cap, cur, e3, hg, hh, _⟩
    · rw [e3] at hk2; simp [Value.ownBlock] at hk2
    · rw [e3] at hk2; simp [Value.ownBlock] at hk2; subst hk2
      rw [e2] at hh
      simp only [Option.some.injEq, Obj.cells.injEq] at hh
      have := hh.2.1
      unfold tyE at this
      cases c <;> simp at this
  refine ⟨hO, by simp [h.len], fun i hi => ?_⟩
  rw [List.length_append, List.length_singleton] at hi
  by_cases hi2 : i < xs.length
  · rw [gD_app_l _ _ _ _ hi2, gD_app_l _ _ _ _ (by rw [h.len]; exact hi2)]
    obtain ⟨a1, a2, a3, a4⟩ := h.el i hi2
    exact ⟨a1, a2, a3, hfar _ _ a4⟩
  · obtain rfl : i = xs.length := by omega
    rw [gD_app_r]
    rw [show (ms ++ [m]).getD xs.length dM = m by rw [← h.len]; exact gD_app_r _ _ _]
    exact ⟨h1, h2, h3, hfar _ _ h4⟩
theorem Keeps.then {g : Nat} {a b c : World} (h : Keeps g a b) (k : Below a.heap.size b c) : Keeps g a c :=
  ⟨k.os.trans h.os, k.tape.trans h.tape, k.output.trans h.output, Nat.le_trans h.size k.size, fun i hi hn => (k.block i hi).trans (h.block i hi hn)⟩
theorem RK.keep2 {w0 w w1 : World} {g b r : Nat} {R : Rd} (h : RK w0 w g b R) (k : Keeps r w w1) (hne : g ≠ r) (hr : w0.heap.size ≤ r) : RK w0 w1 g b R := by
  obtain ⟨o, cap, h1, h2⟩ := h.row
  exact ⟨h.bel.trans (k.below_g hr h.bel.size), h.new, o, cap, k.heap h1 hne, h2⟩
theorem RK.wcell {w0 w : World} {g b : Nat} {R : Rd} (h : RK w0 w g b R) : w.cell? ⟨g, 1, none⟩ = some (.bool R.wrong) := by
  obtain ⟨o, cap, h1, h2⟩ := h.row
  rw [cell_of_row _ _ _ _ _ _ h1]; rfl
theorem Own.keeps2 {w w1 : World} {base : Nat} {v : Value} {zs : List Int} {r t : Nat} {cs : Array Value} {fr : Nat × Nat} (h : Own w base v zs) (hr : w.heap[r]? = some (.cells cs t fr)) (ht : t ≠ 5) (hk : Keeps r w w1) : Own w1 base v zs := own_far h hr ht hk
/-- No two values of a list share a block. -/
def DjM (ms : List ME) : Prop := (ms.map ME.sv).Pairwise Dj
theorem DjM.nil : DjM [] := List.Pairwise.nil
theorem DjM.snoc {c : Bool} {w w4 : World} {base b4 : Nat} {v : Value} {ms : List ME} {xs : List Cg} {m : ME} {zs : List Int} (h : DjM ms) (hE : ElO c w base v ms xs) (hO : Own w4 b4 m.sv zs) (hb : w.heap.size ≤ b4) : DjM (ms ++ [m]) := by
  unfold DjM
  rw [List.map_append, List.map_singleton, List.pairwise_append]
  refine ⟨h, List.pairwise_singleton _ _, fun a ha b hb2 => ?_⟩
  obtain rfl := List.mem_singleton.1 hb2
  obtain ⟨m', hm', rfl⟩ := List.mem_map.1 ha
  obtain ⟨i, hi, e⟩ := List.mem_iff_getElem.1 hm'
  obtain ⟨_, _, _, a4⟩ := hE.el i (by rw [← hE.len]; exact hi)
  rw [List.getD_eq_getElem?_getD, List.getElem?_eq_getElem hi] at a4
  simp only [Option.getD_some] at a4
  rw [e] at a4
  exact dj_age a4 hO hb
set_option maxRecDepth 100000 in
set_option maxHeartbeats 4000000 in
theorem list_any (w0 w : World) (g b : Nat) (R : Rd) (hy : Bys R.rest) (h : RK w0 w g b R) :
    Calls Try.prog 47 #[.pointer (some ⟨g, 0, none⟩)] w fun e w' => ∃ v ms, e = .returned v ∧ ElO false w' w.heap.size v ms (lsP false R).1 ∧ RK w0 w' g b (lsP false R).2 ∧ Keeps g w w' ∧ DjM ms := by
  have KN := hid (numberUpTo_any w0 w g b R hy h 4096 4 (by omega))
  have hb := upV_bd R 4096 4 hy (by omega) (by omega)
  have hg := h.lt
  have hy1 := upS_bys hy 4096 4
  unfold lsP
  generalize hR1 : upS R 4096 4 = R1 at *
  generalize hx : upV R 4096 4 = x at *
  clear hR1 hx h hy
  obtain ⟨n, rfl⟩ := Int.eq_ofNat_of_zero_le hb.1
  rw [Int.toNat_natCast]
  have i0 : (n : Int) ≤ 4096 := hb.2
  clear hb
  go_enter Try.func47, Try.ntmps47
  go_wp2_with fail
  refine KN.out.mono ?_
  rintro e w1 ⟨rfl, hK, hk⟩
  clear KN
  go_wp2
  go_loopw [2, 6] (fun v i wr => ∃ (k : Nat) (R' : Rd) (acc : List Cg) (ms : List ME), k ≤ n ∧ i = .int .i64 k ∧ liP false (n - k) R' acc = liP false n R1 [] ∧ acc.length = k ∧ Bys R'.rest ∧ ElO false wr w.heap.size v ms acc ∧ RK w0 wr g b R' ∧ Keeps g w wr ∧ DjM ms) (fun _ i _ => n - (intOf i).toNat)
  case atStart => exact ⟨0, R1, [], [], Nat.zero_le _, rfl, rfl, rfl, hy1, ElO.nil _ _ _, hK, hk, DjM.nil⟩
  case round =>
    clear hK hk
    obtain ⟨k, R', acc, ms, hkn, rfl, hli, hal, hyr, hE, hK, hk, hDJ⟩ := hrel
    by_cases hlt' : k < n
    · have i1 : (k : Int) < (n : Int) := by omega
      have HLI := hid hli
      have HAL := hid hal
      clear hli hal
      have KT := hid (take_any w0 wr g b R' hK 32 (by omega))
      go_wp2_with fail
      refine KT.out.mono ?_
      rintro e w2 ⟨sb, so, cap, rfl, S2, hK2, hk2⟩
      have hkl := tkV_len R' 32
      have hy2 := tkS_bys hyr 32
      have HS := hid (show elS false R' = vaS (tkS R' 32) from rfl)
      have HV := hid (show elV false R' = ⟨tkV R' 32, false, vaV (tkS R' 32)⟩ from rfl)
      have S2r := hid (src_rangeAt S2)
      have hat : ∀ w, (Instr.arrayAt 50 (.slice (some ⟨sb, so, none⟩) 32 cap)).run Try.prog w = .ok (.pointer (some ⟨sb, so, none⟩)) w := fun w => run_arrayAt w 50 5 32 (some ⟨sb, so, none⟩) 32 cap Try.underlying50 (Nat.le_refl _)
      generalize tkV R' 32 = key at *
      generalize tkS R' 32 = R2 at *
      have BE := hid (built_ent key hkl)
      have SK := hid (show (Try.prog.info? 50).map (·.size) = some (ints .u8 key).length by rw [ints_len, hkl]; exact Try.sizeKey)
      have SE := hid (show (Try.prog.info? 52).map (·.size) = some (elC false key false (.slice none 0 0)).length by rw [elC_len hkl]; exact Try.sizeEnt)
      have SL := hid (show (elC false z32 false (.slice none 0 0)).length = (elC false key false (.slice none 0 0)).length by rw [elC_len hkl, elC_len z32_len])
      go_wp2_with (first
        | (refine wpList_load_mid rfl 50 _ rfl sb so rfl (ints .u8 key) _ S2r.out Try.underlying50 rfl SK.out ?_)
        | (refine wpList_built (by rfl) 52 _ rfl [(0, .agg (ints .u8 key).toArray)] rfl _ BE.out ?_)
        | (refine wpList_allocV allocEnt rfl rfl ?_)
        | (refine wpList_storeRowW rfl 52 _ _ rfl w2.heap.size (elC false key false (.slice none 0 0)) rfl rfl 52 _ (hnew w2 (.cells (elC false z32 false (.slice none 0 0)).toArray 52)) SE.out SL.out (elC_one rfl) ?_; intro w3 hr3 hk3; refine Hid.out ?_))
      refine hid ?_
      have hb3 : Below w2.heap.size w2 w3 := ((Below.refl w2.heap.size w2).alloc (Nat.le_refl _) _).trans (hk3.below_g (Nat.le_refl _) (by simp))
      have hg2 : g < w2.heap.size := hK2.lt
      have hK3 := hK2.keep (hb3.mono hg2)
      have q3 : Keeps g wr w3 := hk2.trans_b hb3
      have hz3 : w2.heap.size < w3.heap.size := hlt hr3
      have KV := hid (val_any w0 w3 g b R2 hy2 hK3)
      clear S2 S2r BE SK SE SL KT hk3 hb3 hK2 hat
      go_wp2_with fail
      refine KV.out.mono ?_
      rintro e w4 ⟨v4, rfl, O4, hK4, hk4⟩
      have DJ4 := hid (hDJ.snoc (m := ⟨key, false, v4⟩) hE O4 q3.size)
      have hr4 := hid (hk4.heap hr3 (by omega))
      have C4 := O4.cells
      have LJ := hid (show 32 < (elC false key false (.slice none 0 0)).length by rw [elC_len hkl]; decide)
      clear KV
      go_wp2_with (first | (refine wpList_storeW rfl 22 _ _ rfl w2.heap.size 32 v4 rfl rfl _ 52 hr4.out LJ.out Try.sizeBy C4.1 C4.2 ?_; intro w5 hr5 hk5; refine Hid.out ?_))
      refine hid ?_
      rw [show (32 : Nat) = szE false - 1 from rfl, elC_set hkl] at hr5
      have q4 : Keeps g wr w4 := q3.trans hk4
      have hs2 := hk2.size
      have q5 : Keeps g wr w5 := ⟨hk5.os.trans q4.os, hk5.tape.trans q4.tape, hk5.output.trans q4.output, Nat.le_trans q4.size hk5.size, fun i hi hn => (hk5.block i (Nat.lt_of_lt_of_le hi q4.size) (by omega)).trans (q4.block i hi hn)⟩
      have hK5 := hK4.keep2 hk5 (by omega) (by have := hK4.new; omega)
      have O5 : Own w5 w.heap.size v4 (vaV R2) := own_lower (own_far O4 hr4.out (by decide) hk5) (by have := hk.size; omega)
      have E5 := hE.keeps q5 hg
      have k5 : Keeps g w w5 := hk.trans q5
      have c5 := hK5.wcell
      have hy5 := vaS_bys hy2
      clear hr4 LJ hk5 O4 hK4 hk4 q3 q4 q5 hE hK hr3 hs2 hz3 hK3 hk2
      cases hw : (vaS R2).wrong with
      | true =>
        rw [hw] at c5
        have HW := hid hw
        clear hw
        go_wp2
        go_ret
        have e : liP false n R1 [] = ([], vaS R2) := by
          rw [← HLI.out, show n - k = (n - k - 1) + 1 by omega]
          unfold liP
          rw [HS.out, if_pos HW.out]
        rw [e]
        exact ⟨_, [], rfl, ElO.nil _ _ _, hK5, k5, DjM.nil⟩
      | false =>
        rw [hw] at c5
        have HW := hid hw
        clear hw
        have hr5' := hid hr5
        have SE := hid (show (Try.prog.info? 52).map (·.size) = some (elC false key false v4).toArray.size by rw [List.size_toArray, elC_len hkl]; exact Try.sizeEnt)
        have EL := hid (show (elC false key false v4).length = szE false from elC_len hkl)
        have ML := hid (show ms.length + 1 ≤ 1000000000000 by rw [E5.len, HAL.out]; omega)
        have hbz : w.heap.size ≤ w5.heap.size := k5.size
        have CO := hid C4.2
        go_wp2_with (first
          | (refine wpList_load_row rfl 52 _ rfl w2.heap.size rfl 52 _ (0, 0) _ hr5'.out Try.underlying52 rfl SE.out ?_)
          | (refine wpList_sliceL false rfl _ rfl (elC false key false v4) EL.out rfl ?_)
          | (at_builtin; refine wpList_pushL false rfl (.tmp 20) (.tmp 22) rfl w.heap.size _ ms ⟨key, false, v4⟩ rfl E5.own rfl EL.out (elC_one CO.out) ML.out hbz _ _ ?_; intro v6 w6 O6 hg6))
        have hb6 : Below w.heap.size w5 w6 := grown_keeps hg6 (fun k hk => (E5.own.block k hk).1) hbz
        go_roundw
        case rel =>
          refine ⟨k + 1, vaS R2, acc ++ [⟨key, false, vaV R2⟩], ms ++ [⟨key, false, v4⟩], by omega, by go_num, ?_, by rw [List.length_append, HAL.out]; rfl, hy5, E5.snoc ⟨key, false, v4⟩ ⟨key, false, vaV R2⟩ O6 hg6 rfl hkl rfl O5, hK5.keep (hb6.mono hg), k5.then hb6, DJ4.out⟩
          rw [← HLI.out, show n - k = (n - (k + 1)) + 1 by omega]
          conv => rhs; unfold liP
          rw [HS.out, HV.out, if_neg (by rw [HW.out]; simp)]
        case measure => simp [intOf]; omega
    · obtain rfl : k = n := by omega
      have e : liP false (k - k) R' acc = (acc, R') := by rw [Nat.sub_self]; rfl
      rw [e] at hli
      clear hlt'
      have HLI := hid hli
      clear hli
      go_wp2
      go_ret
      rw [← HLI.out]
      exact ⟨_, ms, rfl, hE, hK, hk, hDJ⟩
end Go.Proofs.Ytenfklcgkfaajaa
