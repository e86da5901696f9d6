import Derived.Test.YtbjahdbmkcamoaaGreatDoorTrC
import Derived.Test.YtbjahdbmkcamoaaGreatDoorNj
namespace Go.Proofs.YtbjahdbmkcamoaaGreatDoor
set_option linter.unusedVariables false
set_option linter.unusedSimpArgs false
open Go.RowKit
attribute [local go_sem ↓] Go.wp_at_zero Go.wp_at_succ

/-- Where two keys part. -/
structure ComB (z y : List Int) (n : Nat) : Prop where
  le : n ≤ 256
  same : ∀ i, i < n → bitK z i = bitK y i
  split : n < 256 → bitK z n ≠ bitK y n
theorem comB_ex (z y : List Int) : ∃ n, ComB z y n := by
  have : ∀ m, m ≤ 256 → (∃ n, n < m ∧ (∀ i, i < n → bitK z i = bitK y i) ∧ bitK z n ≠ bitK y n) ∨ ∀ i, i < m → bitK z i = bitK y i := by
    intro m
    induction m with
    | zero => intro _; exact Or.inr fun i hi => by omega
    | succ m ih =>
      intro hm
      rcases ih (by omega) with ⟨n, h1, h2, h3⟩ | h
      · exact Or.inl ⟨n, by omega, h2, h3⟩
      · by_cases e : bitK z m = bitK y m
        · refine Or.inr fun i hi => ?_
          by_cases q : i = m
          · subst q; exact e
          · exact h i (by omega)
        · exact Or.inl ⟨m, by omega, h, e⟩
  rcases this 256 (Nat.le_refl _) with ⟨n, h1, h2, h3⟩ | h
  · exact ⟨n, by omega, h2, fun _ => h3⟩
  · exact ⟨256, Nat.le_refl _, h, fun q => by omega⟩
theorem comB_agr {z y : List Int} {n : Nat} (h : ComB z y n) (m : Nat) (hm : m < 256) : (agr z y m && !decide (bitK z m = bitK y m)) = decide (n = m) := by
  by_cases e : n = m
  · subst e
    rw [decide_eq_true rfl]
    have a : agr z y n = true := List.all_eq_true.2 fun i hi => by simpa using h.same i (List.mem_range.1 hi)
    have b := h.split hm
    simp [a, b]
  · rw [decide_eq_false e]
    by_cases q : m < n
    · have := h.same m q; simp [this]
    · have hn : n < 256 := by omega
      have b := h.split hn
      have a : agr z y m = false := by
        cases c : agr z y m with
        | false => rfl
        | true => exact absurd (agr_at c (i := n) (by omega)) b
      simp [a]
theorem hold2 (w : World) (a b : Obj) : ((w.alloc a).alloc b).heap[w.heap.size]? = some a := hold (hnew w a)
theorem hnew2 (w : World) (a b : Obj) : ((w.alloc a).alloc b).heap[w.heap.size + 1]? = some b := by
  have := hnew (w.alloc a) b
  rwa [show (w.alloc a).heap.size = w.heap.size + 1 by simp] at this
theorem half' (x : Int) (m : Nat) : x / 2 ^ m / 2 = x / 2 ^ (m + 1) := by
  have : (0 : Int) < 2 ^ m := Int.pow_pos (by decide)
  rw [Int.pow_succ, Int.ediv_ediv, if_neg (fun h => by omega), Int.sub_zero]
set_option maxRecDepth 100000 in
set_option maxHeartbeats 400000 in
theorem r3Bit_in (w : World) (k : List Int) (hk : k.length = 32) (hb : Byts k) (i : Nat) (hi : i < 256) :
    Calls Tryz.prog 62 #[.agg (ints .u8 k).toArray, .int .i64 i] w fun e w' => e = .returned (.int .i64 (bitK k i)) ∧ Below w.heap.size w w' := by
  have i1 : (i : Int) < 256 := by omega
  have hx := hb.get (i / 8)
  go_enter Tryz.func62, Tryz.ntmps62
  have c0 : (w.alloc (.cells (ints .u8 k).toArray 24)).cell? ⟨w.heap.size, i / 8, none⟩ = some (.int .u8 (k.getD (i / 8) 0)) := cell_ints (hnew w _) (i / 8) (by omega)
  have hB : Below w.heap.size w (w.alloc (.cells (ints .u8 k).toArray 24)) := (Below.refl _ _).alloc (Nat.le_refl _) _
  have HB := hid (show bitK k i = k.getD (i / 8) 0 / 2 ^ (7 - i % 8) % 2 from rfl)
  generalize bitK k i = bt at *
  generalize k.getD (i / 8) 0 = x at *
  generalize (ints .u8 k).toArray = Z at *
  have i2 : x < 256 := hx.2
  have i3 : 0 ≤ x := hx.1
  go_wp2
  generalize w.alloc (.cells Z 24) = w0 at *
  go_loopw [5, 6] (fun v j wr => ∃ t : Nat, t ≤ 7 - i % 8 ∧ v = .int .i64 (x / 2 ^ t) ∧ j = .int .i64 ((i % 8 + t : Nat) : Int) ∧ wr = w0) (fun _ j _ => 7 - (intOf j).toNat)
  case atStart => exact ⟨0, by omega, by simp [wrap64], by simp, rfl⟩
  case round =>
    obtain ⟨t, ht, rfl, rfl, rfl⟩ := hrel
    have hs := shr_bd i3 i2 t
    have HH := hid (half' x t)
    by_cases hltq : t < 7 - i % 8
    · have j1 : ((i % 8 + t : Nat) : Int) < 7 := by omega
      generalize x / 2 ^ t = y at *
      generalize hp : i % 8 + t = p at *
      have j2 : 0 ≤ y := hs.1
      have j3 : y < 256 := hs.2
      go_wp2
      go_roundw
      case rel => exact ⟨t + 1, by omega, (by rw [← HH.out]), by rw [← Nat.add_assoc, hp]; simp, trivial⟩
      case measure => simp [intOf]; omega
    · obtain rfl : t = 7 - i % 8 := by omega
      have j1 : ¬ ((i % 8 + (7 - i % 8) : Nat) : Int) < 7 := by omega
      have HB' := hid HB.out
      generalize x / 2 ^ (7 - i % 8) = y at *
      generalize i % 8 + (7 - i % 8) = p at *
      have j2 : 0 ≤ y := hs.1
      have j3 : y < 256 := hs.2
      go_wp2
      go_ret
      exact ⟨by rw [HB'.out]; rfl, hB⟩
set_option maxRecDepth 100000 in
set_option maxHeartbeats 400000 in
theorem r3Common_any (w : World) (z y : List Int) (hz : Byts z) (hy : Byts y) (lz : z.length = 32) (ly : y.length = 32) (n : Nat) (hC : ComB z y n) :
    Calls Tryz.prog 82 #[.agg (ints .u8 z).toArray, .agg (ints .u8 y).toArray] w fun e w' => e = .returned (.int .i64 n) ∧ Below w.heap.size w w' := by
  have hB : Below w.heap.size w ((w.alloc (.cells (ints .u8 z).toArray 24)).alloc (.cells (ints .u8 y).toArray 24)) := ((Below.refl _ _).alloc (Nat.le_refl _) _).alloc (by simp) _
  have g1 := hold2 w (.cells (ints .u8 z).toArray 24) (.cells (ints .u8 y).toArray 24)
  have g2 := hnew2 w (.cells (ints .u8 z).toArray 24) (.cells (ints .u8 y).toArray 24)
  have SZ := hid (show (ints .u8 z).toArray.size = 32 by simp [lz, ints])
  have SY := hid (show (ints .u8 y).toArray.size = 32 by simp [ly, ints])
  have hn := hC.le
  go_enter Tryz.func82, Tryz.ntmps82
  go_wp2
  generalize ((w.alloc (.cells (ints .u8 z).toArray 24)).alloc (.cells (ints .u8 y).toArray 24)) = w0 at *
  generalize hN : w.heap.size = N at *
  go_loopw [5] (fun i wr => ∃ j : Nat, j ≤ n ∧ i = .int .i64 j ∧ wr.heap[N]? = some (.cells (ints .u8 z).toArray 24) ∧ wr.heap[N + 1]? = some (.cells (ints .u8 y).toArray 24) ∧ Below N w wr) (fun i _ => 256 - (intOf i).toNat)
  case atStart => exact ⟨0, by omega, rfl, g1, g2, hB⟩
  case round =>
    clear g1 g2 hB
    obtain ⟨j, hj, rfl, g1, g2, hB⟩ := hrel
    by_cases hltq : j < 256
    · have i1 : (j : Int) < 256 := by omega
      have KA := hid (fun w => r3Bit_in w z lz hz j hltq)
      have KB := hid (fun w => r3Bit_in w y ly hy j hltq)
      have HD := hid (show (bitK z j = bitK y j ∧ j < n) ∨ (bitK z j ≠ bitK y j ∧ j = n) by
        by_cases h : j < n
        · exact Or.inl ⟨hC.same j h, h⟩
        · obtain rfl : j = n := by omega
          exact Or.inr ⟨hC.split hltq, rfl⟩)
      generalize bitK z j = bz at *
      generalize bitK y j = bY at *
      go_wp2_with (first | refine wpList_load_row rfl 24 _ rfl _ rfl 24 _ _ _ (by exact g1) Tryz.underlying24 rfl (by rw [Tryz.sizeKy, SZ.out]) ?_)
      refine (KA.out _).mono ?_
      rintro e w1 ⟨rfl, hB1⟩
      have f1 := hbel hB1 g1 (hlt g1)
      have f2 := hbel hB1 g2 (hlt g2)
      have f3 : Below N w w1 := hB.trans (hB1.mono (by have := hlt g1; omega))
      clear g1 g2 hB hB1 KA
      go_wp2_with (first | refine wpList_load_row rfl 24 _ rfl _ rfl 24 _ _ _ (by exact f2) Tryz.underlying24 rfl (by rw [Tryz.sizeKy, SY.out]) ?_)
      refine (KB.out _).mono ?_
      rintro e w2 ⟨rfl, hB1⟩
      have g1 := hbel hB1 f1 (hlt f1)
      have g2 := hbel hB1 f2 (hlt f2)
      have g3 : Below N w w2 := f3.trans (hB1.mono (by have := hlt f1; omega))
      clear f1 f2 f3 hB1 KB
      rcases HD.out with ⟨h1, h2⟩ | ⟨h1, h2⟩
      · subst h1
        clear HD
        go_wp2
        go_roundw
        case rel => exact ⟨j + 1, by omega, by go_num, g1, g2, g3⟩
        case measure => simp [intOf]; omega
      · clear HD
        subst h2
        go_wp2
        go_ret
        exact ⟨rfl, by rw [hN]; exact g3⟩
    · obtain rfl : j = 256 := by omega
      obtain rfl : n = 256 := by omega
      clear hltq
      go_wp2
      go_ret
      exact ⟨rfl, by rw [hN]; exact hB⟩
end Go.Proofs.YtbjahdbmkcamoaaGreatDoor
namespace Go.Proofs.YtbjahdbmkcamoaaGreatDoor
set_option linter.unusedVariables false
set_option linter.unusedSimpArgs false
open Go.RowKit
attribute [local go_sem ↓] Go.wp_at_zero Go.wp_at_succ

theorem encG_key {m : MG} {e : EnM} {w : World} (h : SaysG w m e) : ∀ (j : Nat) (x : Value), (ints .u8 e.k)[j]? = some x → (encG m)[j]? = some x := fun j x hx => by
  unfold encG
  rw [h.1, List.getElem?_append_left (List.getElem?_eq_some_iff.1 hx).1]; exact hx
theorem rng_key {w : World} {b o : Nat} {m : MG} {e : EnM} {w0 : World} (hr : w.rangeAt b o (encG m)) (h : SaysG w0 m e) : w.rangeAt b o (ints .u8 e.k) := fun j x hx => hr j x (encG_key h j x hx)
theorem cell_val {w : World} {b o : Nat} {m : MG} {e : EnM} {w0 : World} (hr : w.rangeAt b o (encG m)) (h : SaysG w0 m e) : w.cell? ⟨b, o + 32, none⟩ = some m.sv := hr 32 _ (by
  unfold encG
  rw [List.getElem?_append_right (by rw [ints_len, h.1, h.2.1]; omega), ints_len, h.1, h.2.1, Nat.sub_self]; rfl)
theorem filt_snoc {α : Type} (p : α → Bool) (l : List α) (d : α) (i : Nat) (h : i < l.length) : (l.take (i + 1)).filter p = (l.take i).filter p ++ (if p (l.getD i d) = true then [l.getD i d] else []) := by
  rw [List.take_succ_eq_append_getElem h, List.filter_append, List.getD_eq_getElem?_getD, List.getElem?_eq_getElem h]
  show _ ++ List.filter p [l[i]] = _ ++ if p l[i] = true then [l[i]] else []
  cases q : p l[i] <;> simp [q]
theorem filt_len {α : Type} (p : α → Bool) (l : List α) (i : Nat) : ((l.take i).filter p).length ≤ l.length := Nat.le_trans (List.length_filter_le _ _) (by rw [List.length_take]; omega)
set_option maxRecDepth 100000 in
set_option maxHeartbeats 4000000 in
theorem neighbours_any (w : World) (m : List EnM) (hm : MapVs m) (hN : m.length ≤ 1000000) (sp : Option Addr) (cap : Nat) (hS : SrcE w sp cap m) (ks : List Int) (hk : ks.length = 32) (hy : Bys ks) (h : Nat) (hh : h < 256) :
    Calls Tryz.prog 64 #[.slice sp m.length cap, .agg (ints .u8 ks).toArray, .int .i64 h] w fun e w' => ∃ v, e = .returned v ∧ OwnE w' w.heap.size v (nbs m ks h) ∧ Below w.heap.size w w' := by
  have i0 : (m.length : Int) ≤ 1000000 := by omega
  have i4 : (h : Int) < 256 := by omega
  have hb1 : Below w.heap.size w (w.alloc (.cells (ints .u8 ks).toArray 24)) := (Below.refl _ _).alloc (Nat.le_refl _) _
  have k1 := hnew w (.cells (ints .u8 ks).toArray 24)
  have LK := hid (show (Tryz.prog.info? 24).map (·.size) = some (ints .u8 ks).length by rw [Tryz.sizeKy, ints_len, hk])
  have HP := hid (show nbs m ks h = (m.take m.length).filter (fun e => agr e.k ks (255 - h) && !decide (bitK e.k (255 - h) = bitK ks (255 - h))) by rw [List.take_length]; rfl)
  go_enter Tryz.func64, Tryz.ntmps64
  go_wp2_with fail
  go_loopw [7, 8, 9] (fun v iv _ wr => ∃ i : Nat, i ≤ m.length ∧ iv = .int .i64 i ∧ (∃ ms, OwnG wr (w.heap.size + 1) v ms ∧ SaysGL w ms ((m.take i).filter (fun e => agr e.k ks (255 - h) && !decide (bitK e.k (255 - h) = bitK ks (255 - h))))) ∧ wr.heap[w.heap.size]? = some (.cells (ints .u8 ks).toArray 24 (0, 0)) ∧ Below w.heap.size w wr) (fun _ iv _ _ => m.length - (intOf iv).toNat)
  case atStart => exact ⟨0, by omega, rfl, ⟨[], OwnG.nil _ _, SaysGL.nil _⟩, k1, hb1⟩
  case round =>
    clear k1 hb1
    obtain ⟨i, hi, rfl, hO, kr, hB⟩ := hrel
    by_cases hlt' : i < m.length
    · have i1 : (i : Int) < (m.length : Int) := by omega
      obtain ⟨b, o, M, rfl, hbl0, hr0, hs⟩ := hS.at i hlt'
      have hr := rng_below hr0 hB hbl0
      have hbl := Nat.lt_of_lt_of_le hbl0 hB.size
      obtain ⟨n, hn⟩ := comB_ex (m.getD i dE).k ks
      have hmem : m.getD i dE ∈ m := gD_mem m dE i hlt'
      obtain ⟨⟨hl, hyb⟩, _⟩ := hm.ok _ hmem
      have KC := hid (fun w1 => r3Common_any w1 (m.getD i dE).k ks hyb hy hl hk n hn)
      have hrk := rng_key hr hs
      have LE := hid (show (Tryz.prog.info? 24).map (·.size) = some (ints .u8 (m.getD i dE).k).length by rw [Tryz.sizeKy, ints_len, hl])
      have HF := hid (filt_snoc (fun e : EnM => agr e.k ks (255 - h) && !decide (bitK e.k (255 - h) = bitK ks (255 - h))) m dE i hlt')
      have hP : (agr (m.getD i dE).k ks (255 - h) && !decide (bitK (m.getD i dE).k (255 - h) = bitK ks (255 - h))) = decide (n = 255 - h) := comB_agr hn (255 - h) (by omega)
      have hln := filt_len (fun e : EnM => agr e.k ks (255 - h) && !decide (bitK e.k (255 - h) = bitK ks (255 - h))) m i
      rw [show (if (fun e : EnM => agr e.k ks (255 - h) && !decide (bitK e.k (255 - h) = bitK ks (255 - h))) (m.getD i dE) = true then [m.getD i dE] else []) = (if n = 255 - h then [m.getD i dE] else []) by show (if (agr (m.getD i dE).k ks (255 - h) && !decide (bitK (m.getD i dE).k (255 - h) = bitK ks (255 - h))) = true then _ else _) = _; rw [hP]; simp] at HF
      generalize (m.take i).filter (fun e => agr e.k ks (255 - h) && !decide (bitK e.k (255 - h) = bitK ks (255 - h))) = FI at *
      have hnl := hn.le
      have i5 : (n : Int) ≤ 256 := by omega
      clear hP
      generalize hEe : m.getD i dE = E at *
      have HEe := hid hEe
      clear hEe hn
      obtain ⟨ms, hG, hSL⟩ := hO
      by_cases hq : n = 255 - h
      · have i6 : (n : Int) = 255 - (h : Int) := by omega
        have i7 : ((n : Int) == 255 - (h : Int)) = true := by simpa using i6
        rw [if_pos hq] at HF
        have l33 := hs.len
        have o33 := hs.one
        have HSL := hid (hSL.snoc hs)
        have hml : ms.length + 1 ≤ 1000000000000 := by rw [hSL.1]; omega
        have HI6 := hid i6
        clear hq i6
        go_wp2_with fail
        refine wp_region_noPanic ?_
        refine wp_region_held_drew (S := (fun w' => Below wr.heap.size wr w')) (by kernel_rfl) (Below.refl _ _).drew (fun hHeld => ?_)
        refine wpAnyH_take (i := 0) (oi := { dst := some 16, op := Op.move (Operand.tmp 0), type := 26, pos := "ref.go:49", after := #[], guard := none }) (v := .slice (some ⟨b, o, none⟩) m.length cap) rfl (by kernel_rfl) (by kernel_rfl) (by kernel_rfl) (fun _ _ _ h => h) (Or.inl ⟨by rfl, by intro w hS; go_simp⟩) hHeld ?_
        try simp only [Act.put, List.setIfInBounds_toArray, List.set_cons_zero, List.set_cons_succ]
        refine wpAnyH_take (i := 1) (oi := { dst := some 17, op := Op.move (Operand.tmp 8), type := 3, pos := "ref.go:49", after := #[], guard := none }) (v := .int .i64 i) rfl (by kernel_rfl) (by kernel_rfl) (by kernel_rfl) (fun _ _ _ h => h) (Or.inl ⟨by rfl, by intro w hS; go_simp⟩) hHeld ?_
        try simp only [Act.put, List.setIfInBounds_toArray, List.set_cons_zero, List.set_cons_succ]
        refine wpAnyH_take (i := 5) (oi := { dst := some 21, op := Op.load 24 (Operand.tmp 4), type := 24, pos := "ref.go:49", after := #[], guard := none }) (v := .agg (ints .u8 ks).toArray) rfl (by kernel_rfl) (by kernel_rfl) (by kernel_rfl) (fun _ _ _ h => h) (yieldsIf_load_mid (by rfl) 24 _ rfl w.heap.size (0) rfl (ints .u8 ks) _ (fun w hS => rng (hbel hS kr (hlt kr))) Tryz.underlying24 rfl LK.out) hHeld ?_
        try simp only [Act.put, List.setIfInBounds_toArray, List.set_cons_zero, List.set_cons_succ]
        refine wpAnyH_take (i := 2) (oi := { dst := some 18, op := Op.indexAddr 26 (Operand.tmp 16) (Operand.tmp 17), type := 0, pos := "ref.go:49", after := #[{ on := 0, ground := Ground.data }, { on := 1, ground := Ground.data }], guard := none }) (v := .pointer (some ⟨b, o + i * 33, none⟩)) rfl (by kernel_rfl) (by kernel_rfl) (by kernel_rfl) (fun _ _ _ h => h) (Or.inl ⟨by rfl, by intro w hS; go_simp⟩) hHeld ?_
        try simp only [Act.put, List.setIfInBounds_toArray, List.set_cons_zero, List.set_cons_succ]
        refine wpAnyH_take (i := 3) (oi := { dst := some 19, op := Op.fieldAddr 67 (Operand.tmp 18) 0, type := 0, pos := "ref.go:49", after := #[{ on := 2, ground := Ground.data }], guard := none }) (v := .pointer (some ⟨b, o + i * 33, none⟩)) rfl (by kernel_rfl) (by kernel_rfl) (by kernel_rfl) (fun _ _ _ h => h) (Or.inl ⟨by rfl, by intro w hS; go_simp⟩) hHeld ?_
        try simp only [Act.put, List.setIfInBounds_toArray, List.set_cons_zero, List.set_cons_succ]
        refine wpAnyH_take (i := 4) (oi := { dst := some 20, op := Op.load 24 (Operand.tmp 19), type := 24, pos := "ref.go:49", after := #[{ on := 3, ground := Ground.data }], guard := none }) (v := .agg (ints .u8 E.k).toArray) rfl (by kernel_rfl) (by kernel_rfl) (by kernel_rfl) (fun _ _ _ h => h) (yieldsIf_load_mid (by rfl) 24 _ rfl b (o + i * 33) rfl (ints .u8 E.k) _ (fun w hS => rng_below hrk hS hbl) Tryz.underlying24 rfl LE.out) hHeld ?_
        try simp only [Act.put, List.setIfInBounds_toArray, List.set_cons_zero, List.set_cons_succ]
        refine wpAnyH_ready (rs := [6]) (by kernel_rfl) (by simp) ?_
        refine (AllReadyH.cons (o := { dst := some 22, op := Op.call { callee := Callee.value (Operand.func 82), args := #[Operand.tmp 20, Operand.tmp 21], argTypes := #[24, 24] }, type := 3, pos := "ref.go:49", after := #[{ on := 4, ground := Ground.data }, { on := 5, ground := Ground.data }], guard := none }) rfl (fun K hK => ?_) AllReadyH.nil)
        go_simp
        go_at_call 82
        refine (KC.out _).mono ?_
        rintro e w4 ⟨rfl, hb4⟩
        go_wp2_with fail
        refine hK.out _ _ (hHeld.trans (hb4.mono hHeld.size)) (fun hHeld2 => ?_)
        clear hK K hHeld
        have hHeld := hHeld2
        clear hHeld2
        clear hb4
        try simp only [Act.put, List.setIfInBounds_toArray, List.set_cons_zero, List.set_cons_succ]
        refine wpAnyH_take (i := 7) (oi := { dst := some 9, op := Op.assign (Operand.tmp 22), type := 3, pos := "ref.go:49", after := #[{ on := 6, ground := Ground.data }, { on := 6, ground := Ground.chain }, { on := 0, ground := Ground.phase }, { on := 1, ground := Ground.phase }, { on := 2, ground := Ground.phase }, { on := 3, ground := Ground.phase }, { on := 4, ground := Ground.phase }, { on := 5, ground := Ground.phase }, { on := 6, ground := Ground.phase }], guard := none }) (v := .int .i64 n) rfl (by kernel_rfl) (by kernel_rfl) (by kernel_rfl) (fun _ _ _ h => h) (Or.inl ⟨by rfl, by intro w hS; go_simp⟩) hHeld ?_
        try simp only [Act.put, List.setIfInBounds_toArray, List.set_cons_zero, List.set_cons_succ]
        refine wpAnyH_done (by kernel_rfl) ?_ _
        refine NoPanic.normal ?_
        have hB5 := hHeld
        clear hHeld
        have hr5 := rng_below hr hB5 hbl
        have hG5 := hG.below hB5 (Nat.le_refl _)
        have LEn := hid (show (Tryz.prog.info? 67).map (·.size) = some (encG M).length by rw [entSize, l33])
        go_wp2_with (first | refine wpList_load_mid rfl 67 _ rfl b (o + i * 33) rfl (encG M) _ hr5 Tryz.underlying67 rfl LEn.out ?_ | refine wpList_sliceG rfl _ rfl (encG M) l33 rfl ?_ | (at_builtin; refine wpList_pushG rfl _ _ rfl (w.heap.size + 1) _ ms M rfl hG5 rfl l33 o33 hml (Nat.le_trans (hlt kr) hB5.size) _ _ ?_; intro v6 w6 hG6 hB6; refine Hid.out ?_))
        refine hid ?_
        have hB7 : Below w.heap.size w w6 := (hB.trans (hB5.mono hB.size)).trans (hB6.mono (by omega))
        have kr7 : w6.heap[w.heap.size]? = _ := hbel hB6 (hbel hB5 kr (hlt kr)) (by omega)
        go_wp2_with fail
        go_roundw
        case rel => exact ⟨i + 1, by omega, by go_num, ⟨_, hG6, by rw [HF.out]; exact HSL.out⟩, kr7, hB7⟩
        case measure => simp [intOf]; omega
      · have i6 : ¬ ((n : Int) = 255 - (h : Int)) := by omega
        have i7 : ((n : Int) == 255 - (h : Int)) = false := by simpa using i6
        rw [if_neg hq, List.append_nil] at HF
        have HSL := hid hSL
        clear hq i6 hSL
        go_wp2_with fail
        refine wp_region_noPanic ?_
        refine wp_region_held_drew (S := (fun w' => Below wr.heap.size wr w')) (by kernel_rfl) (Below.refl _ _).drew (fun hHeld => ?_)
        refine wpAnyH_take (i := 0) (oi := { dst := some 16, op := Op.move (Operand.tmp 0), type := 26, pos := "ref.go:49", after := #[], guard := none }) (v := .slice (some ⟨b, o, none⟩) m.length cap) rfl (by kernel_rfl) (by kernel_rfl) (by kernel_rfl) (fun _ _ _ h => h) (Or.inl ⟨by rfl, by intro w hS; go_simp⟩) hHeld ?_
        try simp only [Act.put, List.setIfInBounds_toArray, List.set_cons_zero, List.set_cons_succ]
        refine wpAnyH_take (i := 1) (oi := { dst := some 17, op := Op.move (Operand.tmp 8), type := 3, pos := "ref.go:49", after := #[], guard := none }) (v := .int .i64 i) rfl (by kernel_rfl) (by kernel_rfl) (by kernel_rfl) (fun _ _ _ h => h) (Or.inl ⟨by rfl, by intro w hS; go_simp⟩) hHeld ?_
        try simp only [Act.put, List.setIfInBounds_toArray, List.set_cons_zero, List.set_cons_succ]
        refine wpAnyH_take (i := 5) (oi := { dst := some 21, op := Op.load 24 (Operand.tmp 4), type := 24, pos := "ref.go:49", after := #[], guard := none }) (v := .agg (ints .u8 ks).toArray) rfl (by kernel_rfl) (by kernel_rfl) (by kernel_rfl) (fun _ _ _ h => h) (yieldsIf_load_mid (by rfl) 24 _ rfl w.heap.size (0) rfl (ints .u8 ks) _ (fun w hS => rng (hbel hS kr (hlt kr))) Tryz.underlying24 rfl LK.out) hHeld ?_
        try simp only [Act.put, List.setIfInBounds_toArray, List.set_cons_zero, List.set_cons_succ]
        refine wpAnyH_take (i := 2) (oi := { dst := some 18, op := Op.indexAddr 26 (Operand.tmp 16) (Operand.tmp 17), type := 0, pos := "ref.go:49", after := #[{ on := 0, ground := Ground.data }, { on := 1, ground := Ground.data }], guard := none }) (v := .pointer (some ⟨b, o + i * 33, none⟩)) rfl (by kernel_rfl) (by kernel_rfl) (by kernel_rfl) (fun _ _ _ h => h) (Or.inl ⟨by rfl, by intro w hS; go_simp⟩) hHeld ?_
        try simp only [Act.put, List.setIfInBounds_toArray, List.set_cons_zero, List.set_cons_succ]
        refine wpAnyH_take (i := 3) (oi := { dst := some 19, op := Op.fieldAddr 67 (Operand.tmp 18) 0, type := 0, pos := "ref.go:49", after := #[{ on := 2, ground := Ground.data }], guard := none }) (v := .pointer (some ⟨b, o + i * 33, none⟩)) rfl (by kernel_rfl) (by kernel_rfl) (by kernel_rfl) (fun _ _ _ h => h) (Or.inl ⟨by rfl, by intro w hS; go_simp⟩) hHeld ?_
        try simp only [Act.put, List.setIfInBounds_toArray, List.set_cons_zero, List.set_cons_succ]
        refine wpAnyH_take (i := 4) (oi := { dst := some 20, op := Op.load 24 (Operand.tmp 19), type := 24, pos := "ref.go:49", after := #[{ on := 3, ground := Ground.data }], guard := none }) (v := .agg (ints .u8 E.k).toArray) rfl (by kernel_rfl) (by kernel_rfl) (by kernel_rfl) (fun _ _ _ h => h) (yieldsIf_load_mid (by rfl) 24 _ rfl b (o + i * 33) rfl (ints .u8 E.k) _ (fun w hS => rng_below hrk hS hbl) Tryz.underlying24 rfl LE.out) hHeld ?_
        try simp only [Act.put, List.setIfInBounds_toArray, List.set_cons_zero, List.set_cons_succ]
        refine wpAnyH_ready (rs := [6]) (by kernel_rfl) (by simp) ?_
        refine (AllReadyH.cons (o := { dst := some 22, op := Op.call { callee := Callee.value (Operand.func 82), args := #[Operand.tmp 20, Operand.tmp 21], argTypes := #[24, 24] }, type := 3, pos := "ref.go:49", after := #[{ on := 4, ground := Ground.data }, { on := 5, ground := Ground.data }], guard := none }) rfl (fun K hK => ?_) AllReadyH.nil)
        go_simp
        go_at_call 82
        refine (KC.out _).mono ?_
        rintro e w4 ⟨rfl, hb4⟩
        go_wp2_with fail
        refine hK.out _ _ (hHeld.trans (hb4.mono hHeld.size)) (fun hHeld2 => ?_)
        clear hK K hHeld
        have hHeld := hHeld2
        clear hHeld2
        clear hb4
        try simp only [Act.put, List.setIfInBounds_toArray, List.set_cons_zero, List.set_cons_succ]
        refine wpAnyH_take (i := 7) (oi := { dst := some 9, op := Op.assign (Operand.tmp 22), type := 3, pos := "ref.go:49", after := #[{ on := 6, ground := Ground.data }, { on := 6, ground := Ground.chain }, { on := 0, ground := Ground.phase }, { on := 1, ground := Ground.phase }, { on := 2, ground := Ground.phase }, { on := 3, ground := Ground.phase }, { on := 4, ground := Ground.phase }, { on := 5, ground := Ground.phase }, { on := 6, ground := Ground.phase }], guard := none }) (v := .int .i64 n) rfl (by kernel_rfl) (by kernel_rfl) (by kernel_rfl) (fun _ _ _ h => h) (Or.inl ⟨by rfl, by intro w hS; go_simp⟩) hHeld ?_
        try simp only [Act.put, List.setIfInBounds_toArray, List.set_cons_zero, List.set_cons_succ]
        refine wpAnyH_done (by kernel_rfl) ?_ _
        refine NoPanic.normal ?_
        have hB5 := hHeld
        clear hHeld
        have hG5 := hG.below hB5 (Nat.le_refl _)
        go_wp2_with fail
        go_roundw
        case rel => exact ⟨i + 1, by omega, by go_num, ⟨_, hG5, by rw [HF.out]; exact HSL.out⟩, hbel hB5 kr (hlt kr), hB.trans (hB5.mono hB.size)⟩
        case measure => simp [intOf]; omega
    · obtain rfl : i = m.length := by omega
      rw [← HP.out] at hO
      obtain ⟨ms, hG, hSL⟩ := hO
      have HO : OwnE wr w.heap.size _ (nbs m ks h) := ⟨ms, hG.base (by omega), hSL.below hB⟩
      go_wp2_with fail
      go_ret
      exact ⟨_, rfl, HO, hB⟩
end Go.Proofs.YtbjahdbmkcamoaaGreatDoor
