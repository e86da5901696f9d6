import Derived.Test.YtgbimdfgapcdnaaGreatDoorSv5
namespace Go.Proofs.YtgbimdfgapcdnaaGreatDoor
set_option linter.unusedVariables false
set_option linter.unusedSimpArgs false
open Go.RowKit
attribute [local go_sem ↓] Go.wp_at_zero Go.wp_at_succ

theorem HS.lt {w : World} {h : Nat} (hs : HS w h) : h < w.heap.size := by rcases hs with q | ⟨m, q, _⟩ <;> exact hlt q
theorem HS.below {w w1 : World} {h : Nat} (hs : HS w h) (hB : Below w.heap.size w w1) : HS w1 h := by
  have hl := hs.lt
  rcases hs with q | ⟨m, q, hM⟩
  · exact Or.inl ((hB.block h hl).trans q)
  · exact Or.inr ⟨m, (hB.block h hl).trans q, hM.below hB⟩
theorem HS.keeps {w w1 : World} {h g : Nat} {rest : List Value} {L : List Int} (hs : HS w h) (hK : Keeps g w w1) (hI : IM w g rest L) (hgh : g ≠ h) : HS w1 h := by
  rcases hs with q | ⟨m, q, hM⟩
  · exact Or.inl (hK.heap q hgh.symm)
  · exact Or.inr ⟨m, hK.heap q hgh.symm, hM.of_heap (hK.block m hM.lt (hM.ne_row hI))⟩
theorem Keeps.cell {g b o : Nat} {a c : World} {v : Value} (h : Keeps g a c) (hb : b < a.heap.size) (hne : b ≠ g) (hc : a.cell? ⟨b, o, none⟩ = some v) : c.cell? ⟨b, o, none⟩ = some v := by
  unfold World.cell? at hc ⊢
  rw [h.block b hb hne]; exact hc
theorem drop_zz (o n : Nat) (h : o + 256 ≤ n) : ((zz n).drop o).take 256 = zz 256 := by
  unfold zz; rw [List.drop_replicate, List.take_replicate]; congr 1; omega
theorem drop_set (o n c : Nat) (x : Int) (hc : c < 256) (h : o + 256 ≤ n) : (((zz n).set (o + c) x).drop o).take 256 = (zz 256).set c x := by
  rw [List.drop_set, if_neg (by omega), show o + c - o = c by omega, List.take_set, drop_zz o n h]
theorem zz_get (n j : Nat) : (zz n).getD j 0 = 0 := by
  unfold zz; rw [List.getD_eq_getElem?_getD, List.getElem?_replicate]; split <;> rfl
set_option maxRecDepth 100000 in
set_option maxHeartbeats 1000000 in
theorem mend_any (w : World) (h g q o n : Nat) (rest : List Value) (hs : HS w h) (hI : IM w g rest (zz n)) (ho : o + 256 ≤ n) (hgh : g ≠ h) (hqg : q ≠ g) (hqh : q ≠ h) (hql : q < w.heap.size) (hq : w.cell? ⟨q, 0, none⟩ = some (.slice (some ⟨g, o, none⟩) 256 256)) :
    Calls Tryz.prog 23 #[.pointer (some ⟨h, 0, none⟩), .slice (some ⟨g, o, none⟩) 256 256, .func (.func 21) #[] #[.pointer (some ⟨q, 0, none⟩)]] w fun e w' => e = .returned (.bool false) ∧ HS w' h ∧ Keeps h w w' := by
  have hn : (zz n).length = n := by simp [zz]
  have HX := hid (And.intro hs (And.intro hI (And.intro hq hql)))
  have HO := hid ho
  have HC := hid (And.intro hgh (And.intro hqg hqh))
  have HN := hid hn
  have hnot : ∀ (x : Bool) (w : World), (Op.unary .not (.bool x)).run Tryz.prog w = .ok (.bool (!x)) w := fun _ _ => rfl
  clear hs hI hq hql ho hgh hqg hqh hn
  go_enter Tryz.func23, Tryz.ntmps23
  go_wp2_with fail
  refine (stands_no w q g rest (zz n) (zz 256) o HX.out.2.2.1 HX.out.2.1 (by rw [HN.out]; exact HO.out) (drop_zz o n HO.out) (zz_byts _) zz_bad).mono ?_
  rintro e w1 ⟨rfl, hB⟩
  obtain ⟨hs, hI, hq, hql⟩ := HX.out
  have hI1 := hI.below hB
  have hs1 := hs.below hB
  have hq1 := (hB.cell (p := ⟨q, 0, none⟩) hql).trans hq
  have hql1 := Nat.lt_of_lt_of_le hql hB.size
  have k1 : Keeps h w w1 := Keeps.of_below hB
  have HX1 := hid (And.intro hs1 (And.intro hI1 (And.intro hq1 (And.intro hql1 k1))))
  clear hs1 hI1 hq1 hql1 k1 hs hI hq hql hB HX
  go_wp2_with fail
  refine (spoilt_any w1 h g o HX1.out.1 (hlt HX1.out.2.1) HC.out.1 (fun j hj => by rw [HX1.out.2.1.cell _ (by rw [HN.out]; have := HO.out; omega), zz_get])).mono ?_
  rintro e w2 ⟨c, f, rfl, hc, hs2, k2⟩
  obtain ⟨hs1, hI1, hq1, hql1, k1⟩ := HX1.out
  have hI2 : IM w2 g rest (zz n) := k2.heap hI1 HC.out.1
  have hq2 := k2.cell hql1 HC.out.2.2 hq1
  have hql2 := Nat.lt_of_lt_of_le hql1 k2.size
  have HX2 := hid (And.intro hs2 (And.intro hI2 (And.intro hq2 (And.intro hql2 (k1.trans k2)))))
  clear hs1 hI1 hq1 hql1 k1 hs2 hI2 hq2 hql2 k2 HX1
  obtain ⟨c, rfl⟩ : ∃ k : Nat, c = (k : Int) := ⟨c.toNat, by omega⟩
  have hc5 : c < 512 := by omega
  clear hc
  cases f with
  | false =>
    clear hc5
    go_wp2
    go_ret
    exact ⟨rfl, HX2.out.1, HX2.out.2.2.2.2⟩
  | true =>
    have HC5 := hid hc5
    clear hc5
    go_wp2_with fail
    refine (turn_sv w2 g rest (zz n) HX2.out.2.1 c o HC5.out (by rw [HN.out]; exact HO.out)).mono ?_
    rintro e w3 ⟨rfl, hI3, k3⟩
    obtain ⟨hs2, hI2, hq2, hql2, k2⟩ := HX2.out
    rw [zz_get, xor_on _ (Nat.mod_lt _ (by decide))] at hI3
    have hs3 := hs2.keeps k3 hI2 HC.out.1
    have hq3 := k3.cell hql2 HC.out.2.1 hq2
    have hql3 := Nat.lt_of_lt_of_le hql2 k3.size
    have HX3 := hid (And.intro hs3 (And.intro hI3 (And.intro hq3 (And.intro hql3 (And.intro k2 (And.intro k3 hI2))))))
    clear hs2 hI2 hq2 hql2 k2 hs3 hI3 hq3 hql3 k3 HX2
    go_wp2_with fail
    refine (stands_no w3 q g rest _ (bitP c) o HX3.out.2.2.1 HX3.out.2.1 (by rw [List.length_set, HN.out]; exact HO.out) (drop_set o n (c / 8) _ (by have := HC5.out; omega) HO.out) (bitP_byts c) (bitP_bad c HC5.out)).mono ?_
    rintro e w4 ⟨rfl, hB⟩
    obtain ⟨hs3, hI3, hq3, hql3, k2, k3, hI2⟩ := HX3.out
    have hI4 := hI3.below hB
    have HX4 := hid (And.intro (hs3.below hB) (And.intro hI4 (And.intro k2 (And.intro k3 (And.intro hB hI2)))))
    clear hs3 hI3 hq3 hql3 k2 k3 hI2 hB hI4 HX3
    go_wp2_with fail
    refine (turn_sv w4 g rest _ HX4.out.2.1 c o HC5.out (by rw [List.length_set, HN.out]; exact HO.out)).mono ?_
    rintro e w5 ⟨rfl, hI5, k5⟩
    obtain ⟨hs4, hI4, k2, k3, hB, hI2⟩ := HX4.out
    have hcl : o + c / 8 < n := by have := HC5.out; have := HO.out; omega
    have gs : ((zz n).set (o + c / 8) ((2 ^ (c % 8) : Nat) : Int)).getD (o + c / 8) 0 = ((2 ^ (c % 8) : Nat) : Int) := by
      rw [List.getD_eq_getElem?_getD, List.getElem?_set, if_pos rfl, if_pos (by rw [HN.out]; exact hcl)]; rfl
    rw [gs, xor_off _ (Nat.mod_lt _ (by decide)), List.set_set, show (zz n).set (o + c / 8) 0 = zz n by
      refine List.ext_getElem? fun j => ?_
      rw [List.getElem?_set]
      split
      · rename_i e
        subst e
        rw [HN.out, if_pos hcl]
        unfold zz
        rw [List.getElem?_replicate, if_pos hcl]
      · rfl] at hI5
    have hs5 := hs4.keeps k5 hI4 HC.out.1
    have kk : Keeps h w w5 := by
      have k34 : Keeps g w2 w5 := k3.trans ((Keeps.of_below hB).trans k5)
      refine ⟨k34.os.trans k2.os, k34.tape.trans k2.tape, k34.output.trans k2.output, Nat.le_trans k2.size k34.size, fun k hk hne => ?_⟩
      by_cases e : k = g
      · subst e
        exact (hI5.trans hI2.symm).trans (k2.block k hk hne)
      · exact (k34.block k (Nat.lt_of_lt_of_le hk k2.size) e).trans (k2.block k hk hne)
    have HE := hid (And.intro hs5 kk)
    clear hs4 hI4 k2 k3 hB hI2 hcl gs hI5 hs5 kk k5 HX4
    go_wp2
    go_ret
    exact ⟨rfl, HE.out.1, HE.out.2⟩
theorem rawPage_k (w : World) (g n k c : Nat) (hk : 256 * k + 256 ≤ n) (hc : n ≤ c) (hm : c ≤ maxLen) : Calls Tryz.prog 20 #[.slice (some ⟨g, 0, none⟩) n c, .int .i64 k] w fun e w' => e = .returned (.slice (some ⟨g, 256 * k, none⟩) 256 256) ∧ w = w' := by
  have i0 : ((k : Int) * 256) + 256 ≤ (n : Int) := by omega
  have i1 : (n : Int) ≤ (c : Int) := by omega
  have i2 : (c : Int) ≤ 9223372036854775807 := by unfold maxLen at hm; omega
  go_enter Tryz.func20, Tryz.ntmps20
  go_wp2
  go_ret
  refine ⟨?_, rfl⟩
  show Ending.returned (.slice (some ⟨g, k * 256, none⟩) (k * 256 + 256 - k * 256) (k * 256 + 256 - k * 256)) = _
  rw [Nat.add_sub_cancel_left, Nat.mul_comm]
set_option maxRecDepth 100000 in
set_option maxHeartbeats 1000000 in
theorem mendSlots_any (w : World) (h g n c : Nat) (rest : List Value) (hs : HS w h) (hI : IM w g rest (zz n)) (hn : 512 ≤ n) (hc : n ≤ c) (hm : c ≤ maxLen) (hgh : g ≠ h) :
    Calls Tryz.prog 11 #[.pointer (some ⟨h, 0, none⟩), .slice (some ⟨g, 0, none⟩) n c] w fun e w' => e = .returned (.tuple #[]) ∧ HS w' h ∧ Keeps h w w' := by
  have HX := hid (And.intro hI (And.intro hn (And.intro hc (And.intro hm (And.intro hgh hs.lt)))))
  have hmf : ∀ (fn : Fn) (first cap : Array Value) (w : World), (Instr.makeFunc fn first cap).run Tryz.prog w = .ok (.func fn first cap) w := fun _ _ _ _ => rfl
  have h0 := hs
  clear hI hn hc hm hgh hs
  go_enter Tryz.func11, Tryz.ntmps11
  go_wp2
  go_loopw [7] (fun i wr => ∃ k : Nat, k ≤ 2 ∧ i = .int .i64 k ∧ HS wr h ∧ Keeps h w wr) (fun i _ => 2 - (intOf i).toNat)
  case atStart => exact ⟨0, by omega, rfl, h0, Keeps.refl _ _⟩
  case round =>
    clear h0
    obtain ⟨k, hk, rfl, hs, hK⟩ := hrel
    obtain ⟨w3, hw3⟩ : ∃ y, y = wr := ⟨_, rfl⟩
    subst hw3
    by_cases hk2 : k < 2
    · have i1 : (k : Int) < 2 := by omega
      have HS0 := hid (And.intro hs hK)
      clear hs hK
      go_wp2_with fail
      refine (rawPage_k w3 g n k c (by have := HX.out.2.1; omega) HX.out.2.2.1 HX.out.2.2.2.1).mono ?_
      rintro e _ ⟨rfl, hw⟩
      obtain rfl := hw
      have HMN := hid (by
        obtain ⟨hI, hn, hc, hm, hgh, hhl⟩ := HX.out
        obtain ⟨hs, hK⟩ := HS0.out
        have hI3 : IM w3 g rest (zz n) := hK.heap hI hgh
        have B : Below w3.heap.size w3 (w3.alloc (.cells #[.slice (some ⟨g, 256 * k, none⟩) 256 256] 22)).drew := (((Below.refl _ w3).alloc (Nat.le_refl _) _)).trans ⟨rfl, rfl, rfl, Nat.le_refl _, fun _ _ => rfl⟩
        have gl := hlt hI3
        exact mend_any (w3.alloc (.cells #[.slice (some ⟨g, 256 * k, none⟩) 256 256] 22)).drew h g w3.heap.size (256 * k) n rest (hs.below B) (hI3.below B) (by omega) hgh (by omega) (by have := hs.lt; omega) (by show _ < (w3.alloc _).heap.size; rw [World.size_alloc]; omega) (by exact (show (w3.alloc (.cells #[.slice (some ⟨g, 256 * k, none⟩) 256 256] 22)).cell? ⟨w3.heap.size, 0, none⟩ = _ by rw [cell_of_row _ _ _ _ _ _ (hnew w3 _)]; rfl)))
      have q1 : (w3.alloc (.cells #[.slice (some ⟨g, 256 * k, none⟩) 256 256] 22)).cell? ⟨w3.heap.size, 0, none⟩ = some (.slice (some ⟨g, 256 * k, none⟩) 256 256) := by rw [cell_of_row _ _ _ _ _ _ (hnew w3 _)]; rfl
      have KA : Keeps h w3 (w3.alloc (.cells #[.slice (some ⟨g, 256 * k, none⟩) 256 256] 22)).drew := Keeps.of_below (((Below.refl _ w3).alloc (Nat.le_refl _) _).trans ⟨rfl, rfl, rfl, Nat.le_refl _, fun _ _ => rfl⟩)
      have sz : w3.heap.size < (w3.alloc (.cells #[.slice (some ⟨g, 256 * k, none⟩) 256 256] 22)).drew.heap.size := by show _ < (w3.alloc _).heap.size; rw [World.size_alloc]; omega
      have hne : w3.heap.size ≠ h := by have := HS0.out.1.lt; omega
      go_wp2_with fail
      refine wp_region_noPanic ?_
      refine wp_region_held_drew (S := fun w' => w'.cell? ⟨w3.heap.size, 0, none⟩ = some (.slice (some ⟨g, 256 * k, none⟩) 256 256)) (by kernel_rfl) q1 (fun hHeld => ?_)
      refine wpAnyH_take (i := 0) (oi := { dst := some 14, op := Op.move (Operand.tmp 0), type := 36, pos := "heal.go:41", after := #[], guard := none }) (v := .pointer (some ⟨h, 0, none⟩)) rfl (by kernel_rfl) (by kernel_rfl) (by kernel_rfl) (fun _ _ _ h => h) (Or.inl ⟨by rfl, by intro w hS; go_simp⟩) hHeld ?_
      try simp only [Act.put, List.setIfInBounds_toArray, List.set_cons_zero, List.set_cons_succ]
      refine wpAnyH_take (i := 3) (oi := { dst := some 17, op := Op.load 22 (Operand.tmp 5), type := 22, pos := "heal.go:41", after := #[], guard := none }) (v := .slice (some ⟨g, 256 * k, none⟩) 256 256) rfl (by kernel_rfl) (by kernel_rfl) (by kernel_rfl) (fun _ _ _ h => h) (Or.inl ⟨by rfl, by intro w hS; have hc := hS; go_simp⟩) hHeld ?_
      try simp only [Act.put, List.setIfInBounds_toArray, List.set_cons_zero, List.set_cons_succ]
      refine wpAnyH_take (i := 4) (oi := { dst := some 18, op := Op.move (Operand.tmp 6), type := 33, pos := "heal.go:41", after := #[], guard := none }) (v := .func (.func 21) #[] #[.pointer (some ⟨w3.heap.size, 0, none⟩)]) rfl (by kernel_rfl) (by kernel_rfl) (by kernel_rfl) (fun _ _ _ h => h) (Or.inl ⟨by rfl, by intro w hS; go_simp⟩) hHeld ?_
      try simp only [Act.put, List.setIfInBounds_toArray, List.set_cons_zero, List.set_cons_succ]
      refine wpAnyH_take (i := 1) (oi := { dst := some 15, op := Op.nilCheck (Operand.tmp 14), type := 0, pos := "heal.go:41", after := #[{ on := 0, ground := Ground.data }], guard := none }) (v := .pointer (some ⟨h, 0, none⟩)) rfl (by kernel_rfl) (by kernel_rfl) (by kernel_rfl) (fun _ _ _ h => h) (Or.inl ⟨by rfl, by intro w hS; go_simp⟩) hHeld ?_
      try simp only [Act.put, List.setIfInBounds_toArray, List.set_cons_zero, List.set_cons_succ]
      refine wpAnyH_take (i := 2) (oi := { dst := some 16, op := Op.fieldAddr 69 (Operand.tmp 15) 0, type := 0, pos := "heal.go:41", after := #[{ on := 1, ground := Ground.data }], guard := none }) (v := .pointer (some ⟨h, 0, none⟩)) rfl (by kernel_rfl) (by kernel_rfl) (by kernel_rfl) (fun _ _ _ h => h) (Or.inl ⟨by rfl, by intro w hS; go_simp⟩) hHeld ?_
      try simp only [Act.put, List.setIfInBounds_toArray, List.set_cons_zero, List.set_cons_succ]
      refine wpAnyH_ready (rs := [5]) (by kernel_rfl) (by simp) ?_
      refine (AllReadyH.cons (o := { dst := some 19, op := Op.call { callee := Callee.value (Operand.func 23), args := #[Operand.tmp 16, Operand.tmp 17, Operand.tmp 18], argTypes := #[67, 22, 33] }, type := 4, pos := "heal.go:41", after := #[{ on := 2, ground := Ground.data }, { on := 3, ground := Ground.data }, { on := 4, ground := Ground.data }], guard := none }) rfl (fun K hK => ?_) AllReadyH.nil)
      go_simp
      go_at_call 23
      refine (HMN.out).mono ?_
      rintro e w4 ⟨rfl, hs4, hk4⟩
      have HE := hid (And.intro hs4 (HS0.out.2.trans (KA.trans hk4)))
      go_wp2_with fail
      refine hK.out _ _ (hk4.cell sz hne hHeld) (fun hHeld2 => ?_)
      clear hK K hHeld
      have hHeld := hHeld2
      clear hHeld2
      try simp only [Act.put, List.setIfInBounds_toArray, List.set_cons_zero, List.set_cons_succ]
      refine wpAnyH_done (by kernel_rfl) ?_ _
      refine NoPanic.normal ?_
      go_wp2
      go_roundw
      case rel => exact ⟨k + 1, by omega, by go_num, HE.out.1, HE.out.2⟩
      case measure => simp [intOf]; omega
    · obtain rfl : k = 2 := by omega
      clear hk2
      go_wp2
      go_end0
      exact ⟨rfl, hs, hK⟩
end Go.Proofs.YtgbimdfgapcdnaaGreatDoor
