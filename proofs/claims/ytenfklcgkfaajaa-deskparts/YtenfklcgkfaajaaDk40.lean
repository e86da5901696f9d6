import Derived.Test.YtenfklcgkfaajaaDk38
namespace Go.Proofs.Ytenfklcgkfaajaa
set_option linter.unusedVariables false
set_option linter.unusedSimpArgs false
open Go.RowKit
attribute [local go_sem ↓] Go.wp_at_zero Go.wp_at_succ

set_option maxRecDepth 100000 in
set_option maxHeartbeats 800000 in
theorem appendFlag_any (w : World) (base : Nat) (v : Value) (zs : List Int) (x : Bool) (hO : Own w base v zs) (hb : base ≤ w.heap.size) (hl : zs.length ≤ 140737488351232) :
    Calls Try.prog 61 #[v, .bool x] w fun e w' => ∃ v', e = .returned v' ∧ Own w' base v' (zs ++ flB x) ∧ Below base w w' := by
  have KL := hid (show zs.length + 1 ≤ 140737488355328 by omega)
  unfold flB
  cases x
  · go_enter Try.func61, Try.ntmps61
    go_wp2_with (first | (at_builtin; refine wpList_push_any rfl (.tmp 9) (.tmp 10) rfl base v zs 0 rfl hO rfl KL.out hb _ _ ?_; intro v2 w2 hO2 hB2))
    go_ret
    exact ⟨_, rfl, hO2, hB2⟩
  · go_enter Try.func61, Try.ntmps61
    go_wp2_with (first | (at_builtin; refine wpList_push_any rfl (.tmp 6) (.tmp 7) rfl base v zs 1 rfl hO rfl KL.out hb _ _ ?_; intro v2 w2 hO2 hB2))
    go_ret
    exact ⟨_, rfl, hO2, hB2⟩
set_option maxRecDepth 100000 in
set_option maxHeartbeats 800000 in
theorem appendVal_any (w0 w : World) (base : Nat) (v : Value) (zs : List Int) (hO : Own w base v zs) (hb : base ≤ w.heap.size) (hl : zs.length ≤ 70368744177664) (vs : List Int) (sp : Option Addr) (cap : Nat) (hS : Src w0 sp cap vs) (hn : sp = none → cap = 0) (h0 : Below w0.heap.size w0 w) (hb0 : w0.heap.size ≤ base) (hv : vs.length ≤ 128) (n : Nat) (hvn : vs.length = n) :
    Calls Try.prog 62 #[v, .slice sp n cap] w fun e w' => ∃ v', e = .returned v' ∧ Own w' base v' (zs ++ vaB vs) ∧ Below base w w' := by
  have KA := hid (appendNumber_any w base v zs (n : Int) 2 (by omega) (by omega) (by omega) hO hb (by omega))
  have i0 : (n : Int) ≤ 128 := by omega
  subst hvn
  go_enter Try.func62, Try.ntmps62
  go_wp2_with fail
  refine KA.out.mono ?_
  rintro e w1 ⟨v1, rfl, O1, hB1⟩
  have S1 := hS.below (h0.trans (hB1.mono hb0)) (Nat.le_refl _)
  have KL := hid (show (zs ++ lowN (vs.length : Int) 2).length + vs.length ≤ 140737488351232 by rw [List.length_append, lowN_len]; omega)
  have hbz : base ≤ w1.heap.size := Nat.le_trans hb hB1.size
  clear KA
  go_wp2_with (first | (at_builtin; refine wpList_append_wide rfl (.tmp 9) (.tmp 10) rfl base v1 (zs ++ lowN (vs.length : Int) 2) vs rfl O1 sp cap rfl hn S1 KL.out hbz ?_; intro v2 w2 O2 hg2 hd2))
  go_ret
  refine ⟨_, rfl, ?_, hB1.trans (grown_keeps hg2 (fun k hk => (O1.block k hk).1) hbz)⟩
  unfold vaB
  rw [← List.append_assoc]; exact O2
theorem elB_len {c : Bool} {x : Cg} (hk : x.key.length = 32) (hf : elF c x = true) : (elB c x).length ≤ 163 := by
  unfold elB vaB elF at *
  cases c
  · simp at hf ⊢; rw [lowN_len]; omega
  · cases hd : x.del
    · rw [hd] at hf; simp at hf ⊢; rw [lowN_len]; omega
    · simp; omega
theorem lsB_len {c : Bool} : ∀ (xs : List Cg), (∀ x ∈ xs, x.key.length = 32 ∧ elF c x = true) → (xs.flatMap (elB c)).length ≤ xs.length * 163
  | [], _ => by simp
  | x :: r, h => by
    have a := elB_len (h x (by simp)).1 (h x (by simp)).2
    have b := lsB_len r (fun y hy => h y (by simp [hy]))
    rw [List.flatMap_cons, List.length_append, List.length_cons, Nat.add_mul]
    omega
theorem src_rng {w : World} {g o : Nat} {zs : List Int} (h : w.rangeAt g o (ints .u8 zs)) (hg : g < w.heap.size) (cap : Nat) (hc : zs.length ≤ cap) (hm : cap ≤ maxLen) : Src w (some ⟨g, o, none⟩) cap zs :=
  ⟨hc, hm, g, o, fun _ => hg, fun _ => rfl, fun j hj => h j _ (ints_get .u8 zs j hj)⟩
theorem getD_mem {α : Type} {l : List α} {d : α} {i : Nat} (h : i < l.length) : l.getD i d ∈ l := by
  rw [List.getD_eq_getElem?_getD, List.getElem?_eq_getElem h]; exact List.getElem_mem h
theorem take_snocC (xs : List Cg) (k : Nat) (h : k < xs.length) : xs.take (k + 1) = xs.take k ++ [xs.getD k dX] := by
  rw [List.take_succ_eq_append_getElem h, List.getD_eq_getElem?_getD, List.getElem?_eq_getElem h]; rfl
set_option maxRecDepth 100000 in
set_option maxHeartbeats 4000000 in
theorem appendList_any (w0 w : World) (base : Nat) (v : Value) (zs : List Int) (hO : Own w base v zs) (hb : base ≤ w.heap.size) (hl : zs.length ≤ 1000) (xs : List Cg) (sp : Option Addr) (cap : Nat) (hI : ElI false w0 sp cap xs) (h0 : Below w0.heap.size w0 w) (hb0 : w0.heap.size ≤ base) (hF : lsF false xs = true) :
    Calls Try.prog 63 #[v, .slice sp xs.length cap] w fun e w' => ∃ v', e = .returned v' ∧ Own w' base v' (zs ++ lsB false xs) ∧ Below base w w' := by
  have hln : xs.length ≤ 4096 := by unfold lsF at hF; simp at hF; omega
  have hfa : ∀ x ∈ xs, elF false x = true := by unfold lsF at hF; simp at hF; exact fun x hx => hF.2 x hx
  obtain ⟨nl, _, _, b, o, hbo, hel⟩ := hI
  have hall : ∀ x ∈ xs, x.key.length = 32 ∧ elF false x = true := fun x hx => by
    obtain ⟨i, hi, e⟩ := List.mem_iff_getElem.1 hx
    obtain ⟨_, _, _, r2, _⟩ := hel i hi
    rw [List.getD_eq_getElem?_getD, List.getElem?_eq_getElem hi] at r2
    simp only [Option.getD_some] at r2
    rw [e] at r2
    exact ⟨r2, hfa x hx⟩
  have KA := hid (appendNumber_any w base v zs (xs.length : Int) 4 (by omega) (by omega) (by omega) hO hb (by omega))
  have i0 : (xs.length : Int) ≤ 4096 := by omega
  go_enter Try.func63, Try.ntmps63
  go_wp2_with fail
  refine KA.out.mono ?_
  rintro e w1 ⟨v1, rfl, O1, hB1⟩
  clear KA
  go_wp2
  go_loopw [0, 13] (fun v' i wr => ∃ k : Nat, k ≤ xs.length ∧ i = .int .i64 k ∧ Own wr base v' (zs ++ lowN (xs.length : Int) 4 ++ (xs.take k).flatMap (elB false)) ∧ Below base w wr) (fun _ i _ => xs.length - (intOf i).toNat)
  case atStart => exact ⟨0, Nat.zero_le _, rfl, by simpa using O1, hB1⟩
  case round =>
    clear O1 hB1
    obtain ⟨k, hk, rfl, hOr, hBr⟩ := hrel
    by_cases hlt' : k < xs.length
    · have i1 : (k : Int) < (xs.length : Int) := by omega
      obtain ⟨rfl, hbl⟩ := hbo (by omega)
      obtain ⟨s, p, rg, kl, Sv, nv⟩ := hel k hlt'
      have hfx := hfa _ (getD_mem (d := dX) hlt')
      have h0r := h0.trans (hBr.mono hb0)
      have rgr := hid (rng_below rg h0r hbl)
      have hbz : base ≤ wr.heap.size := Nat.le_trans hb hBr.size
      have hlen : (zs ++ lowN (xs.length : Int) 4 ++ (xs.take k).flatMap (elB false)).length ≤ 10000000 := by
        have a := lsB_len (c := false) (xs.take k) (fun x hx => hall x (List.mem_of_mem_take hx))
        rw [List.length_append, List.length_append, lowN_len]
        have b : (xs.take k).length ≤ 4096 := by rw [List.length_take]; omega
        have c : (xs.take k).length * 163 ≤ 4096 * 163 := Nat.mul_le_mul_right _ b
        omega
      have HT := hid (show zs ++ lowN (xs.length : Int) 4 ++ (xs.take (k + 1)).flatMap (elB false) = zs ++ lowN (xs.length : Int) 4 ++ (xs.take k).flatMap (elB false) ++ (xs.getD k dX).key ++ vaB (xs.getD k dX).val by
        rw [take_snocC xs k hlt', List.flatMap_append]
        simp [elB])
      have hvl : (xs.getD k dX).val.length ≤ 128 := by unfold elF at hfx; simpa using hfx
      have SE := hid (show (Try.prog.info? 52).map (·.size) = some (elC false (xs.getD k dX).key (xs.getD k dX).del (.slice s (xs.getD k dX).val.length p)).length by rw [elC_len kl]; exact Try.sizeEnt)
      have SL := hid (show (elC false z32 false (.slice none 0 0)).length = (elC false (xs.getD k dX).key (xs.getD k dX).del (.slice s (xs.getD k dX).val.length p)).length from (elC_len z32_len).trans (elC_len kl).symm)
      generalize hz : zs ++ lowN (xs.length : Int) 4 ++ (xs.take k).flatMap (elB false) = zk at *
      replace hz := hid hz
      generalize xs.getD k dX = x at *
      clear rg
      go_wp2_with (first
        | (refine wpList_load_mid rfl 52 _ rfl b (o + k * 33) rfl (elC false x.key x.del (.slice s x.val.length p)) _ rgr.out Try.underlying52 rfl SE.out ?_)
        | (refine wpList_allocV allocEnt rfl rfl ?_)
        | (refine wpList_storeRowW rfl 52 _ _ rfl wr.heap.size (elC false x.key x.del (.slice s x.val.length p)) rfl rfl 52 _ (hnew wr (.cells (elC false z32 false (.slice none 0 0)).toArray 52)) SE.out SL.out (elC_one rfl) ?_; intro w3 hr3 hk3; refine Hid.out ?_))
      refine hid ?_
      have hb3 : Below wr.heap.size wr w3 := ((Below.refl wr.heap.size wr).alloc (Nat.le_refl _) _).trans (hk3.below_g (Nat.le_refl _) (by simp))
      have O3 := hOr.below hb3 (Nat.le_refl _)
      have hz3 := hlt hr3
      have rg3 : w3.rangeAt wr.heap.size 0 (elC false x.key x.del (.slice s x.val.length p)) := rng hr3
      obtain ⟨rk3, rv3⟩ := el_false rg3 kl
      rw [Nat.zero_add] at rv3
      have S3 := src_rng rk3 hz3 32 (by rw [kl]; exact Nat.le_refl _) (by simp [maxLen])
      have KL := hid (show zk.length + x.key.length ≤ 140737488351232 by rw [kl]; omega)
      have hbz3 : base ≤ w3.heap.size := by omega
      have HK := hid kl
      rw [show x.key.length = 32 from kl] at KL
      clear hk3 SE SL rgr rg3
      go_wp2_with (first | (at_builtin; refine wpList_append_wide rfl (.tmp 17) (.tmp 19) rfl base _ zk x.key rfl O3 (some ⟨wr.heap.size, 0, none⟩) 32 (by rw [HK.out]; rfl) (fun h => by cases h) S3 (by rw [HK.out]; exact KL.out) hbz3 ?_; intro v4 w4 O4 hg4 hd4; refine Hid.out ?_))
      refine hid ?_
      have hr4 := (hg4.block _ hz3 (fun e => by have := (hOr.block _ e.symm).2; omega)).trans hr3
      have rg4 : w4.rangeAt wr.heap.size 0 (elC false x.key x.del (.slice s x.val.length p)) := rng hr4
      obtain ⟨_, rv4⟩ := el_false rg4 HK.out
      rw [Nat.zero_add] at rv4
      have hb4 : Below base w3 w4 := grown_keeps hg4 (fun k hk => (O3.block k hk).1) hbz3
      have B4 : Below base w w4 := (hBr.trans (hb3.mono hbz)).trans hb4
      have hbz4 : base ≤ w4.heap.size := Nat.le_trans hbz3 hb4.size
      have KV := hid (appendVal_any w0 w4 base v4 (zk ++ x.key) O4 hbz4 (by rw [List.length_append, HK.out]; omega) x.val s p Sv nv (h0.trans (B4.mono hb0)) hb0 hvl x.val.length rfl)
      clear hg4 hd4 hr4 rg4 rk3 rv3 hr3 S3 KL O3 O4 hb3 hb4
      go_wp2_with fail
      refine KV.out.mono ?_
      rintro e w5 ⟨v5, rfl, O5, hB5⟩
      clear KV rv4
      go_wp2
      go_roundw
      case rel =>
        exact ⟨k + 1, by omega, by go_num, by rw [HT.out, ← hz.out]; rw [hz.out]; exact O5, B4.trans hB5⟩
      case measure => simp [intOf]; omega
    · obtain rfl : k = xs.length := by omega
      rw [List.take_length] at hOr
      clear hlt'
      go_wp2
      go_ret
      refine ⟨_, rfl, ?_, hBr⟩
      unfold lsB
      rw [← List.append_assoc]; exact hOr
end Go.Proofs.Ytenfklcgkfaajaa
