import Derived.Test.YtpmjijadjblkeaaDoorTn
import Derived.Laws.AppendOwnNone
namespace Go.Proofs.YtpmjijadjblkeaaDoor
set_option linter.unusedVariables false
set_option linter.unusedSimpArgs false
open Go.RowKit
attribute [local go_sem ↓] Go.wp_at_zero Go.wp_at_succ

/-- A slice of slices of bytes: what it reads as. -/
def Rws (w : World) (sp : Option Addr) (ps : List (List Int)) : Prop :=
  ∃ b o, b < w.heap.size ∧ (0 < ps.length → sp = some ⟨b, o, none⟩) ∧ ∀ r, r < ps.length → ∃ sp' c, w.cell? ⟨b, o + r, none⟩ = some (.slice sp' (ps.getD r []).length c) ∧ (sp' = none → c = 0) ∧ Src w sp' c (ps.getD r [])
theorem Rws.below {w w1 : World} {B : Nat} {sp : Option Addr} {ps : List (List Int)} (h : Rws w sp ps) (hb : Below B w w1) (hB : w.heap.size ≤ B) : Rws w1 sp ps := by
  obtain ⟨b, o, h1, h2, h3⟩ := h
  refine ⟨b, o, Nat.lt_of_lt_of_le h1 hb.size, h2, fun r hr => ?_⟩
  obtain ⟨sp', c, h4, h5, h6⟩ := h3 r hr
  exact ⟨sp', c, (hb.cell (p := ⟨b, o + r, none⟩) (by show b < B; omega)).trans h4, h5, h6.below hb hB⟩
/-- A list of bytes that the call made itself. -/
def Own (w : World) (base : Nat) (v : Value) (zs : List Int) : Prop := w.ownsRow base 5 1 v zs.length (ints .u8 zs)
theorem Own.nil (w : World) (base : Nat) : Own w base (.slice none 0 0) [] := ⟨rfl, Or.inl ⟨rfl, rfl⟩⟩
theorem Own.block {w : World} {base : Nat} {v : Value} {zs : List Int} (h : Own w base v zs) : ∀ k, v.ownBlock = some k → base ≤ k ∧ k < w.heap.size := by
  intro k hk
  rcases h.2 with ⟨rfl, _⟩ | ⟨g, cap, cur, rfl, hg, hh, _⟩
  · simp [Value.ownBlock] at hk
  · simp [Value.ownBlock] at hk; subst hk; exact ⟨hg, hlt hh⟩
theorem Own.of_heap {w w1 : World} {base : Nat} {v : Value} {zs : List Int} (h : Own w base v zs) (hk : ∀ k, v.ownBlock = some k → w1.heap[k]? = w.heap[k]?) : Own w1 base v zs := by
  refine ⟨h.1, ?_⟩
  rcases h.2 with h2 | ⟨g, cap, cur, rfl, hg, hh, r⟩
  · exact Or.inl h2
  · exact Or.inr ⟨g, cap, cur, rfl, hg, (hk g rfl).trans hh, r⟩
theorem Own.keeps {w w1 : World} {base g : Nat} {v : Value} {zs : List Int} (h : Own w base v zs) (hk : Keeps g w w1) (hg : g < base) : Own w1 base v zs :=
  h.of_heap fun k hv => hk.block k (h.block k hv).2 (by have := (h.block k hv).1; omega)
theorem Own.below {w w1 : World} {base B : Nat} {v : Value} {zs : List Int} (h : Own w base v zs) (hb : Below B w w1) (hB : w.heap.size ≤ B) : Own w1 base v zs :=
  h.of_heap fun k hv => hb.block k (by have := (h.block k hv).2; omega)
theorem Own.form {w : World} {base : Nat} {v : Value} {zs : List Int} (h : Own w base v zs) (h0 : 0 < w.heap.size) : ∃ sp cap, v = .slice sp zs.length cap ∧ Src w sp cap zs ∧ (sp = none → cap = 0) := by
  obtain ⟨h1, ⟨rfl, hn⟩ | ⟨g, cap, cur, rfl, hg, hh, hc, hm, hs, ht⟩⟩ := h
  · refine ⟨none, 0, by rw [hn], ⟨by omega, by simp [maxLen], 0, 0, h0, fun h => by omega, fun j hj => by omega⟩, fun _ => rfl⟩
  · refine ⟨some ⟨g, 0, none⟩, cap, rfl, ⟨hc, hm, g, 0, hlt hh, fun _ => rfl, fun j hj => ?_⟩, fun h => by cases h⟩
    rw [Nat.zero_add, cell_of_row _ _ _ _ _ _ hh]
    have hg2 := ints_get .u8 zs j hj
    rw [← ht, List.getElem?_take, if_pos (by omega)] at hg2
    simpa using hg2
theorem grown_keeps {w w1 : World} {row : Option Nat} {B : Nat} (h : w.grownBy w1 row) (hr : ∀ k, row = some k → B ≤ k) (hB : B ≤ w.heap.size) : Below B w w1 :=
  ⟨h.os, h.tape, h.output, h.size, fun k hk => h.block k (by omega) (fun e => by have := hr k e.symm; omega)⟩
theorem Own.mk_append {w : World} {base : Nat} {v : Value} {xs ys : List Int} (h : w.ownsRow base 5 1 v (xs.length + ys.length) (ints .u8 xs ++ ints .u8 ys)) : Own w base v (xs ++ ys) := by
  unfold Own; rw [List.length_append, show ints .u8 (xs ++ ys) = ints .u8 xs ++ ints .u8 ys by simp [ints]]; exact h
theorem Tryd.info5m : (Tryd.prog.info? 5).map (fun i => (i.zero, i.size, i.bytes)) = some (some (.int .u8 0), 1, 1) := by kernel_rfl
theorem Tryd.info5 : ∃ i, Tryd.prog.info? 5 = some i ∧ i.zero = some (.int .u8 0) ∧ i.size = 1 ∧ i.bytes = 1 := by
  have h := Tryd.info5m
  cases hq : Tryd.prog.info? 5 with
  | none => rw [hq] at h; cases h
  | some i =>
    rw [hq] at h
    simp only [Option.map_some, Option.some.injEq, Prod.mk.injEq] at h
    exact ⟨i, rfl, h.1, h.2.1, h.2.2⟩

/-- The first n pieces, joined. -/
def flat (ps : List (List Int)) (n : Nat) : List Int := (ps.take n).flatten
theorem flat_succ (ps : List (List Int)) (n : Nat) (h : n < ps.length) : flat ps (n + 1) = flat ps n ++ ps.getD n [] := by
  rw [flat, List.take_succ_eq_append_getElem h, List.flatten_append]; simp [flat, h]
theorem flat_le (ps : List (List Int)) (n : Nat) : (flat ps n).length ≤ ps.flatten.length := by
  conv => rhs; rw [← List.take_append_drop n ps, List.flatten_append, List.length_append]
  exact Nat.le_add_right _ _

set_option maxRecDepth 100000 in
set_option maxHeartbeats 1000000 in
theorem splits_any (w : World) (hG : Glob w) (ps : List (List Int)) (sp : Option Addr) (cap : Nat) (hR : Rws w sp ps) (hcap : ps.length ≤ cap) (hcapm : cap ≤ maxLen) (hbulk : ps.flatten.length ≤ 1048576) (ask : Int) :
    Calls Tryd.prog 4 #[.slice sp ps.length cap, .int .i64 ask] w fun e w' => e = .returned (.bool true) ∧ Below w.heap.size w w' := by
  have hw0 := hG.1
  unfold maxLen at hcapm
  have g23 := Tryd.guard23
  have q1 := eqD_self (wrt noneS 32) (wrt_len _ _)
  have Q1 := hid sha_nil
  go_enter Tryd.func4, Tryd.ntmps4
  go_wp2_with fail
  refine (new_any w hG).mono ?_
  rintro e w1 ⟨rfl, hw1⟩
  have b1 : Below w.heap.size w w1 := by rw [hw1]; exact (Below.refl _ _).alloc (Nat.le_refl _) _
  have t1 : HsT w1 w.heap.size [] := HsT.nil (by rw [hw1]; exact hnew w _)
  have hG1 := hG.below b1 hw0
  clear hw1
  go_wp2_with fail
  refine (dsum_any w1 [] none 0 (Src.nil (by have := hG1.1; omega)) hG1 (by simp)).mono ?_
  rintro e w2 ⟨rfl, b2⟩
  rw [Q1.out]
  have t2 := t1.below b2 (hlt t1.1)
  have b02 := b1.trans (b2.mono b1.size)
  clear b1 t1 hG1 b2
  go_wp2_with fail
  refine (written_any noneS rfl w2).mono ?_
  rintro e w3 ⟨rfl, b3⟩
  have t3 := t2.below b3 (hlt t2.1)
  have b03 := b02.trans (b3.mono b02.size)
  clear b02 t2 b3
  go_wp2_with fail
  obtain ⟨b, o, hb, hsp, hrow⟩ := hR
  clear g23 q1 Q1
  go_loopw [6, 7] (fun v i wr => ∃ n : Nat, n ≤ ps.length ∧ i = .int .i64 n ∧ Own wr (w.heap.size + 1) v (flat ps n) ∧ HsT wr w.heap.size (flat ps n) ∧ Below w.heap.size w wr) (fun _ i _ => ps.length - (intOf i).toNat)
  case atStart => exact ⟨0, by omega, rfl, Own.nil _ _, t3, b03⟩
  case round =>
    clear t3 b03
    obtain ⟨n, hn, rfl, hO, hT, hB⟩ := hrel
    have hGr := hG.below hB hw0
    by_cases hnl : n < ps.length
    · obtain rfl := hsp (by omega)
      obtain ⟨sp', c, hcell, hnil, hsrc⟩ := hrow n hnl
      have HF := hid (flat_succ ps n hnl)
      have hfl := flat_le ps n
      have hfl2 := flat_le ps (n + 1)
      rw [HF.out] at hfl2
      simp only [List.length_append] at hfl2
      generalize hp : ps.getD n [] = p at *
      clear hp
      obtain ⟨hs1, hs2, b', o', hb', hsp', hsc⟩ := hsrc
      have hcr : wr.cell? ⟨b, o + n, none⟩ = some (.slice sp' p.length c) := (hB.cell (p := ⟨b, o + n, none⟩) hb).trans hcell
      have i1 : (n : Int) < (ps.length : Int) := by omega
      have KW := hid (writeS_any wr w.heap.size (flat ps n) p sp' c hT hGr hw0 (by omega) ⟨b', o', by omega, hsp', fun j hj => (hB.cell (p := ⟨b', o' + j, none⟩) hb').trans (hsc j hj)⟩ hs1 hs2)
      have i2 : (ps.length : Int) ≤ 9223372036854775807 := by omega
      go_wp2_with fail
      refine KW.out.mono ?_
      rintro e w4 ⟨rfl, hT4, hk4⟩
      have hO4 := hO.keeps hk4 (by omega)
      have hB4 : Below w.heap.size w w4 := hB.trans (hk4.below_g (Nat.le_refl _) hB.size)
      have hcr4 : w4.cell? ⟨b, o + n, none⟩ = some (.slice sp' p.length c) := (hB4.cell (p := ⟨b, o + n, none⟩) hb).trans hcell
      clear hO hT hB hGr KW hcr hk4
      obtain ⟨i5, hi5, hz5, hs5, hy5⟩ := Tryd.info5
      have HI := hid hi5
      clear hi5
      cases sp' with
      | none =>
        obtain rfl := hnil rfl
        obtain rfl : p = [] := List.eq_nil_of_length_eq_zero (by omega)
        go_wp2_with (first | (at_builtin; refine wpList_append_own_none rfl _ _ 26 rfl (w.heap.size + 1) 5 i5 1 Tryd.underlying26 HI.out _ _ _ rfl hO4 rfl ?_))
        · have hT5' : HsT w4 w.heap.size (flat ps (n + 1)) := (by rw [HF.out]; exact hT4)
          have hO5' : Own w4 (w.heap.size + 1) u6 (flat ps (n + 1)) := (by rw [HF.out, List.append_nil]; exact hO4)
          have hB5 : Below w.heap.size w w4 := hB4
          have hG5 := hG.below hB5 hw0
          have hlen5 : (flat ps (n + 1)).length ≤ 1048576 := Nat.le_trans (flat_le ps (n + 1)) hbulk
          obtain ⟨spv, capv, hv, hsv, _⟩ := hO5'.form (by have := hG5.1; omega)
          have q := eqD_self (sha (flat ps (n + 1))) (sha_len _)
          have g23 := Tryd.guard23
          refine (hsumT_any w4 w.heap.size (flat ps (n + 1)) hT5' hG5 (by omega)).mono ?_
          rintro e w6 ⟨rfl, b6⟩
          have hO6 := hO5'.below b6 (Nat.le_refl _)
          have hT6 := hT5'.below b6 (hlt hT5'.1)
          have hB6 := hB5.trans (b6.mono hB5.size)
          have hs6 := hsv.below b6 (Nat.le_refl _)
          have hG6 := hG.below hB6 hw0
          rw [hv]
          go_wp2_with fail
          refine (dsum_any w6 (flat ps (n + 1)) spv capv hs6 hG6 (by omega)).mono ?_
          rintro e w7 ⟨rfl, b7⟩
          have hO7 := hO6.below b7 (Nat.le_refl _)
          have hT7 := hT6.below b7 (hlt hT6.1)
          have hB7 := hB6.trans (b7.mono hB6.size)
          rw [hv] at hO7
          clear hO6 hT6 hB6 hs6 hG6 b6 b7
          go_wp2_with fail
          go_roundw
          case rel => exact ⟨n + 1, by omega, by go_num, hO7, hT7, hB7⟩
          case measure => simp [intOf]; omega
        · go_roundw
          case rel => exact ⟨n + 1, by omega, by go_num, (by rw [HF.out, List.append_nil]; exact hO4), (by rw [HF.out]; exact hT4), hB4⟩
          case measure => simp [intOf]; omega
      | some ad =>
        have hnews : ∀ j u, (ints .u8 p)[j]? = some u → w4.cell? (ad.add j) = some u := fun j u hu => by
          have hj : j < p.length := by have := (List.getElem?_eq_some_iff.1 hu).1; rwa [ints_len] at this
          rw [ints_get .u8 p j hj] at hu
          obtain rfl := Option.some.inj (hsp' (by omega))
          rw [Addr.add_mid, ← hu]
          exact (hB4.cell (p := ⟨b', o' + j, none⟩) hb').trans (hsc j hj)
        have hl1 : (ints .u8 p).length = p.length * 1 := by rw [ints_len]; omega
        have hone := ints_one .u8 p
        have h63 : (flat ps n).length + p.length ≤ maxLen := by unfold maxLen; omega
        have hby : ((flat ps n).length + p.length) * 1 ≤ 140737488355328 := by omega
        have hbs : w.heap.size + 1 ≤ w4.heap.size := hlt hT4.1
        have A1 := hid hnews
        have A2 := hid hl1
        have A3 := hid hone
        clear hnews hl1 hone
        go_wp2_with (first | (at_builtin; refine wpList_append_own _ rfl (.tmp 28) (.tmp 32) 26 rfl (w.heap.size + 1) 5 i5 (.int .u8 0) 1 1 Tryd.underlying26 HI.out hz5 hs5 hy5 rfl Nat.one_pos u6 (flat ps n).length (ints .u8 (flat ps n)) rfl hO4 ad p.length c (ints .u8 p) rfl A2.out A1.out A3.out h63 hby hbs ?_; intro v' w5 hO5 hg5 _))
        · have hT5' : HsT w5 w.heap.size (flat ps (n + 1)) := (by rw [HF.out]; exact hT4.below (grown_keeps hg5 (fun k hk => (hO4.block k hk).1) hbs) (by omega))
          have hO5' : Own w5 (w.heap.size + 1) v' (flat ps (n + 1)) := (by rw [HF.out]; exact Own.mk_append hO5)
          have hB5 : Below w.heap.size w w5 := (hB4.trans (grown_keeps hg5 (fun k hk => by have := (hO4.block k hk).1; omega) (by omega)))
          have hG5 := hG.below hB5 hw0
          have hlen5 : (flat ps (n + 1)).length ≤ 1048576 := Nat.le_trans (flat_le ps (n + 1)) hbulk
          obtain ⟨spv, capv, hv, hsv, _⟩ := hO5'.form (by have := hG5.1; omega)
          have q := eqD_self (sha (flat ps (n + 1))) (sha_len _)
          have g23 := Tryd.guard23
          refine (hsumT_any w5 w.heap.size (flat ps (n + 1)) hT5' hG5 (by omega)).mono ?_
          rintro e w6 ⟨rfl, b6⟩
          have hO6 := hO5'.below b6 (Nat.le_refl _)
          have hT6 := hT5'.below b6 (hlt hT5'.1)
          have hB6 := hB5.trans (b6.mono hB5.size)
          have hs6 := hsv.below b6 (Nat.le_refl _)
          have hG6 := hG.below hB6 hw0
          rw [hv]
          go_wp2_with fail
          refine (dsum_any w6 (flat ps (n + 1)) spv capv hs6 hG6 (by omega)).mono ?_
          rintro e w7 ⟨rfl, b7⟩
          have hO7 := hO6.below b7 (Nat.le_refl _)
          have hT7 := hT6.below b7 (hlt hT6.1)
          have hB7 := hB6.trans (b7.mono hB6.size)
          rw [hv] at hO7
          clear hO6 hT6 hB6 hs6 hG6 b6 b7
          go_wp2_with fail
          go_roundw
          case rel => exact ⟨n + 1, by omega, by go_num, hO7, hT7, hB7⟩
          case measure => simp [intOf]; omega
        · go_roundw
          case rel => exact ⟨n + 1, by omega, by go_num, (by rw [HF.out]; exact Own.mk_append hO5), (by rw [HF.out]; exact hT4.below (grown_keeps hg5 (fun k hk => (hO4.block k hk).1) hbs) (by omega)), (hB4.trans (grown_keeps hg5 (fun k hk => by have := (hO4.block k hk).1; omega) (by omega)))⟩
          case measure => simp [intOf]; omega
    · obtain rfl : n = ps.length := by omega
      have hfe : flat ps ps.length = ps.flatten := by simp [flat]
      rw [hfe] at hO hT
      obtain ⟨spv, capv, hv, hsv, _⟩ := hO.form (by have := hGr.1; omega)
      rw [hv]
      have q := eqD_self (sha ps.flatten) (sha_len _)
      have g23 := Tryd.guard23
      clear hfe hO hrow hsp hn
      generalize ps.flatten = Z at *
      go_wp2_with fail
      refine (hsumT_any wr w.heap.size Z hT hGr (by omega)).mono ?_
      rintro e w6 ⟨rfl, b6⟩
      have hT6 := hT.below b6 (hlt hT.1)
      have hB6 := hB.trans (b6.mono hB.size)
      have hs6 := hsv.below b6 (Nat.le_refl _)
      have hG6 := hG.below hB6 hw0
      go_wp2_with fail
      refine (dsum_any w6 Z spv capv hs6 hG6 (by omega)).mono ?_
      rintro e w7 ⟨rfl, b7⟩
      have hT7 := hT6.below b7 (hlt hT6.1)
      have hB7 := hB6.trans (b7.mono hB6.size)
      have hs7 := hs6.below b7 (Nat.le_refl _)
      have hG7 := hG.below hB7 hw0
      clear hT hB hsv hT6 hB6 hs6 hG6 b6 b7 hGr
      go_wp2_with fail
      refine (hsumT_any w7 w.heap.size Z hT7 hG7 (by omega)).mono ?_
      rintro e w8 ⟨rfl, b8⟩
      have hB8 := hB7.trans (b8.mono hB7.size)
      have hs8 := hs7.below b8 (Nat.le_refl _)
      have hG8 := hG.below hB8 hw0
      go_wp2_with fail
      refine (dsum_any w8 Z spv capv hs8 hG8 (by omega)).mono ?_
      rintro e w9 ⟨rfl, b9⟩
      have hB9 := hB8.trans (b9.mono hB8.size)
      go_wp2_with fail
      go_ret
      exact ⟨rfl, hB9⟩
end Go.Proofs.YtpmjijadjblkeaaDoor
