import Derived.Test.YtjhocjjecfdphaaGreatDoorQ03
import Derived.Lib.LazyBuf
namespace Go.Proofs.YtjhocjjecfdphaaGreatDoor
set_option linter.unusedVariables false
set_option linter.unusedSimpArgs false
set_option maxRecDepth 100000
set_option maxHeartbeats 4000000
section
open Go.RowKit
attribute [local go_sem ↓] Go.wp_at_zero Go.wp_at_succ
theorem own_emptyN {w : World} {base g : Nat} (h : w.heap[g]? = some (.cells #[] 5 (0, 0))) (hg : base ≤ g) : Own w base (.slice (some ⟨g, 0, none⟩) 0 0) [] :=
 ⟨rfl, Or.inr ⟨g, 0, #[], rfl, hg, h, Nat.le_refl _, by simp [maxLen], rfl, rfl⟩⟩
theorem clone_any (w : World) (l : List Int) (a : Addr) (cap : Nat) (hS : Src w (some a) cap l) (hl : l.length ≤ 1000) :
   Calls Tryz.prog 123 #[.slice (some a) l.length cap] w fun e w' => ∃ v, e = .returned v ∧ Own w' w.heap.size v l ∧ Below w.heap.size w w' := by
 have hr1 := hnew w (.cells #[] 5)
 have hO1 : Own (w.alloc (.cells #[] 5)) w.heap.size (.slice (some ⟨w.heap.size, 0, none⟩) 0 0) [] := own_emptyN hr1 (Nat.le_refl _)
 have hB1 := below_new w (.cells #[] 5)
 have hS1 := hS.below hB1 (Nat.le_refl _)
 have KL := hid (show ([] : List Int).length + l.length ≤ 140737488351232 by simp; omega)
 have hN : (binOp .eql 22 (.slice (some a) l.length cap) (.slice none 0 0)).run Tryz.prog w = .ok (.bool false) w := run_eql_slice_nil w 22 5 (some a) l.length cap Tryz.underlying22
 clear hr1
 go_enter Tryz.func123, Tryz.ntmps123
 go_wp2_with (first
   | (refine wpList_append_wide rfl (.tmp 5) (.tmp 6) rfl w.heap.size _ [] l rfl hO1 (some a) cap rfl (fun h => by cases h) hS1 KL.out hB1.size ?_; intro v2 w2 hO2 hg2 hb2))
 have hB2 := grown_keeps hg2 (fun k hk => (hO1.block k hk).1) hB1.size
 rw [List.nil_append] at hO2
 clear hg2 hb2
 go_wp2
 go_ret
 exact ⟨_, rfl, hO2, hB1.trans hB2⟩
theorem Src.mid {w : World} {b o cap : Nat} {r : List Int} (hS : Src w (some ⟨b, o, none⟩) cap r) (k n : Nat) (h : k + n ≤ r.length) (hb : b < w.heap.size) (c : Nat) (hc1 : n ≤ c) (hc2 : c ≤ maxLen) : Src w (some ⟨b, o + k, none⟩) c ((r.drop k).take n) := by
 obtain ⟨h1, h2, b', o', h3, h4, h5⟩ := hS
 have hl : ((r.drop k).take n).length = n := by simp; omega
 refine ⟨by omega, hc2, b, o + k, fun _ => hb, fun _ => rfl, fun j hj => ?_⟩
 have he := h4 (by omega)
 cases he
 have := h5 (k + j) (by omega)
 rw [Nat.add_assoc, this, List.getD_eq_getElem?_getD, List.getD_eq_getElem?_getD, List.getElem?_take, if_pos (by omega), List.getElem?_drop]
theorem Own.base {w : World} {B B' : Nat} {v : Value} {zs : List Int} (h : Own w B v zs) (hB : B' ≤ B) : Own w B' v zs := by
 refine ⟨h.1, ?_⟩
 rcases h.2 with h2 | ⟨g, cap, cur, rfl, hg, r⟩
 · exact Or.inl h2
 · exact Or.inr ⟨g, cap, cur, rfl, by omega, r⟩
theorem unpack_ok (w : World) (p : Int) (r : List Int) (h8 : Byts r) (hp : placeOk p = true) (hl : r.length = 256) (hC : feed ones r = CR) (sp : Option Addr) (cap : Nat) (hS : Src w sp cap r) :
   Calls Tryz.prog 100 #[.int .i64 p, .slice sp 256 cap] w fun e w' => ∃ v, e = .returned (.tuple #[.int .i64 (unpackF p r).1, v, .int .i64 (unpackF p r).2.2]) ∧ Own w' w.heap.size v (unpackF p r).2.1 ∧ Below w.heap.size w w' := by
 have hS' := hS
 obtain ⟨hc, hm, b, o, hb, hsp, hsrc⟩ := hS
 obtain rfl := hsp (by omega)
 replace hb := hb (by omega)
 have i1 : 256 ≤ cap := by omega
 have i2 : (256 : Int) ≤ (cap : Int) := by omega
 have hw := whole_L w r h8 (by omega) (some ⟨b, o, none⟩) cap hS'
 rw [hl] at hw
 have HP := hid hp
 have HL := hid hl
 have HC := hid hC
 have g0 := h8 (r.getD 0 0) (by rw [List.getD_eq_getElem?_getD, List.getElem?_eq_getElem (by omega)]; exact List.getElem_mem _)
 have g1 := h8 (r.getD 1 0) (by rw [List.getD_eq_getElem?_getD, List.getElem?_eq_getElem (by omega)]; exact List.getElem_mem _)
 have HU := hid (show unpackF p r = (if kindOk (r.getD 0 0) = false then (0, [], 50) else if 246 < r.getD 1 0 then (0, [], 51)
 else if (le ((r.drop 2).take 4) : Int) ≠ p then (0, [], 54)
 else if (r.drop (6 + (r.getD 1 0).toNat)).take (246 - (r.getD 1 0).toNat) ≠ List.replicate (246 - (r.getD 1 0).toNat) 0 then (0, [], 53)
 else (r.getD 0 0, (r.drop 6).take (r.getD 1 0).toNat, 0)) by
   rw [unpackF, if_neg (by simp [hp]), if_neg (by simp [hl]), if_neg (by simp [hC])])
 have c0' := hsrc 0 (by omega)
 have c1' := hsrc 1 (by omega)
 rw [Nat.add_zero] at c0'
 have h24 : ((r.drop 2).take 4).length = 4 := by simp [hl]
 obtain ⟨k, hk⟩ : ∃ k, k = r.getD 0 0 := ⟨_, rfl⟩
 obtain ⟨n, hn⟩ : ∃ n : Nat, (n : Int) = r.getD 1 0 := ⟨(r.getD 1 0).toNat, by omega⟩
 rw [← hk] at g0 HU c0'
 rw [← hn] at g1 HU c1'
 rw [Int.toNat_natCast] at HU
 clear hk hn hp hC
 go_enter Tryz.func100, Tryz.ntmps100
 go_wp2_with fail
 refine (isPlace_any w p).mono ?_
 rintro e w1 ⟨rfl, rfl⟩
 rw [HP.out]
 clear hl
 go_wp2_with fail
 refine hw.mono ?_
 rintro e w2 ⟨rfl, b2⟩
 rw [HC.out, show (decide (CR = CR)) = true from by simp]
 have c0 := (b2.cell (p := ⟨b, o, none⟩) hb).trans c0'
 have c1 := (b2.cell (p := ⟨b, o + 1, none⟩) hb).trans c1'
 have hb2 : b < w2.heap.size := Nat.lt_of_lt_of_le hb b2.size
 have hS2 := hS'.below b2 (Nat.le_refl _)
 clear c0' c1' hw hsrc
 go_wp2_with fail
 go_quiet (fail)
 have b3 : Below w1.heap.size w1 (w2.drewN nq) := below_drewN b2 nq
 have hS3 : Src (w2.drewN nq) (some ⟨b, o, none⟩) cap r := hS2
 have hb3 : b < (w2.drewN nq).heap.size := hb2
 generalize w2.drewN nq = w3 at *
 clear b2 hS2 hb2 c0 c1
 go_wp2_with fail
 refine (isKind_any w3 k).mono ?_
 rintro e w4 ⟨rfl, rfl⟩
 cases hk : kindOk k
 · have HF := hid (show unpackF p r = (0, [], 50) by rw [HU.out, if_pos hk])
   clear HU
   go_wp2
   go_ret3
   exact ⟨_, by rw [HF.out]; rfl, by rw [HF.out]; exact Own.nil _ _, b3⟩
 have HK := hid hk
 clear hk
 by_cases hn : 246 < n
 · have HF := hid (show unpackF p r = (0, [], 51) by rw [HU.out, if_neg (by simp [HK.out]), if_pos (by omega)])
   clear HU
   have i3 : (246 : Int) < (n : Int) := by omega
   go_wp2
   go_ret3
   exact ⟨_, by rw [HF.out]; rfl, by rw [HF.out]; exact Own.nil _ _, b3⟩
 have i3 : (n : Int) ≤ 246 := by omega
 have hrd := read_any w4 ((r.drop 2).take 4) ((h8.drop 2).take 4) (by omega) (some ⟨b, o + 2, none⟩) (cap - 2) (hS3.mid 2 4 (by have := HL.out; omega) hb3 _ (by omega) (by omega))
 have hlt4 := le_lt ((r.drop 2).take 4) ((h8.drop 2).take 4)
 rw [h24] at hrd hlt4
 have hW := wrap_i64_id (le ((r.drop 2).take 4) : Int) (by omega) (by omega)
 rw [hW] at hrd
 clear hW
 go_wp2_with fail
 refine hrd.mono ?_
 rintro e w5 ⟨rfl, b5⟩
 have b5' := b3.trans (b5.mono b3.size)
 have hS5 := hS3.below b5 (Nat.le_refl _)
 have hb5 : b < w5.heap.size := Nat.lt_of_lt_of_le hb3 b5.size
 clear hrd b5 b3 hS3 hb3
 obtain ⟨q, hq⟩ : ∃ q : Int, q = (le ((r.drop 2).take 4) : Int) := ⟨_, rfl⟩
 rw [← hq] at HU ⊢
 clear hq hlt4
 by_cases hqp : q = p
 · subst hqp
   have i4 : (n : Int) + 6 ≤ 252 := by omega
   have hlz : ((r.drop (6 + n)).take (246 - n)).length = 252 - (6 + n) := by have := HL.out; simp; omega
   have hz := allZero_any w5 ((r.drop (6 + n)).take (246 - n)) (some ⟨b, o + (6 + n), none⟩) (cap - (6 + n)) (hS5.mid (6 + n) (246 - n) (by have := HL.out; omega) hb5 _ (by omega) (by omega))
   rw [hlz] at hz
   go_wp2_with fail
   refine hz.mono ?_
   rintro e w6 ⟨rfl, b6⟩
   have b6' := b5'.trans (b6.mono b5'.size)
   have hS6 := hS5.below b6 (Nat.le_refl _)
   have hb6 : b < w6.heap.size := Nat.lt_of_lt_of_le hb5 b6.size
   clear hz b6 b5' hS5 hb5 hlz
   by_cases hzz : (r.drop (6 + n)).take (246 - n) = List.replicate (246 - n) 0
   · have HF := hid (show unpackF q r = (k, (r.drop 6).take n, 0) by rw [HU.out, if_neg (by simp [HK.out]), if_neg (by omega), if_neg (by simp), if_neg (by simp [hzz])])
     rw [show (decide ((r.drop (6 + n)).take (246 - n) = List.replicate (252 - (6 + n)) 0)) = true by rw [hzz]; simp; omega]
     clear HU hzz
     have hl6 : ((r.drop 6).take n).length = n := by have := HL.out; simp; omega
     have hcl := clone_any w6 ((r.drop 6).take n) ⟨b, o + 6, none⟩ (cap - 6) (hS6.mid 6 n (by have := HL.out; omega) hb6 _ (by omega) (by omega)) (by omega)
     rw [hl6] at hcl
     clear hl6
     go_wp2_with fail
     refine hcl.mono ?_
     rintro e w7 ⟨v, rfl, hO, b7⟩
     have b7' := b6'.trans (b7.mono b6'.size)
     have hO' : Own w7 w1.heap.size v ((r.drop 6).take n) := hO.base b6'.size
     clear hcl hO b7 b6' hS6
     go_wp2
     go_ret3
     exact ⟨_, by rw [HF.out]; rfl, by rw [HF.out]; exact hO', b7'⟩
   · have HF := hid (show unpackF q r = (0, [], 53) by rw [HU.out, if_neg (by simp [HK.out]), if_neg (by omega), if_neg (by simp), if_pos hzz])
     rw [show (decide ((r.drop (6 + n)).take (246 - n) = List.replicate (252 - (6 + n)) 0)) = false by rw [show 252 - (6 + n) = 246 - n by omega]; simpa using hzz]
     clear HU hzz
     go_wp2
     go_ret3
     exact ⟨_, by rw [HF.out]; rfl, by rw [HF.out]; exact Own.nil _ _, b6'⟩
 · have HF := hid (show unpackF p r = (0, [], 54) by rw [HU.out, if_neg (by simp [HK.out]), if_neg (by omega), if_pos hqp])
   clear HU
   have hqp2 : (q != p) = true := by simpa using hqp
   clear hqp
   go_wp2
   go_ret3
   exact ⟨_, by rw [HF.out]; rfl, by rw [HF.out]; exact Own.nil _ _, b5'⟩
theorem unpack_any (w : World) (p : Int) (r : List Int) (h8 : Byts r) (sp : Option Addr) (cap : Nat) (hS : Src w sp cap r) :
   Calls Tryz.prog 100 #[.int .i64 p, .slice sp r.length cap] w fun e w' => ∃ v, e = .returned (.tuple #[.int .i64 (unpackF p r).1, v, .int .i64 (unpackF p r).2.2]) ∧ Own w' w.heap.size v (unpackF p r).2.1 ∧ Below w.heap.size w w' := by
 have hlm : (r.length : Int) ≤ 9223372036854775807 := by have := hS.1; have := hS.2.1; unfold maxLen at this; omega
 cases hp : placeOk p
 · have HF := hid (show unpackF p r = (0, [], 54) by rw [unpackF, if_pos hp])
   clear hS
   go_enter Tryz.func100, Tryz.ntmps100
   go_wp2_with fail
   refine (isPlace_any w p).mono ?_
   rintro e w1 ⟨rfl, rfl⟩
   rw [hp]
   go_wp2
   go_ret3
   exact ⟨_, by rw [HF.out]; rfl, by rw [HF.out]; exact Own.nil _ _, Below.refl _ _⟩
 by_cases hl : r.length = 256
 · by_cases hC : feed ones r = CR
   · rw [hl]; exact unpack_ok w p r h8 hp hl hC sp cap hS
   · have HF := hid (unpack_sum p r hp hl hC)
     have hw := whole_L w r h8 (by omega) sp cap hS
     rw [show decide (feed ones r = CR) = false by simpa using hC] at hw
     rw [hl] at hw ⊢
     clear hS hl hlm hC
     go_enter Tryz.func100, Tryz.ntmps100
     go_wp2_with fail
     refine (isPlace_any w p).mono ?_
     rintro e w1 ⟨rfl, rfl⟩
     rw [hp]
     go_wp2_with fail
     refine hw.mono ?_
     rintro e w2 ⟨rfl, b2⟩
     go_wp2
     go_ret3
     exact ⟨_, by rw [HF.out]; rfl, by rw [HF.out]; exact Own.nil _ _, b2⟩
 · have HF := hid (show unpackF p r = (0, [], 53) by rw [unpackF, if_neg (by simp [hp]), if_pos hl])
   have hl2 : ((r.length : Int) != 256) = true := by simp; omega
   clear hS hl
   go_enter Tryz.func100, Tryz.ntmps100
   go_wp2_with fail
   refine (isPlace_any w p).mono ?_
   rintro e w1 ⟨rfl, rfl⟩
   rw [hp]
   go_wp2
   go_ret3
   exact ⟨_, by rw [HF.out]; rfl, by rw [HF.out]; exact Own.nil _ _, Below.refl _ _⟩
def supC (s : Sup) : Array Value := #[.int .i64 s.wd, .int .i64 s.ge, .int .i64 s.ma, .int .i64 s.hd, .int .i64 s.pg]
theorem valid_at (w : World) (wd ge ma hd pg : Int) :
   Calls Tryz.prog 114 #[.agg #[.int .i64 wd, .int .i64 ge, .int .i64 ma, .int .i64 hd, .int .i64 pg]] w fun e w' => e = .returned (.bool (validS ⟨wd, ge, ma, hd, pg⟩)) ∧ Below w.heap.size w w' := by
 by_cases n0 : ¬ (1 ≤ wd)
 · skip
   have HV := hid (show validS ⟨wd, ge, ma, hd, pg⟩ = false by simp [validS]; omega)
   go_enter Tryz.func114, Tryz.ntmps114
   go_wp2
   go_ret
   exact ⟨by rw [HV.out]; rfl, below_new w _⟩
 have h0 : 1 ≤ wd := Classical.not_not.1 n0
 clear n0
 by_cases n1 : ¬ (wd ≤ 32)
 · skip
   have HV := hid (show validS ⟨wd, ge, ma, hd, pg⟩ = false by simp [validS]; omega)
   go_enter Tryz.func114, Tryz.ntmps114
   go_wp2
   go_ret
   exact ⟨by rw [HV.out]; rfl, below_new w _⟩
 have h1 : wd ≤ 32 := Classical.not_not.1 n1
 clear n1
 by_cases n2 : ¬ (0 ≤ ge)
 · skip
   have HV := hid (show validS ⟨wd, ge, ma, hd, pg⟩ = false by simp [validS]; omega)
   go_enter Tryz.func114, Tryz.ntmps114
   go_wp2
   go_ret
   exact ⟨by rw [HV.out]; rfl, below_new w _⟩
 have h2 : 0 ≤ ge := Classical.not_not.1 n2
 clear n2
 by_cases n3 : ¬ (ge ≤ 1099511627776)
 · skip
   have HV := hid (show validS ⟨wd, ge, ma, hd, pg⟩ = false by simp [validS]; omega)
   go_enter Tryz.func114, Tryz.ntmps114
   go_wp2
   go_ret
   exact ⟨by rw [HV.out]; rfl, below_new w _⟩
 have h3 : ge ≤ 1099511627776 := Classical.not_not.1 n3
 clear n3
 by_cases n4 : ¬ (3 ≤ pg)
 · skip
   have HV := hid (show validS ⟨wd, ge, ma, hd, pg⟩ = false by simp [validS]; omega)
   go_enter Tryz.func114, Tryz.ntmps114
   go_wp2
   go_ret
   exact ⟨by rw [HV.out]; rfl, below_new w _⟩
 have h4 : 3 ≤ pg := Classical.not_not.1 n4
 clear n4
 by_cases n5 : ¬ (pg ≤ 4096)
 · skip
   have HV := hid (show validS ⟨wd, ge, ma, hd, pg⟩ = false by simp [validS]; omega)
   go_enter Tryz.func114, Tryz.ntmps114
   go_wp2
   go_ret
   exact ⟨by rw [HV.out]; rfl, below_new w _⟩
 have h5 : pg ≤ 4096 := Classical.not_not.1 n5
 clear n5
 by_cases n6 : ¬ (2 ≤ ma)
 · skip
   have HV := hid (show validS ⟨wd, ge, ma, hd, pg⟩ = false by simp [validS]; omega)
   go_enter Tryz.func114, Tryz.ntmps114
   go_wp2
   go_ret
   exact ⟨by rw [HV.out]; rfl, below_new w _⟩
 have h6 : 2 ≤ ma := Classical.not_not.1 n6
 clear n6
 by_cases n7 : ¬ (ma ≤ pg)
 · skip
   have HV := hid (show validS ⟨wd, ge, ma, hd, pg⟩ = false by simp [validS]; omega)
   go_enter Tryz.func114, Tryz.ntmps114
   go_wp2
   go_ret
   exact ⟨by rw [HV.out]; rfl, below_new w _⟩
 have h7 : ma ≤ pg := Classical.not_not.1 n7
 clear n7
 by_cases h8 : hd = 0
 · have e8 : (hd == 0) = true := by simpa using h8
   have HV := hid (show validS ⟨wd, ge, ma, hd, pg⟩ = true by simp only [validS, decide_eq_true_eq]; omega)
   clear h8
   go_enter Tryz.func114, Tryz.ntmps114
   go_wp2
   go_ret
   exact ⟨by rw [HV.out]; rfl, below_new w _⟩
 have e8 : (hd == 0) = false := by simpa using h8
 by_cases n9 : ¬ (2 ≤ hd)
 · skip
   have HV := hid (show validS ⟨wd, ge, ma, hd, pg⟩ = false by simp [validS]; omega)
   clear h8
   go_enter Tryz.func114, Tryz.ntmps114
   go_wp2
   go_ret
   exact ⟨by rw [HV.out]; rfl, below_new w _⟩
 have h9 : 2 ≤ hd := Classical.not_not.1 n9
 clear n9
 by_cases n10 : ¬ (hd < ma)
 · skip
   have HV := hid (show validS ⟨wd, ge, ma, hd, pg⟩ = false by simp [validS]; omega)
   clear h8
   go_enter Tryz.func114, Tryz.ntmps114
   go_wp2
   go_ret
   exact ⟨by rw [HV.out]; rfl, below_new w _⟩
 have h10 : hd < ma := Classical.not_not.1 n10
 clear n10
 have HV := hid (show validS ⟨wd, ge, ma, hd, pg⟩ = true by simp only [validS, decide_eq_true_eq]; omega)
 clear h8
 go_enter Tryz.func114, Tryz.ntmps114
 go_wp2
 go_ret
 exact ⟨by rw [HV.out]; rfl, below_new w _⟩
theorem valid_any (w : World) (s : Sup) : Calls Tryz.prog 114 #[.agg (supC s)] w fun e w' => e = .returned (.bool (validS s)) ∧ Below w.heap.size w w' := valid_at w s.wd s.ge s.ma s.hd s.pg
theorem run_alloc64 (a : Act) (o : Oper) (ho : o.op = .alloc 169) (w : World) : (execOp a.eval o).run Tryz.prog w = .ok (.value (.pointer (some ⟨w.heap.size, 0, none⟩))) (w.alloc (.cells (ints .u8 (zz 64)).toArray 169)) := by
 unfold execOp
 rw [ho]
 kernel_rfl
theorem wpList_alloc64 {w : World} {ops : Array Oper} {rest : List Oper} {o : Oper} {a : Act} {Q : Exit → Act → World → Prop} (hg : o.guard = none) (ho : o.op = .alloc 169)
   (h : wpList Tryz.prog ops Q rest (a.put o.dst (.pointer (some ⟨w.heap.size, 0, none⟩))) (w.alloc (.cells (ints .u8 (zz 64)).toArray 169))) : wpList Tryz.prog ops Q (o :: rest) a w := by
 refine wpList_plain hg fun K hK => ?_
 unfold Oper.wp
 rw [run_alloc64 a o ho w]
 exact hK _ _ h
theorem run_alloc60 (a : Act) (o : Oper) (ho : o.op = .alloc 177) (w : World) : (execOp a.eval o).run Tryz.prog w = .ok (.value (.pointer (some ⟨w.heap.size, 0, none⟩))) (w.alloc (.cells (ints .u8 (zz 60)).toArray 177)) := by
 unfold execOp
 rw [ho]
 kernel_rfl
theorem wpList_alloc60 {w : World} {ops : Array Oper} {rest : List Oper} {o : Oper} {a : Act} {Q : Exit → Act → World → Prop} (hg : o.guard = none) (ho : o.op = .alloc 177)
   (h : wpList Tryz.prog ops Q rest (a.put o.dst (.pointer (some ⟨w.heap.size, 0, none⟩))) (w.alloc (.cells (ints .u8 (zz 60)).toArray 177))) : wpList Tryz.prog ops Q (o :: rest) a w := by
 refine wpList_plain hg fun K hK => ?_
 unfold Oper.wp
 rw [run_alloc60 a o ho w]
 exact hK _ _ h
theorem wpList_copy_str {w : World} {ops : Array Oper} {rest : List Oper} {o : Oper} {a : Act} {Q : Exit → Act → World → Prop} (hgd : o.guard = none) (d x : Operand) (dT sT : TypeId)
   (ho : o.op = .call { callee := .builtin .copy, args := #[d, x], argTypes := #[dT, sT] }) (elem : TypeId) (hu : Tryz.prog.underlying dT = some (.slice elem)) (hz : ∀ w, (Go.sizeOf elem).run Tryz.prog w = .ok 1 w)
   (g n c : Nat) (hd : a.eval d = .slice (some ⟨g, 0, none⟩) n c) (t : ByteArray) (hx : a.eval x = .string t) (hle : t.size ≤ n) (cur : List Value) (ty : TypeId) (hg : w.heap[g]? = some (.cells cur.toArray ty (0, 0))) (hn : n ≤ cur.length)
   (vs : List Value) (hvs : (t.data.toList.map fun x => Value.int .u8 (x.toNat : Int)) = vs)
   (h : wpList Tryz.prog ops Q rest (a.put o.dst (goInt t.size)) (w.setRow g (vs ++ cur.drop vs.length).toArray)) : wpList Tryz.prog ops Q (o :: rest) a w := by
 have hl : vs.length = t.size := by rw [← hvs, List.length_map, ← Lib.size_eq]
 have hrun := run_copy_string (P := Tryz.prog) w dT sT o.type elem g 0 n c t hu hz hle (fun j hj => by rw [Nat.zero_add, cell_of_row _ _ _ _ _ _ hg, List.getElem?_toArray, List.getElem?_eq_getElem (by omega)]; rfl) (fun j hj => frozen_of_row _ _ _ _ _ hg)
 rw [hvs, setCells_row hg (by omega) (by rw [← hvs]; intro v hv; obtain ⟨x, _, rfl⟩ := List.mem_map.1 hv; rfl)] at hrun
 rw [List.take_zero, List.nil_append, Nat.zero_add] at hrun
 refine wpList_plain hgd fun K hK => ?_
 unfold Oper.wp
 simp [execOp, ho, resolve, invoke, builtin, hd, hx, hrun, Result.andThen]
 exact hK _ _ h
theorem lay_next (l : List Int) (n m k : Nat) (ys : List Int) (hl : l.length = n) (hy : ys.length = m) : laidAt (l ++ zz (m + k)) n ys = l ++ ys ++ zz k := by
 unfold laidAt
 rw [hy, List.take_left' hl, ← List.drop_drop, List.drop_left' hl]
 unfold zz
 rw [List.drop_replicate, Nat.add_sub_cancel_left]
structure LS (w w' : World) (s : Sup) (os : List Int) : Prop where
 r1 : w'.heap[w.heap.size]? = some (.cells #[.int .i64 s.wd, .int .i64 s.ge, .int .i64 s.ma, .int .i64 s.hd, .int .i64 s.pg] 39 (0, 0))
 r2 : w'.heap[w.heap.size + 1]? = some (.cells (ints .u8 (zz 64)).toArray 169 (0, 0))
 r3 : w'.heap[w.heap.size + 1 + 1]? = some (.cells (ints .u8 os).toArray 177 (0, 0))
 bl : Below w.heap.size w w'
theorem LS.start (w : World) (s : Sup) : LS w (((w.alloc (.cells #[.int .i64 s.wd, .int .i64 s.ge, .int .i64 s.ma, .int .i64 s.hd, .int .i64 s.pg] 39)).alloc (.cells (ints .u8 (zz 64)).toArray 169)).alloc (.cells (ints .u8 (zz 60)).toArray 177)) s (zz 60) :=
 ⟨heap3_old _ _ _ _, heap3_mid _ _ _ _, heap3_new _ _ _ _, below3 _ _ _ _⟩
theorem LS.setRow {w w' : World} {s : Sup} {os : List Int} (h : LS w w' s os) (ys : List Int) : LS w (w'.setRow (w.heap.size + 1 + 1) (ints .u8 ys).toArray) s ys :=
 ⟨(setRow_other w' _ _ _ (by omega)).trans h.r1, (setRow_other w' _ _ _ (by omega)).trans h.r2, setRow_heap w' _ _ _ _ _ h.r3, below_setRow h.bl (by omega) _⟩
theorem LS.set {w w' : World} {s : Sup} {os : List Int} (h : LS w w' s os) (j : Nat) (x : Int) : LS w (w'.setCell ⟨w.heap.size + 1 + 1, j, none⟩ (.int .u8 x)) s (os.set j x) :=
 ⟨heap_set_far h.r1 _ _ (by simp; omega), heap_set_far h.r2 _ _ (by simp), heap_set_ints h.r3 j x, h.bl.setCell (by simp; omega) _⟩
theorem LS.drew {w w' : World} {s : Sup} {os : List Int} (h : LS w w' s os) : LS w w'.drew s os := ⟨h.r1, h.r2, h.r3, h.bl.drew⟩
theorem LS.keeps {w w' w2 : World} {s : Sup} {os ys : List Int} (h : LS w w' s os) (hk : Keeps (w.heap.size + 1 + 1) w' w2) (hr : w2.heap[w.heap.size + 1 + 1]? = some (.cells (ints .u8 ys).toArray 177 (0, 0))) : LS w w2 s ys :=
 ⟨hk.heap h.r1 (by omega), hk.heap h.r2 (by omega), hr, h.bl.trans (hk.below_g (by omega) h.bl.size)⟩
theorem LS.cell {w w' : World} {s : Sup} {os : List Int} (h : LS w w' s os) : w'.cell? ⟨w.heap.size, 0, none⟩ = some (.int .i64 s.wd) ∧ w'.cell? ⟨w.heap.size, 1, none⟩ = some (.int .i64 s.ge) ∧ w'.cell? ⟨w.heap.size, 2, none⟩ = some (.int .i64 s.ma) ∧ w'.cell? ⟨w.heap.size, 3, none⟩ = some (.int .i64 s.hd) ∧ w'.cell? ⟨w.heap.size, 4, none⟩ = some (.int .i64 s.pg) :=
 ⟨cell_of_row _ _ _ _ _ _ h.r1, cell_of_row _ _ _ _ _ _ h.r1, cell_of_row _ _ _ _ _ _ h.r1, cell_of_row _ _ _ _ _ _ h.r1, cell_of_row _ _ _ _ _ _ h.r1⟩
theorem size_sector : (Tryz.prog.info? 169).map (·.size) = some 64 := by kernel_rfl
theorem size_super : (Tryz.prog.info? 39).map (·.size) = some 5 := by kernel_rfl
theorem lay_letters : ints .u8 [76, 68, 71, 49] ++ (ints .u8 (zz 60)).drop (ints .u8 [76, 68, 71, 49]).length = ints .u8 ([76, 68, 71, 49] ++ zz 56) := by
 rw [show zz 60 = zz 4 ++ zz 56 from rfl]; rfl
theorem lay_width (x : Int) : ([76, 68, 71, 49] ++ zz 56).set 4 x = [76, 68, 71, 49, x, 0, 0, 0] ++ zz (8 + 44) := by
 rw [show zz 56 = [0, 0, 0, 0] ++ zz 52 from rfl]; rfl
theorem laySuper_any (w : World) (s : Sup) (hv : validS s = true) :
   Calls Tryz.prog 115 #[.agg (supC s)] w fun e w' => e = .returned (.agg (ints .u8 (secS s)).toArray) ∧ Below w.heap.size w w' := by
 have hv' := (validS_iff s).1 hv
 have HV := hid hv
 clear hv
 obtain ⟨wd, ge, ma, hd, pg⟩ := s
 simp only at hv'
 obtain ⟨v1, v2, v3, v4, v5, v6, v7, v8, v9⟩ := hv'
 have v10 : 0 ≤ hd ∧ hd < 9223372036854775808 := by omega
 have v11 : 0 ≤ ge ∧ ge < 9223372036854775808 := by omega
 have v12 : 0 ≤ ma ∧ ma < 9223372036854775808 := by omega
 have v13 : 0 ≤ pg ∧ pg < 9223372036854775808 := by omega
 replace v9 := hid v9
 have hz5 : ∀ w, (Go.sizeOf 5).run Tryz.prog w = .ok 1 w := fun w => by kernel_rfl
 have HZ5 := hid hz5
 clear hz5
 unfold supC
 go_enter Tryz.func115, Tryz.ntmps115
 have L0 := LS.start w ⟨wd, ge, ma, hd, pg⟩
 simp only at L0
 have KV := hid (show ((ints .u8 (zz 60)).length = 60) by rw [ints_len, zz_len])
 go_wp2_with (first
   | (refine wpList_alloc64 rfl rfl ?_)
   | (refine wpList_alloc60 rfl rfl ?_; generalize ((w.alloc (.cells #[.int .i64 wd, .int .i64 ge, .int .i64 ma, .int .i64 hd, .int .i64 pg] 39)).alloc (.cells (ints .u8 (zz 64)).toArray 169)).alloc (.cells (ints .u8 (zz 60)).toArray 177) = w3 at *)
   | (refine wpList_copy_str rfl (.tmp 4) (.const (.string ⟨#[76, 68, 71, 49]⟩)) 22 9 rfl 5 Tryz.underlying22 HZ5.out (w.heap.size + 1 + 1) 60 60 rfl _ rfl (by decide) _ 177 L0.r3 (Nat.le_of_eq KV.out.symm) (ints .u8 [76, 68, 71, 49]) rfl ?_; rw [lay_letters]; have L1 := L0.setRow ([76, 68, 71, 49] ++ zz 56); clear L0; generalize w3.setRow (w.heap.size + 1 + 1) (ints .u8 ([76, 68, 71, 49] ++ zz 56)).toArray = w4 at *; have c0 := L1.cell.1; have c4 := cell_ints L1.r3 4 (by decide); have f4 : w4.frozen? ⟨w.heap.size + 1 + 1, 4, none⟩ = false := frozen_of_row _ _ _ _ _ L1.r3))
 have L2 := L1.set 4 wd
 rw [lay_width] at L2
 clear L1 c0 c4 f4
 generalize w4.setCell ⟨w.heap.size + 1 + 1, 4, none⟩ (.int .u8 wd) = w5 at *
 have D4 := L2.drew
 have c4 := D4.cell
 simp only at c4
 refine rgA (fun w' => w'.cell? ⟨w.heap.size, 1, none⟩ = some (.int .i64 ge)) c4.2.1 (fun hq0 => ?_)
 refine tkA 0 (.slice (some ⟨w.heap.size + 1 + 1, 8, none⟩) 8 52) rfl hq0 ?_
 go_frame
 refine tkA 1 (.pointer (some ⟨w.heap.size, 1, none⟩)) rfl hq0 ?_
 go_frame
 refine tqA 2 (.int .i64 ge) rfl (yA (by intro w hS; have hc := hS; go_simp)) hq0 ?_
 go_frame
 refine rdA 3 rfl (fun K hK => ?_)
 go_simp
 go_at_call 118
 refine (lay_any _ (w.heap.size + 1 + 1) 8 8 52 177 _ ge v11.1 v11.2 (by omega) D4.r3 (by simp [zz_len, num_len])).mono ?_
 rintro e w6 ⟨rfl, hr, hk⟩
 rw [lay_next [76, 68, 71, 49, wd, 0, 0, 0] 8 8 44 (num ge 8) (by simp [num_len]) (num_len _ _)] at hr
 have L3 := D4.keeps hk hr
 clear hr hk
 go_wp2_with fail
 refine hK.out _ _ (L3.cell.2.1) ?_
 clear hK K hq0
 intro hq0
 try go_frame
 refine wdA ?_
 clear hq0 D4 c4 L2
 have D5 := L3.drew
 have c5 := D5.cell
 simp only at c5
 go_wp2_with fail
 refine rgA (fun w' => w'.cell? ⟨w.heap.size, 2, none⟩ = some (.int .i64 ma)) c5.2.2.1 (fun hq0 => ?_)
 refine tkA 0 (.slice (some ⟨w.heap.size + 1 + 1, 16, none⟩) 4 44) rfl hq0 ?_
 go_frame
 refine tkA 1 (.pointer (some ⟨w.heap.size, 2, none⟩)) rfl hq0 ?_
 go_frame
 refine tqA 2 (.int .i64 ma) rfl (yA (by intro w hS; have hc := hS; go_simp)) hq0 ?_
 go_frame
 refine rdA 3 rfl (fun K hK => ?_)
 go_simp
 go_at_call 118
 refine (lay_any _ (w.heap.size + 1 + 1) 16 4 44 177 _ ma v12.1 v12.2 (by omega) D5.r3 (by simp [zz_len, num_len])).mono ?_
 rintro e w7 ⟨rfl, hr, hk⟩
 rw [lay_next ([76, 68, 71, 49, wd, 0, 0, 0] ++ num ge 8) 16 4 40 (num ma 4) (by simp [num_len]) (num_len _ _)] at hr
 have L4 := D5.keeps hk hr
 clear hr hk
 go_wp2_with fail
 refine hK.out _ _ (L4.cell.2.2.1) ?_
 clear hK K hq0
 intro hq0
 try go_frame
 refine wdA ?_
 clear hq0 D5 c5 L3
 have D6 := L4.drew
 have c6 := D6.cell
 simp only at c6
 go_wp2_with fail
 refine rgA (fun w' => w'.cell? ⟨w.heap.size, 3, none⟩ = some (.int .i64 hd)) c6.2.2.2.1 (fun hq0 => ?_)
 refine tkA 0 (.slice (some ⟨w.heap.size + 1 + 1, 20, none⟩) 4 40) rfl hq0 ?_
 go_frame
 refine tkA 1 (.pointer (some ⟨w.heap.size, 3, none⟩)) rfl hq0 ?_
 go_frame
 refine tqA 2 (.int .i64 hd) rfl (yA (by intro w hS; have hc := hS; go_simp)) hq0 ?_
 go_frame
 refine rdA 3 rfl (fun K hK => ?_)
 go_simp
 go_at_call 118
 refine (lay_any _ (w.heap.size + 1 + 1) 20 4 40 177 _ hd v10.1 v10.2 (by omega) D6.r3 (by simp [zz_len, num_len])).mono ?_
 rintro e w8 ⟨rfl, hr, hk⟩
 rw [lay_next ([76, 68, 71, 49, wd, 0, 0, 0] ++ num ge 8 ++ num ma 4) 20 4 36 (num hd 4) (by simp [num_len]) (num_len _ _)] at hr
 have L5 := D6.keeps hk hr
 clear hr hk
 go_wp2_with fail
 refine hK.out _ _ (L5.cell.2.2.2.1) ?_
 clear hK K hq0
 intro hq0
 try go_frame
 refine wdA ?_
 clear hq0 D6 c6 L4
 have D7 := L5.drew
 have c7 := D7.cell
 simp only at c7
 go_wp2_with fail
 refine rgA (fun w' => w'.cell? ⟨w.heap.size, 4, none⟩ = some (.int .i64 pg)) c7.2.2.2.2 (fun hq0 => ?_)
 refine tkA 0 (.slice (some ⟨w.heap.size + 1 + 1, 24, none⟩) 4 36) rfl hq0 ?_
 go_frame
 refine tkA 1 (.pointer (some ⟨w.heap.size, 4, none⟩)) rfl hq0 ?_
 go_frame
 refine tqA 2 (.int .i64 pg) rfl (yA (by intro w hS; have hc := hS; go_simp)) hq0 ?_
 go_frame
 refine rdA 3 rfl (fun K hK => ?_)
 go_simp
 go_at_call 118
 refine (lay_any _ (w.heap.size + 1 + 1) 24 4 36 177 _ pg v13.1 v13.2 (by omega) D7.r3 (by simp [zz_len, num_len])).mono ?_
 rintro e w9 ⟨rfl, hr, hk⟩
 rw [lay_next ([76, 68, 71, 49, wd, 0, 0, 0] ++ num ge 8 ++ num ma 4 ++ num hd 4) 24 4 32 (num pg 4) (by simp [num_len]) (num_len _ _)] at hr
 have L6 := D7.keeps hk hr
 clear hr hk
 go_wp2_with fail
 refine hK.out _ _ (L6.cell.2.2.2.2) ?_
 clear hK K hq0
 intro hq0
 try go_frame
 refine wdA ?_
 clear hq0 D7 c7 L5
 rw [show ([76, 68, 71, 49, wd, 0, 0, 0] ++ num ge 8 ++ num ma 4 ++ num hd 4 ++ num pg 4 ++ zz 32 : List Int) = bodyS ⟨wd, ge, ma, hd, pg⟩ from rfl] at L6
 have hbl := bodyS_len ⟨wd, ge, ma, hd, pg⟩
 have hb8 := bodyS_byts _ HV.out
 have hs := seal_any w9 (bodyS ⟨wd, ge, ma, hd, pg⟩) hb8 (some ⟨w.heap.size + 1 + 1, 0, none⟩) 60 (src_rowf L6.r3 60 (by omega) (by decide)) (by omega)
 rw [hbl] at hs
 go_wp2_with fail
 refine hs.mono ?_
 rintro e w10 ⟨rfl, hr, hB⟩
 have R2 := hbel hB L6.r2 (hlt L6.r2)
 have BL := L6.bl.trans (hB.mono L6.bl.size)
 have hne : w9.heap.size ≠ w.heap.size + 1 := by have := hlt L6.r2; omega
 clear hs hB L6 hbl hb8
 have hr' : w10.heap[w9.heap.size]? = some (.cells (ints .u8 (secS ⟨wd, ge, ma, hd, pg⟩)).toArray 5 (0, 0)) := hr
 clear hr
 have hsl := secS_len ⟨wd, ge, ma, hd, pg⟩
 generalize hsec : secS ⟨wd, ge, ma, hd, pg⟩ = sec at *
 replace hsec := hid hsec
 have K3 := hid (show (Tryz.prog.info? 169).map (·.size) = some (ints .u8 sec).toArray.size by rw [size_sector, ints_size, hsl])
 have K4 := hid (show (ints .u8 (zz 64)).toArray.size = (ints .u8 sec).toArray.size by rw [ints_size, ints_size, hsl, zz_len])
 have ho := hid (all_oneCell_toArray (ints_one .u8 sec))
 have hat : ∀ w, (Instr.arrayAt 169 (.slice (some ⟨w9.heap.size, 0, none⟩) 64 64)).run Tryz.prog w = .ok (.pointer (some ⟨w9.heap.size, 0, none⟩)) w := fun w => run_arrayAt w 169 _ 64 _ 64 64 Tryz.underlying169 (Nat.le_refl _)
 replace hsl := hid hsl
 go_wp2_with (first
   | (refine wpList_load_row_w rfl 169 (.tmp 28) rfl w9.heap.size rfl 5 (ints .u8 sec).toArray (0, 0) _ hr' Tryz.underlying169 rfl K3.out ?_)
   | (refine wpList_store_row rfl 169 (.tmp 2) (.tmp 29) rfl (w.heap.size + 1) (ints .u8 sec).toArray rfl rfl 169 _ R2 K3.out K4.out ho.out ?_; have R3 := setRow_heap w10 _ _ (ints .u8 sec).toArray _ _ R2; have BF := below_setRow BL (show w.heap.size ≤ w.heap.size + 1 by omega) (ints .u8 sec).toArray))
 exact bodyPost_ret (v := .agg (ints .u8 sec).toArray) (results_cell_row Tryz.results115 _ _ (w.heap.size + 1) 169 _ _ _ rfl R3 Tryz.underlying169 rfl K3.out) rfl ⟨by rw [hsec.out], BF⟩
end
end Go.Proofs.YtjhocjjecfdphaaGreatDoor
