import Derived.Test.YtcifbnldohmbnaaBb
import Derived.Test.YtcifbnldohmbnaaMc3
namespace Go.Proofs.Ytcifbnldohmbnaa
set_option linter.unusedVariables false
set_option linter.unusedSimpArgs false
open Go.RowKit
attribute [local go_sem ↓] Go.wp_at_zero Go.wp_at_succ

theorem lay1_is {c : Chg} (hk : c.key.length = 32) : (lay1 c).length = if c.del then 33 else 35 + c.val.length := by
  unfold lay1
  cases c.del with
  | true => simp [hk]
  | false => simp [num2, hk]; omega
set_option maxRecDepth 100000 in
set_option maxHeartbeats 400000 in
theorem length_any (w W0 : World) (m : MC) (c : Chg) (hs : Says W0 m c) (hv : c.val.length ≤ 140737488351232) :
    Calls Try.prog 17 #[.agg (encM m).toArray] w fun e w' => e = .returned (.int .i64 ((lay1 c).length : Nat)) ∧ Below w.heap.size w w' := by
  have g1 := hnew w (.cells (encM m).toArray 40)
  have hB : Below w.heap.size w (w.alloc (.cells (encM m).toArray 40)) := (Below.refl _ _).alloc (Nat.le_refl _) _
  have c1 := enc_del hs g1
  have c2 := enc_val hs g1
  obtain ⟨_, hk, _, sp, cap, e4, _, _⟩ := id hs
  rw [e4] at c2
  have HL := hid (lay1_is hk)
  have i1 : (c.val.length : Int) ≤ 140737488351232 := by omega
  generalize (lay1 c).length = L at *
  generalize c.val.length = vl at *
  go_enter Try.func17, Try.ntmps17
  cases hd : c.del with
  | true =>
    rw [hd] at c1 HL
    go_wp2
    go_ret
    exact ⟨by rw [HL.out]; rfl, hB⟩
  | false =>
    rw [hd] at c1 HL
    go_wp2
    go_ret
    refine ⟨by rw [HL.out]; simp, hB⟩
theorem src_take {w : World} {sp : Option Addr} {cap n : Nat} {z : List Int} (h : Src w sp cap z) (hn : n ≤ z.length) : Src w sp cap (z.take n) := by
  obtain ⟨h1, h2, b, o, h3, h4, h5⟩ := h
  have hl : (z.take n).length = n := by rw [List.length_take]; omega
  refine ⟨by omega, h2, b, o, fun h => h3 (by omega), fun h => h4 (by omega), fun j hj => ?_⟩
  rw [h5 j (by omega), List.getD_eq_getElem?_getD, List.getD_eq_getElem?_getD, List.getElem?_take, if_pos (by omega)]
theorem pos_le {cs : List Chg} (h : ∀ c ∈ cs, (lay1 c).length ≤ 163) (hl : cs.length ≤ 64) (i : Nat) : pos cs i ≤ 10434 := by
  unfold pos
  have := flat_le (cs.take i) (fun c hc => h c (List.mem_of_mem_take hc))
  rw [List.length_take] at this
  have : min i cs.length ≤ 64 := by omega
  omega
set_option maxRecDepth 100000 in
set_option maxHeartbeats 4000000 in
theorem cuts_walk (w : World) (cs : List Chg) (sp : Option Addr) (cap b o : Nat) (ms : List MC) (hC : Chs w sp cap cs b o ms) (hok : ∀ c ∈ cs, OkC c) (hlen : cs.length ≤ 2199023255488)
    (zs : List Int) (rp : Option Addr) (rcap : Nat) (hS : Src w rp rcap zs) (hy : Byts zs) (hzl : zs.length ≤ 140737488340000) :
    Calls Try.prog 4 #[.slice sp cs.length cap, .slice rp zs.length rcap] w fun e w' => e = .returned (.bool true) ∧ Below w.heap.size w w' := by
  have hvl : ∀ c ∈ cs, c.val.length ≤ 140737488351232 := fun c hc => (hok c hc).2.2.2
  have hkl : ∀ c ∈ cs, c.key.length = 32 := fun c hc => (hok c hc).1
  have K1 := right_any w cs sp cap b o ms hC 64
  go_enter Try.func4, Try.ntmps4
  by_cases hw : wrongC cs 64 = 0
  · rw [decide_eq_true hw] at K1
    obtain ⟨hl64, hlg, _⟩ := wrong_zero.1 hw
    have hKV : ∀ c ∈ cs, KV c := fun c hc => ⟨hkl c hc, not_long hlg c hc⟩
    have h163 : ∀ c ∈ cs, (lay1 c).length ≤ 163 := fun c hc => lay1_len (hKV c hc).1 (hKV c hc).2
    have hpl := pos_le h163 hl64
    have K1 := hid K1
    go_wp2_with fail
    refine K1.out.mono ?_
    rintro e w1 ⟨rfl, hB1⟩
    have K2 := hid (copyChanges_any w1 cs sp cap b o ms (hC.below hB1) hvl (by omega))
    clear K1
    go_wp2_with fail
    refine K2.out.mono ?_
    rintro e w2 ⟨v2, rfl, hM2, hb2⟩
    have hB2 : Below w.heap.size w w2 := hB1.trans (hb2.mono hB1.size)
    obtain ⟨s2, c2, b2, ms2, rfl, hC2, _⟩ := hM2.chs
    have K3 := hid (Build_any w2 cs s2 c2 b2 0 ms2 hC2)
    rw [hw] at K3
    clear K2 hB1 hb2
    go_wp2_with fail
    refine K3.out.mono ?_
    rintro e w3 ⟨v3, rfl, hO3, hb3⟩
    rw [buildV, if_pos hw] at hO3
    have hB3 : Below w.heap.size w w3 := hB2.trans (hb3.mono hB2.size)
    obtain ⟨s3, c3, rfl, hS3, _⟩ := id hO3.form
    have hyl := byts_lay hok hw
    have K4 := Parse_any w3 (layC cs) s3 c3 hS3 hyl
    rw [lay_parse hkl hw] at K4
    have K4 := hid K4
    have hll := lay_len cs
    have hl2 : 2 ≤ (layC cs).length := by rw [hll]; unfold pos; omega
    have hl10 : (layC cs).length ≤ 10434 := by rw [hll]; exact hpl _
    obtain ⟨g3, o3, hsp3⟩ : ∃ g3 o3, s3 = some ⟨g3, o3, none⟩ := by
      obtain ⟨_, _, g3, o3, _, h4, _⟩ := id hS3
      exact ⟨g3, o3, h4 (by omega)⟩
    subst hsp3
    have HLL := hid hll
    have hcl3 := hS3.1
    have hcm3 := hS3.2.1
    unfold maxLen at hcm3
    have PCUT := hid (fun (n i : Nat) (hn : 2 ≤ n) (hi : i < cs.length) (h1 : pos cs i ≤ n) (h2 : n < pos cs (i + 1)) => cut_parse hKV hl64 hn hi h1 h2)
    have PLONG := hid (fun (t : List Int) (ht : t ≠ []) => long_parse hKV hl64 (t := t) ht)
    clear K3 hb3 hB2 hll hw hM2 hC2
    generalize hL : layC cs = L at *
    have i0 : (L.length : Int) ≤ 10434 := by omega
    have i00 : ¬ (L.length : Int) < 2 := by omega
    go_wp2_with fail
    refine K4.out.mono ?_
    rintro e w4 ⟨v4, rfl, _, hb4⟩
    clear K4
    have ic : (cs.length : Int) ≤ 64 := by omega
    go_wp2
    go_loopw [10, 11, 12] (fun av iv nv wr => ∃ (n i : Nat), n ≤ L.length ∧ nv = .int .i64 n ∧ iv = .int .i64 i ∧ av = .int .i64 (pos cs i : Nat) ∧ i ≤ cs.length ∧ (i = 0 ∨ pos cs i ≤ n) ∧ Below w3.heap.size w3 wr) (fun _ _ nv _ => L.length - (intOf nv).toNat)
    case atStart => exact ⟨0, 0, by omega, rfl, rfl, by rw [pos_zero]; rfl, by omega, Or.inl rfl, hb4⟩
    case round =>
      clear hb4
      obtain ⟨n, i, hn, rfl, rfl, rfl, hi, hin, hb⟩ := hrel
      by_cases hlt : n < L.length
      · have i1 : (n : Int) < (L.length : Int) := by omega
        go_wp2
        go_loopw [10, 11] (fun av iv wr => ∃ (i : Nat), iv = .int .i64 i ∧ av = .int .i64 (pos cs i : Nat) ∧ i ≤ cs.length ∧ (i = 0 ∨ pos cs i ≤ n) ∧ Below w3.heap.size w3 wr) (fun _ iv _ => cs.length - (intOf iv).toNat)
        case atStart => exact ⟨i, rfl, rfl, hi, hin, hb⟩
        case round =>
          clear hb hin hi
          obtain ⟨i, rfl, rfl, hi, hin, hb⟩ := hrel
          have hpi := hpl i
          have hBw : Below w.heap.size w wr := hB3.trans (hb.mono hB3.size)
          by_cases hic : i < cs.length
          · have i2 : (i : Int) < (cs.length : Int) := by omega
            obtain ⟨hbk, hspe⟩ := hC.pos (by omega)
            subst hspe
            have hs := hC.says.2 i hic
            have rg := rng_below (hC.rd i hic) hBw hbk
            have rg0 := hC.rd i hic
            have hio : (Try.prog.info? 40).map (·.size) = some (encM (ms.getD i dM)).length := by rw [chgSize, hs.len]
            have hmem : cs.getD i dC ∈ cs := by rw [List.getD_eq_getElem?_getD, List.getElem?_eq_getElem hic]; exact List.getElem_mem hic
            have HPS := hid (pos_succ cs i hic dC)
            have KL := hid (fun w' => length_any w' w (ms.getD i dM) (cs.getD i dC) hs (hvl _ hmem))
            have hl163 := h163 _ hmem
            generalize (lay1 (cs.getD i dC)).length = len at *
            generalize ms.getD i dM = m at *
            have i3 : (len : Int) ≤ 163 := by omega
            have i4 : (pos cs i : Int) ≤ 10434 := by omega
            clear hs hmem
            by_cases hst : pos cs i + len ≤ n
            · have i5 : (pos cs i : Int) + (len : Int) ≤ (n : Int) := by omega
              generalize hpp : pos cs i = P at *
              go_wp2_with (first | refine wpList_load_mid_w rfl 40 (.tmp 62) rfl b (o + i * 34) rfl (encM m) _ rg Try.underlying40 rfl hio ?_)
              refine (KL.out _).mono ?_
              rintro e w5 ⟨rfl, hb5⟩
              have rg5 := rng_below rg hb5 (by have := hBw.size; omega)
              have hb6 : Below w3.heap.size w3 w5 := hb.trans (hb5.mono hb.size)
              clear rg hb hBw
              go_wp2_with (first | refine wpList_load_mid rfl 40 _ rfl b (o + i * 34) rfl (encM m) _ rg5 Try.underlying40 rfl hio ?_)
              refine (KL.out _).mono ?_
              rintro e w6 ⟨rfl, hb7⟩
              have hb8 : Below w3.heap.size w3 w6 := hb6.trans (hb7.mono hb6.size)
              go_wp2
              go_roundw
              case rel => exact ⟨i + 1, by go_num, (by rw [HPS.out]; simp), by omega, Or.inr (by rw [HPS.out]; omega), hb8⟩
              case measure => simp [intOf]; omega
            · have i5 : ¬ (pos cs i : Int) + (len : Int) ≤ (n : Int) := by omega
              have HPC : Hid (parseC (L.take n) = ⟨[], (if n < 2 then 0 else i : Nat), 30⟩) := by
                by_cases h2 : n < 2
                · rw [if_pos h2]; exact hid (short_parse (by rw [List.length_take]; omega))
                · rw [if_neg h2]
                  refine hid (PCUT.out n i (by omega) hic ?_ (by rw [HPS.out]; omega))
                  rcases hin with rfl | h
                  · rw [pos_zero]; omega
                  · exact h
              generalize hpp : pos cs i = P at *
              go_wp2_with (first | refine wpList_load_mid_w rfl 40 (.tmp 62) rfl b (o + i * 34) rfl (encM m) _ rg Try.underlying40 rfl hio ?_)
              refine (KL.out _).mono ?_
              rintro e wq ⟨rfl, hb5⟩
              have hbq : Below w3.heap.size w3 wq := hb.trans (hb5.mono hb.size)
              clear rg hb hBw hb5 KL
              by_cases h2 : n < 2
              · rw [if_pos h2] at HPC
                have j2 : (n : Int) < 2 := by omega
                have KP := Parse_any wq (L.take n) (some ⟨g3, o3, none⟩) c3 ((src_take hS3 (by omega)).below hbq (Nat.le_refl _)) (fun x hx => hyl x (List.mem_of_mem_take hx))
                rw [HPC.out, List.length_take, Nat.min_eq_left (by omega)] at KP
                have KP := hid KP
                have jn : (n : Int) ≤ (c3 : Int) := by omega
                go_wp2_with fail
                refine KP.out.mono ?_
                rintro e w6 ⟨v6, rfl, hM6, hb6⟩
                obtain ⟨s6, c6, _, _, rfl, _, _⟩ := hM6.chs
                have hb7 : Below w3.heap.size w3 w6 := hbq.trans (hb6.mono hbq.size)
                clear KP hb6 hM6
                go_wp2
                go_roundw
                case rel => exact ⟨n + 1, i, by omega, by go_num, rfl, (by rw [hpp]), hi, (by rcases hin with h | h; exact Or.inl h; exact Or.inr (by omega)), hb7⟩
                case measure => simp [intOf]; omega
              · rw [if_neg h2] at HPC
                have j2 : ¬ (n : Int) < 2 := by omega
                have KP := Parse_any wq (L.take n) (some ⟨g3, o3, none⟩) c3 ((src_take hS3 (by omega)).below hbq (Nat.le_refl _)) (fun x hx => hyl x (List.mem_of_mem_take hx))
                rw [HPC.out, List.length_take, Nat.min_eq_left (by omega)] at KP
                have KP := hid KP
                have jn : (n : Int) ≤ (c3 : Int) := by omega
                go_wp2_with fail
                refine KP.out.mono ?_
                rintro e w6 ⟨v6, rfl, hM6, hb6⟩
                obtain ⟨s6, c6, _, _, rfl, _, _⟩ := hM6.chs
                have hb7 : Below w3.heap.size w3 w6 := hbq.trans (hb6.mono hbq.size)
                clear KP hb6 hM6
                go_wp2
                go_roundw
                case rel => exact ⟨n + 1, i, by omega, by go_num, rfl, (by rw [hpp]), hi, (by rcases hin with h | h; exact Or.inl h; exact Or.inr (by omega)), hb7⟩
                case measure => simp [intOf]; omega
          · obtain rfl : i = cs.length := by omega
            have hn2 : n < 2 := by
              have := HLL.out
              rcases hin with h | h
              · rw [h, pos_zero] at this; omega
              · omega
            have HPC := hid (short_parse (z := L.take n) (by rw [List.length_take]; omega))
            have j2 : (n : Int) < 2 := by omega
            have hbq := hb
            generalize hpp : pos cs cs.length = P at *
            have KP := Parse_any wr (L.take n) (some ⟨g3, o3, none⟩) c3 ((src_take hS3 (by omega)).below hbq (Nat.le_refl _)) (fun x hx => hyl x (List.mem_of_mem_take hx))
            rw [HPC.out, List.length_take, Nat.min_eq_left (by omega)] at KP
            have KP := hid KP
            have jn : (n : Int) ≤ (c3 : Int) := by omega
            go_wp2_with fail
            refine KP.out.mono ?_
            rintro e w6 ⟨v6, rfl, hM6, hb6⟩
            obtain ⟨s6, c6, _, _, rfl, _, _⟩ := hM6.chs
            have hb7 : Below w3.heap.size w3 w6 := hbq.trans (hb6.mono hbq.size)
            clear KP hb6 hM6
            go_wp2
            go_roundw
            case rel => exact ⟨n + 1, cs.length, by omega, by go_num, rfl, (by rw [hpp]), Nat.le_refl _, (by rcases hin with h | h; exact Or.inl h; exact Or.inr (by omega)), hb7⟩
            case measure => simp [intOf]; omega
      · obtain rfl : n = L.length := by omega
        clear hlt
        by_cases hz0 : zs.length = 0
        · have j1 : (zs.length : Int) = 0 := by omega
          have hBf : Below w.heap.size w wr := hB3.trans (hb.mono hB3.size)
          generalize zs.length = zl at *
          go_wp2
          go_ret
          exact ⟨rfl, hBf⟩
        · have j1 : ¬ (zs.length : Int) = 0 := by omega
          have j2 : (zs.length : Int) ≤ 140737488351232 := by omega
          have KC := hid (copyBytes_any wr L (some ⟨g3, o3, none⟩) c3 (hS3.below hb (Nat.le_refl _)) (by omega))
          go_wp2_with fail
          refine KC.out.mono ?_
          rintro e w5 ⟨v5, rfl, hO5, hb5⟩
          have hB5 : Below w.heap.size w w5 := (hB3.trans (hb.mono hB3.size)).trans (hb5.mono (hB3.trans (hb.mono hB3.size)).size)
          have hO5 := hO5.base (base' := w.heap.size) (hB3.trans (hb.mono hB3.size)).size
          clear KC hb5 hb
          obtain ⟨_, _, br, or, hbr, hspr, hsrcr⟩ := id hS
          go_wp2
          go_loopw [16, 17] (fun v i wr => ∃ k : Nat, k ≤ zs.length ∧ i = .int .i64 k ∧ Own wr w.heap.size v (L ++ zs.take k) ∧ Below w.heap.size w wr) (fun _ i _ => zs.length - (intOf i).toNat)
          case atStart => exact ⟨0, by omega, rfl, by simpa using hO5, hB5⟩
          case round =>
            clear hO5 hB5
            obtain ⟨k, hk, rfl, hO, hB⟩ := hrel
            by_cases hlt : k < zs.length
            · have i1 : (k : Int) < (zs.length : Int) := by omega
              obtain rfl := hspr (by omega)
              have c0 := (hB.cell (p := ⟨br, or + k, none⟩) (hbr (by omega))).trans (hsrcr k hlt)
              have HT := hid (show L ++ zs.take (k + 1) = (L ++ zs.take k) ++ [zs.getD k 0] by
                rw [List.take_succ_eq_append_getElem hlt, List.getD_eq_getElem?_getD, List.getElem?_eq_getElem hlt, List.append_assoc]; rfl)
              have KL := hid (show (L ++ zs.take k).length + 1 ≤ 140737488355328 by rw [List.length_append, List.length_take]; omega)
              generalize zs.getD k 0 = x at *
              generalize L ++ zs.take k = zk at *
              go_wp2_with (first | (at_builtin; refine wpList_push_any rfl (.tmp 120) (.tmp 125) rfl w.heap.size _ _ x rfl hO rfl KL.out hB.size _ _ ?_; intro v2 w2 hO2 hB2))
              go_roundw
              case rel => exact ⟨k + 1, by omega, by go_num, (by rw [HT.out]; exact hO2), hB.trans hB2⟩
              case measure => simp [intOf]; omega
            · obtain rfl : k = zs.length := by omega
              rw [List.take_length] at hO
              obtain ⟨s9, c9, e9, hS9, _⟩ := id hO.form
              subst e9
              have hyt : Byts (L ++ zs) := fun x hx => by rcases List.mem_append.1 hx with h | h; exact hyl x h; exact hy x h
              have KP := Parse_any wr (L ++ zs) s9 c9 hS9 hyt
              rw [PLONG.out zs (fun e => by rw [e] at hz0; simp at hz0)] at KP
              have KP := hid KP
              clear hlt hO hS9 hyt
              simp only [List.length_append] at KP ⊢
              go_wp2_with fail
              refine KP.out.mono ?_
              rintro e w6 ⟨v6, rfl, hM6, hb6⟩
              obtain ⟨s6, c6, _, _, rfl, _, _⟩ := hM6.chs
              have hBf : Below w.heap.size w w6 := hB.trans (hb6.mono hB.size)
              clear KP hM6
              go_wp2
              go_ret
              exact ⟨rfl, hBf⟩
  · rw [decide_eq_false hw] at K1
    have K1 := hid K1
    go_wp2_with fail
    refine K1.out.mono ?_
    rintro e w1 ⟨rfl, hB1⟩
    go_wp2
    go_ret
    exact ⟨rfl, hB1⟩
end Go.Proofs.Ytcifbnldohmbnaa
