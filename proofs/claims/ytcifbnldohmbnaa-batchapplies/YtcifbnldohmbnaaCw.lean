import Derived.Test.YtcifbnldohmbnaaCu
namespace Go.Proofs.Ytcifbnldohmbnaa
set_option linter.unusedVariables false
set_option linter.unusedSimpArgs false
open Go.RowKit
attribute [local go_sem ↓] Go.wp_at_zero Go.wp_at_succ

theorem results_tmp3 {fn : Func} {t u v : Tmp} (h : fn.results = #[.tmp t, .tmp u, .tmp v]) (tmps : Array Value) (P : Program) (w : World) :
    (results fn tmps).run P w = .ok (.tuple #[tmps.getD t undef, tmps.getD u undef, tmps.getD v undef]) w := by
  simp [results, h]
theorem one_ok {z : List Int} (h : (one z).e = 0) : 33 ≤ (one z).n ∧ (one z).n ≤ z.length ∧ (one z).c.key.length = 32 := by
  unfold one at h ⊢
  split at h
  · cases h
  · rename_i h1
    rw [if_neg h1]
    split at h
    · rename_i h2
      rw [if_pos h2]
      refine ⟨Nat.le_refl _, by show 33 ≤ z.length; omega, ?_⟩
      show ((z.drop 1).take 32).length = 32
      rw [List.length_take, List.length_drop]; omega
    · rename_i h2
      rw [if_neg h2]
      split at h
      · cases h
      · rename_i h3
        rw [if_neg h3]
        split at h
        · cases h
        · rename_i h4
          rw [if_neg h4]
          split at h
          · cases h
          · rename_i h5
            rw [if_neg h5]
            refine ⟨by show 33 ≤ 35 + _; omega, by show 35 + _ ≤ _; omega, ?_⟩
            show ((z.drop 1).take 32).length = 32
            rw [List.length_take, List.length_drop]; omega
theorem Byts.drop {z : List Int} (h : Byts z) (i : Nat) : Byts (z.drop i) := fun x hx => h x (List.mem_of_mem_drop hx)
/-- What is left of a text. -/
def Rst (w : World) (v : Value) (z : List Int) : Prop := ∃ sp cap, v = .slice sp z.length cap ∧ Src w sp cap z ∧ (sp = none → cap = 0)
theorem Rst.tail {w : World} {b o cap : Nat} {z : List Int} (h : Src w (some ⟨b, o, none⟩) cap z) (hz : 0 < z.length) (i : Nat) (hi : i ≤ z.length) : Rst w (.slice (if cap = i then some ⟨b, o, none⟩ else some ⟨b, o + i, none⟩) (z.length - i) (cap - i)) (z.drop i) := by
  have hl : (z.drop i).length = z.length - i := List.length_drop ..
  refine ⟨_, _, by rw [hl], ?_, fun e => ?_⟩
  · by_cases hc : cap = i
    · have h0 : z.drop i = [] := List.eq_nil_of_length_eq_zero (by have := h.1; omega)
      rw [h0]; exact Src.empty w _ _ (by have := h.2.1; unfold maxLen at *; omega)
    · rw [if_neg hc]
      have := tail_src h hz i (z.length - i) (cap - i) (by omega) (by have := h.1; omega) (by have := h.2.1; unfold maxLen at *; omega)
      rwa [List.take_of_length_le (by omega)] at this
  · split at e <;> cases e
theorem wpList_cut {w : World} {ops : Array Oper} {rest : List Oper} {op : Oper} {a : Act} {Q : Exit → Act → World → Prop} (hg : op.guard = none) (x l : Operand) (ho : op.op = .slice 30 x (some l) none none) (b o n cap i : Nat)
    (hx : a.eval x = .slice (some ⟨b, o, none⟩) n cap) (hl : a.eval l = .int .i64 i) (hi : (i : Int) ≤ (n : Int)) (h : ∀ s, s = (if cap = i then some (⟨b, o, none⟩ : Addr) else some ⟨b, o + i, none⟩) → wpList Try.prog ops Q rest (a.put op.dst (.slice s (n - i) (cap - i))) w) : wpList Try.prog ops Q (op :: rest) a w := by
  refine wpList_plain hg fun K hK => ?_
  have hh := h _ rfl
  unfold Oper.wp execOp
  rw [ho]
  simp only [hx, hl, Option.map_some, Option.map_none]
  go_simp
  exact hK _ _ hh
theorem Mine.nil (w : World) (base : Nat) : Mine w base (.slice none 0 0) [] := ⟨[], OwnM.nil _ _, OwnV.nil _ _⟩
theorem parseL_done (n : Nat) (z : List Int) (d : List Chg) : (parseL 0 z).pre d = ⟨d, d.length, 0, z⟩ := by simp [parseL, PL.pre]
set_option maxRecDepth 100000 in
set_option maxHeartbeats 2000000 in
theorem Parse_any (w : World) (z : List Int) (sp : Option Addr) (cap : Nat) (hS : Src w sp cap z) (hy : Byts z) :
    Calls Try.prog 16 #[.slice sp z.length cap] w fun e w' => ∃ v, e = .returned (.tuple #[v, .int .i64 (parseC z).at', .int .i64 (parseC z).e]) ∧ Mine w' w.heap.size v (parseC z).cs ∧ Below w.heap.size w w' := by
  have hm := hS.2.1
  have hc := hS.1
  unfold maxLen at hm
  have i0 : (z.length : Int) ≤ 9223372036854775807 := by omega
  go_enter Try.func16, Try.ntmps16
  by_cases hl2 : z.length < 2
  · have HP := hid (show parseC z = ⟨[], 0, 30⟩ by unfold parseC; rw [if_pos hl2])
    have j1 : (z.length : Int) < 2 := by omega
    clear hS
    generalize z.length = n at *
    go_wp2
    refine bodyPost_ret (results_tmp3 Try.results16 _ _ _) rfl ⟨.slice none 0 0, ?_, ?_, Below.refl _ _⟩
    · rw [HP.out]; rfl
    · rw [HP.out]; exact Mine.nil _ _
  · have j1 : ¬ (z.length : Int) < 2 := by omega
    have y0 := hy.get 0
    have y1 := hy.get 1
    have KN := hid (number_any w z sp cap hS hy (by omega))
    obtain ⟨n, hn⟩ := Int.eq_ofNat_of_zero_le (show 0 ≤ z.getD 0 0 + 256 * z.getD 1 0 by omega)
    by_cases h64 : 64 < n
    · have HP := hid (show parseC z = ⟨[], 0, 31⟩ by unfold parseC; rw [if_neg hl2, if_pos (by omega)])
      rw [hn] at KN
      have j2 : (64 : Int) < (n : Int) := by omega
      clear hS hn
      generalize z.length = m at *
      go_wp2_with fail
      refine KN.out.mono ?_
      rintro e w1 ⟨rfl, hB1⟩
      go_wp2
      refine bodyPost_ret (results_tmp3 Try.results16 _ _ _) rfl ⟨.slice none 0 0, ?_, ?_, hB1⟩
      · rw [HP.out]; rfl
      · rw [HP.out]; exact Mine.nil _ _
    · have HP := hid (show parseC z = (let r := parseL n (z.drop 2); if r.e ≠ 0 then ⟨[], r.k, r.e⟩ else if r.rest ≠ [] then ⟨[], n, 30⟩ else if twiceK (keysC r.cs) < n then ⟨[], twiceK (keysC r.cs), 33⟩ else ⟨r.cs, 0, 0⟩) by
        unfold parseC; rw [if_neg hl2, if_neg (by omega), hn, Int.toNat_natCast])
      rw [hn] at KN
      have j2 : ¬ (64 : Int) < (n : Int) := by omega
      obtain ⟨_, _, b, o, hb, hsp, _⟩ := id hS
      obtain rfl := hsp (by omega)
      have hR := Rst.tail hS (by omega) 2 (by omega)
      have hyd := hy.drop 2
      have j3 : (2 : Int) ≤ (z.length : Int) := by omega
      have j4 : (2 : Int) ≤ (cap : Int) := by omega
      obtain ⟨Z, hZ⟩ : ∃ Z, Z = encM dM := ⟨_, rfl⟩
      have SO := hid (show Z.toArray.size = 34 by rw [hZ]; simpa using encD_len)
      have HZ := hid hZ
      have J3 := hid (show ((2 : Nat) : Int) ≤ (z.length : Int) by omega)
      clear hS hn hZ y0 y1 hy
      generalize hpl : parseL n (z.drop 2) = R at *
      have HR0 := hid hpl
      clear hpl
      generalize z.drop 2 = rz at *
      generalize z.length = m at *
      go_wp2_with fail
      refine KN.out.mono ?_
      rintro e w1 ⟨rfl, hB1⟩
      clear KN
      go_wp2_with (first | (refine wpList_cut rfl (.tmp 20) (.const (.int .i64 2)) rfl b o m cap 2 rfl rfl J3.out ?_; intro s2 hs2; replace hs2 := hid hs2))
      rw [← hs2.out] at hR
      clear hs2 j3 j4
      have HI := hid (show R = (parseL (n - 0) rz).pre [] by rw [PL.pre_nil]; exact HR0.out.symm)
      go_loopw [6, 7, 23] (fun rv cv iv wr => ∃ (i : Nat) (rz' : List Int) (dn : List Chg) (ns : List MC), i ≤ n ∧ iv = .int .i64 i ∧ dn.length = i ∧ R = (parseL (n - i) rz').pre dn ∧ Rst w rv rz' ∧ Byts rz' ∧ OwnM wr w.heap.size cv ns ∧ OwnV wr w.heap.size ns dn ∧ Below w.heap.size w wr) (fun _ _ iv _ => n - (intOf iv).toNat)
      case atStart => exact ⟨0, rz, [], [], by omega, rfl, rfl, HI.out, hR, hyd, OwnM.nil _ _, OwnV.nil _ _, hB1⟩
      case round =>
        clear HI hR hyd hB1 HR0
        obtain ⟨i, rz', dn, ns, hi, rfl, hdl, hRR, ⟨spr, capr, rfl, hSr, hnr⟩, hyr, hO, hV, hB⟩ := hrel
        by_cases hlt : i < n
        · have i1 : (i : Int) < (n : Int) := by omega
          have KP := hid (parseChange_any wr rz' spr capr (hSr.below hB (Nat.le_refl _)) hyr)
          have HRR := hid hRR
          have HDL := hid hdl
          clear hRR hdl
          have hstep : parseL (n - i) rz' = if (one rz').e = 0 then (parseL (n - (i + 1)) (rz'.drop (one rz').n)).pre [(one rz').c] else ⟨[], 0, (one rz').e, rz'⟩ := by
            rw [show n - i = (n - (i + 1)) + 1 by omega]; rfl
          have HST := hid hstep
          clear hstep
          have hml : (rz'.length : Int) ≤ 9223372036854775807 := by have h1 := hSr.1; have h2 := hSr.2.1; unfold maxLen at h2; omega
          by_cases he : (one rz').e = 0
          · obtain ⟨q1, q2, q3⟩ := one_ok he
            obtain ⟨b', o', hbb⟩ : ∃ b' o', spr = some ⟨b', o', none⟩ := by
              obtain ⟨_, _, b', o', _, hsp', _⟩ := id hSr
              exact ⟨b', o', hsp' (by omega)⟩
            subst hbb
            have hRn := Rst.tail hSr (by omega) (one rz').n q2
            have hyn := hyr.drop (one rz').n
            have HN := hid (show R = (parseL (n - (i + 1)) (rz'.drop (one rz').n)).pre (dn ++ [(one rz').c]) by rw [HRR.out, HST.out, if_pos he, PL.pre_pre])
            have jn : ((one rz').n : Int) ≤ (rz'.length : Int) := by omega
            clear HST HRR
            go_wp2_with fail
            refine KP.out.mono ?_
            rintro e w2 ⟨mm, rfl, hkl, ⟨spm, nm, cm, hsv⟩, hok, hB2⟩
            obtain ⟨hk1, hk2, hO9⟩ := hok he
            clear hok KP
            rw [he]
            have hs0 := hB.size
            have hBw : Below w.heap.size w w2 := hB.trans (hB2.mono hB.size)
            have hO2 := hO.below hB2 (Nat.le_refl _)
            have hV2 := hV.below hB2
            have hO3 := hO2.below ((Below.refl w2.heap.size w2).alloc (Nat.le_refl _) (.cells (encM mm).toArray 40)) (Nat.le_refl _)
            have hV3 := hV2.below ((Below.refl w2.heap.size w2).alloc (Nat.le_refl _) (.cells (encM mm).toArray 40))
            have hO8 := (hO9.base hB.size).below ((Below.refl w2.heap.size w2).alloc (Nat.le_refl _) (.cells (encM mm).toArray 40)) (Nat.le_refl _)
            have lm : (encM mm).length = 34 := by simp [encM, ints, hkl]
            have SM := hid (show (encM mm).toArray.size = 34 by simpa using lm)
            have om : ∀ v ∈ encM mm, v.oneCell' = true := by
              intro v hv
              rcases List.mem_append.1 hv with h | h
              · exact ints_one _ _ v h
              · simp at h; rcases h with rfl | rfl
                · rfl
                · rw [hsv]; rfl
            have g9 := hnew w2 (.cells (encM mm).toArray 40)
            have hB3 : Below w.heap.size w (w2.alloc (.cells (encM mm).toArray 40)) := hBw.alloc hBw.size _
            have HLN := hid (show ns.length + 1 ≤ 2199023255552 by have := hV.1; have := HDL.out; omega)
            clear hO hV hO2 hV2 hB2 hB hO9
            generalize hnn : (one rz').n = n1 at *
            generalize hcc : (one rz').c = c1 at *
            clear hnn hcc he
            generalize hw3 : w2.alloc (.cells (encM mm).toArray 40) = w3 at *
            go_wp2_with (first
              | refine wpList_allocZ rfl rfl Z HZ.out ?_
              | (refine wpList_store_row rfl 40 _ _ rfl _ _ rfl rfl 40 _ (by exact hnew _ _) (by rw [chgSize, SM.out]) (by rw [SM.out, SO.out]) (all_oneCell_toArray om) ?_; rw [setRow_alloc, hw3])
              | refine wpList_load_row rfl 40 _ rfl _ rfl 40 _ _ _ (by exact g9) Try.underlying40 rfl (by rw [chgSize, SM.out]) ?_
              | refine wpList_slice rfl _ rfl (encM mm) lm rfl ?_
              | (at_builtin; refine wpList_pushC rfl (.tmp 36) (.tmp 38) rfl w.heap.size _ ns mm rfl hO3 rfl lm om HLN.out hB3.size _ _ ?_; intro v7 w7 hO7 hB7 hK7 hD7)
              | (refine wpList_cut rfl (.tmp 40) (.tmp 41) rfl b' o' _ capr n1 rfl rfl jn ?_; intro s3 hs3; replace hs3 := hid hs3))
            rw [← hs3.out] at hRn
            have hfin : OwnV w7 w.heap.size (ns ++ [mm]) (dn ++ [c1]) := by
              refine OwnV.snoc (hV3.of_heap fun kk x hx => hK7 kk (hlt_ hx) fun e => by obtain ⟨_, _, y, hy⟩ := hO3.block kk e; exact ne_of_type hx hy (by decide) rfl) hk1 q3 hk2 (hO8.of_heap fun kk e => ?_)
              obtain ⟨q1, x, hx⟩ := hO8.ne_chg kk e
              exact hK7 kk q1 fun e2 => by obtain ⟨_, _, y, hy⟩ := hO3.block kk e2; exact ne_of_type hx hy (by decide) rfl
            go_roundw
            case rel => exact ⟨i + 1, _, dn ++ [c1], ns ++ [mm], by omega, by go_num, by rw [List.length_append, HDL.out]; rfl, HN.out, hRn, hyn, hO7, hfin, hB3.trans hB7⟩
            case measure => simp [intOf]; omega
          · have HE := hid (show parseC z = ⟨[], i, (one rz').e⟩ by
              rw [HP.out, HRR.out, HST.out, if_neg he]
              simp only [PL.pre, Nat.add_zero, HDL.out]
              rw [if_pos he])
            clear HST HRR HP
            go_wp2_with fail
            refine KP.out.mono ?_
            rintro e w2 ⟨mm, rfl, hkl, ⟨spm, nm, cm, hsv⟩, hok, hB2⟩
            have hBw : Below w.heap.size w w2 := hB.trans (hB2.mono hB.size)
            have lm : (encM mm).length = 34 := by simp [encM, ints, hkl]
            have SM := hid (show (encM mm).toArray.size = 34 by simpa using lm)
            have om : ∀ v ∈ encM mm, v.oneCell' = true := by
              intro v hv
              rcases List.mem_append.1 hv with h | h
              · exact ints_one _ _ v h
              · simp at h; rcases h with rfl | rfl
                · rfl
                · rw [hsv]; rfl
            have hB3 : Below w.heap.size w (w2.alloc (.cells (encM mm).toArray 40)) := hBw.alloc hBw.size _
            clear hok KP
            generalize (one rz').e = ee at *
            generalize (one rz').n = n1 at *
            go_wp2_with (first
              | refine wpList_allocZ rfl rfl Z HZ.out ?_
              | (refine wpList_store_row rfl 40 _ _ rfl _ _ rfl rfl 40 _ (by exact hnew _ _) (by rw [chgSize, SM.out]) (by rw [SM.out, SO.out]) (all_oneCell_toArray om) ?_; rw [setRow_alloc]))
            refine bodyPost_ret (results_tmp3 Try.results16 _ _ _) rfl ⟨.slice none 0 0, ?_, ?_, hB3⟩
            · rw [HE.out]; rfl
            · rw [HE.out]; exact Mine.nil _ _
        · obtain rfl : i = n := by omega
          rw [Nat.sub_self, parseL_done 0] at hRR
          clear hlt
          by_cases hr0 : 0 < rz'.length
          · have HE := hid (show parseC z = ⟨[], i, 30⟩ by
              rw [HP.out, hRR]
              simp only []
              rw [if_neg (by simp), if_pos (by intro h; rw [h] at hr0; simp at hr0)])
            have j9 : (0 : Int) < (rz'.length : Int) := by omega
            clear HP hRR
            generalize rz'.length = rl at *
            go_wp2
            refine bodyPost_ret (results_tmp3 Try.results16 _ _ _) rfl ⟨.slice none 0 0, ?_, ?_, hB⟩
            · rw [HE.out]; rfl
            · rw [HE.out]; exact Mine.nil _ _
          · have hz0 : rz' = [] := List.eq_nil_of_length_eq_zero (by omega)
            subst hz0
            obtain ⟨spc, capc, bc, hvc, hCc, _⟩ := hO.chs hV.says
            subst hvc
            have KR := hid (repeated_any wr dn spc capc bc 0 ns hCc)
            have HE := hid (show parseC z = if twiceK (keysC dn) < i then ⟨[], twiceK (keysC dn), 33⟩ else ⟨dn, 0, 0⟩ by
              rw [HP.out, hRR]
              simp only []
              rw [if_neg (by simp), if_neg (by simp)])
            have HD := hid hdl
            clear HP hRR hr0 hdl
            by_cases htw : twiceK (keysC dn) < i
            · rw [if_pos htw] at HE
              have j9 : (twiceK (keysC dn) : Int) < (i : Int) := by omega
              generalize twiceK (keysC dn) = tw at *
              go_wp2_with fail
              refine KR.out.mono ?_
              rintro e w2 ⟨rfl, hB2⟩
              go_wp2
              refine bodyPost_ret (results_tmp3 Try.results16 _ _ _) rfl ⟨.slice none 0 0, ?_, ?_, hB.trans (hB2.mono hB.size)⟩
              · rw [HE.out]; rfl
              · rw [HE.out]; exact Mine.nil _ _
            · rw [if_neg htw] at HE
              have j9 : ¬ (twiceK (keysC dn) : Int) < (i : Int) := by omega
              generalize twiceK (keysC dn) = tw at *
              go_wp2_with fail
              refine KR.out.mono ?_
              rintro e w2 ⟨rfl, hB2⟩
              go_wp2
              refine bodyPost_ret (results_tmp3 Try.results16 _ _ _) rfl ⟨.slice spc dn.length capc, ?_, ?_, hB.trans (hB2.mono hB.size)⟩
              · rw [HE.out]; rfl
              · rw [HE.out]; exact ⟨ns, hO.below hB2 (Nat.le_refl _), hV.below hB2⟩
end Go.Proofs.Ytcifbnldohmbnaa
