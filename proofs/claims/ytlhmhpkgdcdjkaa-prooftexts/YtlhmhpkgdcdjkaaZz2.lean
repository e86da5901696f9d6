import Derived.Test.YtlhmhpkgdcdjkaaZy2
namespace Go.Proofs.Ytlhmhpkgdcdjkaa
set_option linter.unusedVariables false
set_option linter.unusedSimpArgs false
open Go.RowKit
attribute [local go_sem ↓] Go.wp_at_zero Go.wp_at_succ

set_option maxRecDepth 100000 in
set_option maxHeartbeats 16000000 in
theorem texts_b (w : World) (N : Nat) (sp : Option Addr) (cap : Nat) (hN : N ≤ 9223372036854775807) (hX : ∀ j, j < N → ∃ b o cs, sp = some ⟨b, o, none⟩ ∧ b < w.heap.size ∧ w.rangeAt b (o + j * 37) cs ∧ TxIn w cs) :
    Calls Try.prog 15 #[.slice sp N cap, .bool true, .bool true] w fun e w' => e = .returned (.bool true) ∧ Below w.heap.size w w' := by
  have AT := hid allocTx
  have AP := hid allocPf
  have LZ := hid (show (pfC pf0 (.slice none 0 0) (.slice none 0 0)).length = 35 from rfl)
  have LT := hid (show (txC false pf0 (.slice none 0 0) (.slice none 0 0) (.slice none 0 0)).length = 37 from rfl)
  have iN : (N : Int) ≤ 9223372036854775807 := by omega
  go_enter Try.func15, Try.ntmps15
  go_wp2
  go_loopw [7] (fun i wr => ∃ k : Nat, k ≤ N ∧ i = .int .i64 k ∧ Below w.heap.size w wr) (fun i _ => N - (intOf i).toNat)
  case atStart => exact ⟨0, by omega, rfl, Below.refl _ _⟩
  case round =>
    obtain ⟨k, hk, rfl, hB⟩ := hrel
    by_cases hlt : k < N
    · have i1 : (k : Int) < (N : Int) := by omega
      obtain ⟨b, o, cs, rfl, hbw, hrg, hTx⟩ := hX k hlt
      obtain ⟨d, p, r, s1, s2, s3, c1, c2, c3, rfl, ok, yp, hS, hT, hv, hs, yr, hR, hrl⟩ := hTx
      have rg := rng_below hrg hB hbw
      have STx := hid (show (Try.prog.info? 52).map (·.size) = some (txC d p (.slice s1 p.vs.length c1) (.slice s2 p.ss.length c2) (.slice s3 r.length c3)).length by rw [Try.sizeTx, txC_len ok])
      have LTx := hid (txC_len ok d (.slice s1 p.vs.length c1) (.slice s2 p.ss.length c2) (.slice s3 r.length c3))
      have OTx := hid (txC_one (p := p) d s1 s2 s3 p.vs.length c1 p.ss.length c2 r.length c3)
      have kd := hid (txC_d d p (.slice s1 p.vs.length c1) (.slice s2 p.ss.length c2) (.slice s3 r.length c3))
      have KPR := hid (fun j x hx => txC_p ok d (.slice s1 p.vs.length c1) (.slice s2 p.ss.length c2) (.slice s3 r.length c3) j x hx)
      have kr := hid (txC_r ok d (.slice s1 p.vs.length c1) (.slice s2 p.ss.length c2) (.slice s3 r.length c3))
      have SF9 := hid (fun v s => show (Try.prog.info? 26).map (·.size) = some (pfC p v s).toArray.size by rw [Try.sizeP, List.size_toArray, pfC_len ok])
      have SFL := hid (fun v s => show (Try.prog.info? 26).map (·.size) = some (pfC p v s).length by rw [Try.sizeP, pfC_len ok])
      have LF := hid (fun v s => pfC_len ok v s)
      have OF := hid (fun a b c d e f => pfC_one p (.slice a b c) (.slice d e f) rfl rfl)
      have KV := hid (fun v s => pfC_v p v s)
      have KS34 := hid (fun v s => pfC_s ok v s)
      have PV1 := hid (fun v s v' => show (pfC p v s).set 1 v' = pfC p v' s from rfl)
      have PS34 := hid (fun v s s' => pfC_set ok v s s')
      have KC := hid (fun w1 (hb : Below w.heap.size w w1) => copyProof_any w1 p ok s1 s2 c1 c2 (hS.below hb (Nat.le_refl _)) (hT.below hb (Nat.le_refl _)) (by omega) (by omega))
      have KR := hid (fun w1 s c (h : Src w1 s c p.vs) => roomy_any w1 p.vs s c h hv)
      have KEN := hid (fun w1 (V : List Int) (D : List (List Int)) (h1 : V.length = p.vs.length + 100) (h2 : D.length = p.ss.length + 30) (h3 : ∀ d ∈ D, d.length = 32 ∧ Bys d) (h4 : Bys V) gR gL (h5 : Src w1 (some ⟨gR, 0, none⟩) (p.vs.length + 100) V) (h6 : SrcD w1 (some ⟨gL, 0, none⟩) (p.ss.length + 30) D) => enc_row (p := p) w1 ok yp V D h1 h2 h3 h4 gR gL h5 h6 hv hs)
      obtain ⟨iD, hiD, hzD, hsD, hyD⟩ := infoDz
      have HID := hid hiD
      clear hiD
      have KL1 := hid (show iD.bytes * (p.ss.length + 30) ≤ 281474976710656 by rw [hyD]; omega)
      have KL2 := hid (show p.ss.length + 30 ≤ maxLen by unfold maxLen; omega)
      have hms : p.ss.length ≤ 4398046510976 := by omega
      have hvs := hv
      have KRR := hid (fun w1 (h : Below w.heap.size w w1) => roomy_any w1 r s3 c3 (hR.below h (Nat.le_refl _)) hrl)
      have KDN := hid (fun w1 (V : List Int) (h1 : V.length = r.length + 100) (h4 : Bys V) gR (h5 : Src w1 (some ⟨gR, 0, none⟩) (r.length + 100) V) => dec_row w1 V h1 h4 gR h5 hrl)
      generalize hCS : txC d p (.slice s1 p.vs.length c1) (.slice s2 p.ss.length c2) (.slice s3 r.length c3) = CS at *
      clear hCS
      generalize hnn : p.vs.length = n at *
      generalize hmm : p.ss.length = m at *
      have HNN := hid hnn
      have HMM := hid hmm
      clear hnn hmm hv hs
      generalize hr3 : r.length = n3 at *
      have HR3 := hid hr3
      clear hr3
      replace hvs := hid hvs
      replace hms := hid hms
      replace hrl := hid hrl
      generalize pfC p = PF at *
      go_wp2_with (first
        | refine wpList_load_mid_w (by rfl) 52 _ (by rfl) b (o + k * 37) (by rfl) _ _ rg Try.underlying52 rfl STx.out ?_
        | (refine wpList_new AT.out LT.out Try.sizeTx rfl rfl rfl _ _ rfl rfl CS rfl rfl LTx.out OTx.out ?_; refine Hid.out ?_))
      refine hid ?_
      have d8 : BK w (wr.alloc (.cells CS.toArray 52)) [(wr.heap.size, CS, 52)] := ⟨hB.alloc hB.size _, fun x hx => by simp only [List.mem_cons, List.not_mem_nil, or_false] at hx; subst hx; exact hnew wr _⟩
      have hg8 : w.heap.size ≤ wr.heap.size := hB.size
      generalize wr.alloc (.cells CS.toArray 52) = w1 at *
      generalize wr.heap.size = g8 at *
      have c8 := d8.cell (.head _) kd.out
      cases d with
      | true =>
        have c36 := d8.cell (.head _) kr.out
        go_wp2_with fail
        refine (KRR.out _ d8.1).mono ?_
        rintro e w2 ⟨rfl, rR, hb2⟩
        have d2 := d8.call hb2
        have d3 : BK w w2 [(w1.heap.size, ints .u8 (full r), 5), (g8, CS, 52)] := ⟨d2.1, fun x hx => by rcases List.mem_cons.1 hx with rfl | hx; exact rR; exact d2.2 x hx⟩
        have hg8R : g8 < w1.heap.size := d8.lt (.head _)
        have hwR : w.heap.size ≤ w1.heap.size := d8.1.size
        have c37 := d3.cell (.tail _ (.head _)) kr.out
        have HV0 := hid (show (full r).length = n3 + 100 by rw [full_len, HR3.out])
        have HY0 := hid (full_bys yr)
        generalize full r = V0 at *
        generalize w1.heap.size = gR at *
        clear rR d2 d8 c36
        have i3 : (n3 : Int) ≤ 140737488351232 := by have := hrl.out; have := HR3.out; omega
        go_wp2
        clear c37
        go_loopw [19] (fun i wr => ∃ (q : Nat) (V : List Int), q ≤ 3 ∧ i = .int .i64 q ∧ Hid (V.length = n3 + 100) ∧ Hid (Bys V) ∧ BK w wr [(gR, ints .u8 V, 5), (g8, CS, 52)]) (fun i _ => 3 - (intOf i).toNat)
        case atStart => exact ⟨0, V0, by omega, rfl, HV0, HY0, d3⟩
        case round =>
          clear d3 HV0 HY0
          obtain ⟨q, V, hq, rfl, hVl, hVy, d9⟩ := hrel
          by_cases hq3 : q < 3
          · rcases (show q = 0 ∨ q = 1 ∨ q = 2 by omega) with rfl | rfl | rfl
            · rw [show ((0 : Nat) : Int) = 0 from rfl]
              have rR9 := d9.row (.head _)
              have S9 : Src wr (some ⟨gR, 0, none⟩) (n3 + 100) V := src_rng (rng rR9) (d9.lt (.head _)) (n3 + 100) (by have := hVl.out; omega) (by have := hrl.out; unfold maxLen; omega)
              have KE9 := hid (KDN.out wr V hVl.out hVy.out gR S9)
              clear rR9 S9
              go_wp2_with fail
              refine KE9.out.mono ?_
              rintro e wE ⟨rfl, hbE⟩
              have dE := d9.call hbE
              clear d9
              go_wp2
              go_roundw
              case rel => exact ⟨1, V, by omega, by rfl, hVl, hVy, dE⟩
              case measure => simp [intOf]
            · skip
              rw [show ((1 : Nat) : Int) = 1 from rfl]
              by_cases hp : 0 < n3
              · have ip : (0 : Int) < (n3 : Int) := by omega
                obtain ⟨I, hI⟩ : ∃ I, I = n3 - 1 := ⟨_, rfl⟩
                have HI := hid (show (n3 : Int) - 1 = (I : Int) by omega)
                have iI : (I : Int) < (n3 : Int) + 100 := by omega
                have hIV : I < V.length := by have := hVl.out; omega
                have cg := d9.cell (.head _) (ints_get .u8 V I hIV)
                have fg : wr.frozen? ⟨gR, I, none⟩ = false := frozen_of_row _ _ _ _ _ (d9.row (.head _))
                have dN := d9.drew.updC (L' := [(gR, ints .u8 (V.set I (bits .xor .u8 (V.getD I 0) 1)), 5), (g8, CS, 52)]) (.head _) (by omega) I (.int .u8 (bits .xor .u8 (V.getD I 0) 1)) (by
                  intro x hx
                  simp only [List.mem_cons, List.not_mem_nil, or_false] at hx ⊢
                  rcases hx with rfl | rfl
                  · exact Or.inl (by simp [ints, List.map_set])
                  · exact Or.inr ⟨Or.inr rfl, by show g8 ≠ gR; omega⟩)
                have hVl2 := hid (show (V.set I (bits .xor .u8 (V.getD I 0) 1)).length = n3 + 100 by rw [List.length_set]; exact hVl.out)
                have hVy2 := hid (bys_set hVy.out I _ (xor_bd (V.getD I 0) 1))
                have dH : BK w wr [(g8, CS, 52)] := d9.sub (fun x hx => .tail _ hx)
                clear d9 hI hIV hVl hVy
                generalize V.getD I 0 = xv at *
                go_wp2
                refine wp_region_noPanic ?_
                refine wp_region_held_drew (S := (fun w' => BK w w' [(g8, CS, 52)])) (by kernel_rfl) dH.drew (fun hHeld => ?_)
                refine wpAnyH_take (i := 0) (oi := { dst := some 147, op := Op.move (Operand.tmp 17), type := 22, pos := "law.go:355", after := #[], guard := none }) (v := .slice (some ⟨gR, 0, none⟩) (n3 + 100) (n3 + 100)) rfl (by kernel_rfl) (by kernel_rfl) (by kernel_rfl) (fun _ _ _ h => h) (Or.inl ⟨by rfl, by intro w hS; go_simp⟩) hHeld ?_
                try simp only [Act.put, List.setIfInBounds_toArray, List.set_cons_zero, List.set_cons_succ]
                refine wpAnyH_take (i := 1) (oi := { dst := some 148, op := Op.move (Operand.tmp 18), type := 3, pos := "law.go:355", after := #[], guard := none }) (v := .int .i64 n3) rfl (by kernel_rfl) (by kernel_rfl) (by kernel_rfl) (fun _ _ _ h => h) (Or.inl ⟨by rfl, by intro w hS; go_simp⟩) hHeld ?_
                try simp only [Act.put, List.setIfInBounds_toArray, List.set_cons_zero, List.set_cons_succ]
                refine wpAnyH_take (i := 3) (oi := { dst := some 150, op := Op.move (Operand.tmp 19), type := 3, pos := "law.go:355", after := #[], guard := none }) (v := .int .i64 1) rfl (by kernel_rfl) (by kernel_rfl) (by kernel_rfl) (fun _ _ _ h => h) (Or.inl ⟨by rfl, by intro w hS; go_simp⟩) hHeld ?_
                try simp only [Act.put, List.setIfInBounds_toArray, List.set_cons_zero, List.set_cons_succ]
                refine wpAnyH_take (i := 5) (oi := { dst := some 152, op := Op.move (Operand.tmp 17), type := 22, pos := "law.go:355", after := #[], guard := none }) (v := .slice (some ⟨gR, 0, none⟩) (n3 + 100) (n3 + 100)) rfl (by kernel_rfl) (by kernel_rfl) (by kernel_rfl) (fun _ _ _ h => h) (Or.inl ⟨by rfl, by intro w hS; go_simp⟩) hHeld ?_
                try simp only [Act.put, List.setIfInBounds_toArray, List.set_cons_zero, List.set_cons_succ]
                refine wpAnyH_take (i := 6) (oi := { dst := some 153, op := Op.move (Operand.tmp 18), type := 3, pos := "law.go:355", after := #[], guard := none }) (v := .int .i64 n3) rfl (by kernel_rfl) (by kernel_rfl) (by kernel_rfl) (fun _ _ _ h => h) (Or.inl ⟨by rfl, by intro w hS; go_simp⟩) hHeld ?_
                try simp only [Act.put, List.setIfInBounds_toArray, List.set_cons_zero, List.set_cons_succ]
                refine wpAnyH_take (i := 8) (oi := { dst := some 155, op := Op.move (Operand.tmp 19), type := 3, pos := "law.go:355", after := #[], guard := none }) (v := .int .i64 1) rfl (by kernel_rfl) (by kernel_rfl) (by kernel_rfl) (fun _ _ _ h => h) (Or.inl ⟨by rfl, by intro w hS; go_simp⟩) hHeld ?_
                try simp only [Act.put, List.setIfInBounds_toArray, List.set_cons_zero, List.set_cons_succ]
                refine wpAnyH_take (i := 2) (oi := { dst := some 149, op := Op.binOp BinOp.sub 3 (Operand.tmp 148) (Operand.const (Value.int IntKind.i64 1)) 3, type := 3, pos := "law.go:355", after := #[{ on := 1, ground := Ground.data }], guard := none }) (v := .int .i64 ((n3 : Int) - 1)) rfl (by kernel_rfl) (by kernel_rfl) (by kernel_rfl) (fun _ _ _ h => h) (Or.inl ⟨by rfl, by intro w hS; go_simp; exact wrap_i64_id _ (by omega) (by omega)⟩) hHeld ?_
                try simp only [Act.put, List.setIfInBounds_toArray, List.set_cons_zero, List.set_cons_succ]
                refine wpAnyH_take (i := 7) (oi := { dst := some 154, op := Op.binOp BinOp.sub 3 (Operand.tmp 153) (Operand.const (Value.int IntKind.i64 1)) 3, type := 3, pos := "law.go:355", after := #[{ on := 6, ground := Ground.data }], guard := none }) (v := .int .i64 ((n3 : Int) - 1)) rfl (by kernel_rfl) (by kernel_rfl) (by kernel_rfl) (fun _ _ _ h => h) (Or.inl ⟨by rfl, by intro w hS; go_simp; exact wrap_i64_id _ (by omega) (by omega)⟩) hHeld ?_
                try simp only [Act.put, List.setIfInBounds_toArray, List.set_cons_zero, List.set_cons_succ]
                refine wpAnyH_take (i := 4) (oi := { dst := some 151, op := Op.binOp BinOp.quo 3 (Operand.tmp 149) (Operand.tmp 150) 3, type := 3, pos := "law.go:355", after := #[{ on := 2, ground := Ground.data }, { on := 3, ground := Ground.data }], guard := none }) (v := .int .i64 I) rfl (by kernel_rfl) (by kernel_rfl) (by kernel_rfl) (fun _ _ _ h => h) (Or.inl ⟨by rfl, by intro w hS; have hI := HI.out; go_simp; exact wrap_i64_id _ (by omega) (by omega)⟩) hHeld ?_
                try simp only [Act.put, List.setIfInBounds_toArray, List.set_cons_zero, List.set_cons_succ]
                refine wpAnyH_take (i := 9) (oi := { dst := some 156, op := Op.binOp BinOp.quo 3 (Operand.tmp 154) (Operand.tmp 155) 3, type := 3, pos := "law.go:355", after := #[{ on := 7, ground := Ground.data }, { on := 8, ground := Ground.data }], guard := none }) (v := .int .i64 I) rfl (by kernel_rfl) (by kernel_rfl) (by kernel_rfl) (fun _ _ _ h => h) (Or.inl ⟨by rfl, by intro w hS; have hI := HI.out; go_simp; exact wrap_i64_id _ (by omega) (by omega)⟩) hHeld ?_
                try simp only [Act.put, List.setIfInBounds_toArray, List.set_cons_zero, List.set_cons_succ]
                refine wpAnyH_take (i := 10) (oi := { dst := some 157, op := Op.indexAddr 22 (Operand.tmp 152) (Operand.tmp 156), type := 0, pos := "law.go:355", after := #[{ on := 5, ground := Ground.data }, { on := 9, ground := Ground.data }], guard := none }) (v := .pointer (some ⟨gR, I, none⟩)) rfl (by kernel_rfl) (by kernel_rfl) (by kernel_rfl) (fun _ _ _ h => h) (Or.inl ⟨by rfl, by intro w hS; go_simp⟩) hHeld ?_
                try simp only [Act.put, List.setIfInBounds_toArray, List.set_cons_zero, List.set_cons_succ]
                refine wpAnyH_ready (rs := [11]) (by kernel_rfl) (by simp) ?_
                refine (AllReadyH.cons (o := { dst := some 158, op := Op.load 5 (Operand.tmp 157), type := 5, pos := "law.go:355", after := #[{ on := 10, ground := Ground.data }], guard := none }) rfl (fun K hK => ?_) AllReadyH.nil)
                go_simp
                refine hK.out _ _ (hHeld) (fun hHeld2 => ?_)
                clear hK K hHeld
                have hHeld := hHeld2
                clear hHeld2
                try simp only [Act.put, List.setIfInBounds_toArray, List.set_cons_zero, List.set_cons_succ]
                refine wpAnyH_take (i := 12) (oi := { dst := some 159, op := Op.binOp BinOp.xor 5 (Operand.tmp 158) (Operand.const (Value.int IntKind.u8 1)) 5, type := 5, pos := "law.go:355", after := #[{ on := 11, ground := Ground.data }], guard := none }) (v := .int .u8 (bits .xor .u8 xv 1)) rfl (by kernel_rfl) (by kernel_rfl) (by kernel_rfl) (fun _ _ _ h => h) (Or.inl ⟨by rfl, by intro w hS; go_simp⟩) hHeld ?_
                try simp only [Act.put, List.setIfInBounds_toArray, List.set_cons_zero, List.set_cons_succ]
                refine wpAnyH_take (i := 13) (oi := { dst := some 160, op := Op.indexAddr 22 (Operand.tmp 147) (Operand.tmp 151), type := 0, pos := "law.go:355", after := #[{ on := 0, ground := Ground.data }, { on := 4, ground := Ground.data }, { on := 0, ground := Ground.phase }, { on := 1, ground := Ground.phase }, { on := 2, ground := Ground.phase }, { on := 3, ground := Ground.phase }, { on := 4, ground := Ground.phase }, { on := 5, ground := Ground.phase }, { on := 6, ground := Ground.phase }, { on := 7, ground := Ground.phase }, { on := 8, ground := Ground.phase }, { on := 9, ground := Ground.phase }, { on := 10, ground := Ground.phase }, { on := 11, ground := Ground.phase }, { on := 12, ground := Ground.phase }], guard := none }) (v := .pointer (some ⟨gR, I, none⟩)) rfl (by kernel_rfl) (by kernel_rfl) (by kernel_rfl) (fun _ _ _ h => h) (Or.inl ⟨by rfl, by intro w hS; go_simp⟩) hHeld ?_
                try simp only [Act.put, List.setIfInBounds_toArray, List.set_cons_zero, List.set_cons_succ]
                refine wpAnyH_ready (rs := [14]) (by kernel_rfl) (by simp) ?_
                refine (AllReadyH.cons (o := { dst := none, op := Op.store 5 (Operand.tmp 160) (Operand.tmp 159), type := 0, pos := "law.go:355", after := #[{ on := 13, ground := Ground.data }, { on := 12, ground := Ground.data }, { on := 0, ground := Ground.phase }, { on := 1, ground := Ground.phase }, { on := 2, ground := Ground.phase }, { on := 3, ground := Ground.phase }, { on := 4, ground := Ground.phase }, { on := 5, ground := Ground.phase }, { on := 6, ground := Ground.phase }, { on := 7, ground := Ground.phase }, { on := 8, ground := Ground.phase }, { on := 9, ground := Ground.phase }, { on := 10, ground := Ground.phase }, { on := 11, ground := Ground.phase }, { on := 12, ground := Ground.phase }], guard := none }) rfl (fun K hK => ?_) AllReadyH.nil)
                go_simp
                refine hK.out _ _ (dN.sub (fun x hx => .tail _ hx)) (fun hHeld2 => ?_)
                clear hK K hHeld
                have hHeld := hHeld2
                clear hHeld2
                try simp only [Act.put, List.setIfInBounds_toArray, List.set_cons_zero, List.set_cons_succ]
                refine wpAnyH_done (by kernel_rfl) ?_ _
                refine NoPanic.normal ?_
                clear cg fg dH
                have d9 := dN
                clear dN
                have hVl := hVl2
                have hVy := hVy2
                generalize V.set I (bits .xor .u8 xv 1) = V at *
                have rR9 := d9.row (.head _)
                have S9 : Src _ (some ⟨gR, 0, none⟩) (n3 + 100) V := src_rng (rng rR9) (d9.lt (.head _)) (n3 + 100) (by have := hVl.out; omega) (by have := hrl.out; unfold maxLen; omega)
                have KE9 := hid (KDN.out _ V hVl.out hVy.out gR S9)
                clear rR9 S9
                go_wp2_with fail
                refine KE9.out.mono ?_
                rintro e wE ⟨rfl, hbE⟩
                have dE := d9.call hbE
                clear d9
                go_wp2
                go_roundw
                case rel => exact ⟨2, V, by omega, by rfl, hVl, hVy, dE⟩
                case measure => simp [intOf]
              · have ip : ¬ ((0 : Int) < (n3 : Int)) := by omega
                have rR9 := d9.row (.head _)
                have S9 : Src wr (some ⟨gR, 0, none⟩) (n3 + 100) V := src_rng (rng rR9) (d9.lt (.head _)) (n3 + 100) (by have := hVl.out; omega) (by have := hrl.out; unfold maxLen; omega)
                have KE9 := hid (KDN.out wr V hVl.out hVy.out gR S9)
                clear rR9 S9
                go_wp2_with fail
                refine KE9.out.mono ?_
                rintro e wE ⟨rfl, hbE⟩
                have dE := d9.call hbE
                clear d9
                go_wp2
                go_roundw
                case rel => exact ⟨2, V, by omega, by rfl, hVl, hVy, dE⟩
                case measure => simp [intOf]
            · skip
              rw [show ((2 : Nat) : Int) = 2 from rfl]
              by_cases hp : 0 < n3
              · have ip : (0 : Int) < (n3 : Int) := by omega
                obtain ⟨I, hI⟩ : ∃ I, I = (n3 - 1) / 2 := ⟨_, rfl⟩
                have HI := hid (show ((n3 : Int) - 1) / 2 = (I : Int) by omega)
                have iI : (I : Int) < (n3 : Int) + 100 := by omega
                have hIV : I < V.length := by have := hVl.out; omega
                have cg := d9.cell (.head _) (ints_get .u8 V I hIV)
                have fg : wr.frozen? ⟨gR, I, none⟩ = false := frozen_of_row _ _ _ _ _ (d9.row (.head _))
                have dN := d9.drew.updC (L' := [(gR, ints .u8 (V.set I (bits .xor .u8 (V.getD I 0) 1)), 5), (g8, CS, 52)]) (.head _) (by omega) I (.int .u8 (bits .xor .u8 (V.getD I 0) 1)) (by
                  intro x hx
                  simp only [List.mem_cons, List.not_mem_nil, or_false] at hx ⊢
                  rcases hx with rfl | rfl
                  · exact Or.inl (by simp [ints, List.map_set])
                  · exact Or.inr ⟨Or.inr rfl, by show g8 ≠ gR; omega⟩)
                have hVl2 := hid (show (V.set I (bits .xor .u8 (V.getD I 0) 1)).length = n3 + 100 by rw [List.length_set]; exact hVl.out)
                have hVy2 := hid (bys_set hVy.out I _ (xor_bd (V.getD I 0) 1))
                have dH : BK w wr [(g8, CS, 52)] := d9.sub (fun x hx => .tail _ hx)
                clear d9 hI hIV hVl hVy
                generalize V.getD I 0 = xv at *
                go_wp2
                refine wp_region_noPanic ?_
                refine wp_region_held_drew (S := (fun w' => BK w w' [(g8, CS, 52)])) (by kernel_rfl) dH.drew (fun hHeld => ?_)
                refine wpAnyH_take (i := 0) (oi := { dst := some 147, op := Op.move (Operand.tmp 17), type := 22, pos := "law.go:355", after := #[], guard := none }) (v := .slice (some ⟨gR, 0, none⟩) (n3 + 100) (n3 + 100)) rfl (by kernel_rfl) (by kernel_rfl) (by kernel_rfl) (fun _ _ _ h => h) (Or.inl ⟨by rfl, by intro w hS; go_simp⟩) hHeld ?_
                try simp only [Act.put, List.setIfInBounds_toArray, List.set_cons_zero, List.set_cons_succ]
                refine wpAnyH_take (i := 1) (oi := { dst := some 148, op := Op.move (Operand.tmp 18), type := 3, pos := "law.go:355", after := #[], guard := none }) (v := .int .i64 n3) rfl (by kernel_rfl) (by kernel_rfl) (by kernel_rfl) (fun _ _ _ h => h) (Or.inl ⟨by rfl, by intro w hS; go_simp⟩) hHeld ?_
                try simp only [Act.put, List.setIfInBounds_toArray, List.set_cons_zero, List.set_cons_succ]
                refine wpAnyH_take (i := 3) (oi := { dst := some 150, op := Op.move (Operand.tmp 19), type := 3, pos := "law.go:355", after := #[], guard := none }) (v := .int .i64 2) rfl (by kernel_rfl) (by kernel_rfl) (by kernel_rfl) (fun _ _ _ h => h) (Or.inl ⟨by rfl, by intro w hS; go_simp⟩) hHeld ?_
                try simp only [Act.put, List.setIfInBounds_toArray, List.set_cons_zero, List.set_cons_succ]
                refine wpAnyH_take (i := 5) (oi := { dst := some 152, op := Op.move (Operand.tmp 17), type := 22, pos := "law.go:355", after := #[], guard := none }) (v := .slice (some ⟨gR, 0, none⟩) (n3 + 100) (n3 + 100)) rfl (by kernel_rfl) (by kernel_rfl) (by kernel_rfl) (fun _ _ _ h => h) (Or.inl ⟨by rfl, by intro w hS; go_simp⟩) hHeld ?_
                try simp only [Act.put, List.setIfInBounds_toArray, List.set_cons_zero, List.set_cons_succ]
                refine wpAnyH_take (i := 6) (oi := { dst := some 153, op := Op.move (Operand.tmp 18), type := 3, pos := "law.go:355", after := #[], guard := none }) (v := .int .i64 n3) rfl (by kernel_rfl) (by kernel_rfl) (by kernel_rfl) (fun _ _ _ h => h) (Or.inl ⟨by rfl, by intro w hS; go_simp⟩) hHeld ?_
                try simp only [Act.put, List.setIfInBounds_toArray, List.set_cons_zero, List.set_cons_succ]
                refine wpAnyH_take (i := 8) (oi := { dst := some 155, op := Op.move (Operand.tmp 19), type := 3, pos := "law.go:355", after := #[], guard := none }) (v := .int .i64 2) rfl (by kernel_rfl) (by kernel_rfl) (by kernel_rfl) (fun _ _ _ h => h) (Or.inl ⟨by rfl, by intro w hS; go_simp⟩) hHeld ?_
                try simp only [Act.put, List.setIfInBounds_toArray, List.set_cons_zero, List.set_cons_succ]
                refine wpAnyH_take (i := 2) (oi := { dst := some 149, op := Op.binOp BinOp.sub 3 (Operand.tmp 148) (Operand.const (Value.int IntKind.i64 1)) 3, type := 3, pos := "law.go:355", after := #[{ on := 1, ground := Ground.data }], guard := none }) (v := .int .i64 ((n3 : Int) - 1)) rfl (by kernel_rfl) (by kernel_rfl) (by kernel_rfl) (fun _ _ _ h => h) (Or.inl ⟨by rfl, by intro w hS; go_simp; exact wrap_i64_id _ (by omega) (by omega)⟩) hHeld ?_
                try simp only [Act.put, List.setIfInBounds_toArray, List.set_cons_zero, List.set_cons_succ]
                refine wpAnyH_take (i := 7) (oi := { dst := some 154, op := Op.binOp BinOp.sub 3 (Operand.tmp 153) (Operand.const (Value.int IntKind.i64 1)) 3, type := 3, pos := "law.go:355", after := #[{ on := 6, ground := Ground.data }], guard := none }) (v := .int .i64 ((n3 : Int) - 1)) rfl (by kernel_rfl) (by kernel_rfl) (by kernel_rfl) (fun _ _ _ h => h) (Or.inl ⟨by rfl, by intro w hS; go_simp; exact wrap_i64_id _ (by omega) (by omega)⟩) hHeld ?_
                try simp only [Act.put, List.setIfInBounds_toArray, List.set_cons_zero, List.set_cons_succ]
                refine wpAnyH_take (i := 4) (oi := { dst := some 151, op := Op.binOp BinOp.quo 3 (Operand.tmp 149) (Operand.tmp 150) 3, type := 3, pos := "law.go:355", after := #[{ on := 2, ground := Ground.data }, { on := 3, ground := Ground.data }], guard := none }) (v := .int .i64 I) rfl (by kernel_rfl) (by kernel_rfl) (by kernel_rfl) (fun _ _ _ h => h) (Or.inl ⟨by rfl, by intro w hS; go_simp; have hI := HI.out; rw [show ((n3 : Int) - 1).tdiv 2 = (I : Int) by rw [Int.tdiv_eq_ediv_of_nonneg (by omega)]; exact hI]; exact wrap_i64_id _ (by omega) (by omega)⟩) hHeld ?_
                try simp only [Act.put, List.setIfInBounds_toArray, List.set_cons_zero, List.set_cons_succ]
                refine wpAnyH_take (i := 9) (oi := { dst := some 156, op := Op.binOp BinOp.quo 3 (Operand.tmp 154) (Operand.tmp 155) 3, type := 3, pos := "law.go:355", after := #[{ on := 7, ground := Ground.data }, { on := 8, ground := Ground.data }], guard := none }) (v := .int .i64 I) rfl (by kernel_rfl) (by kernel_rfl) (by kernel_rfl) (fun _ _ _ h => h) (Or.inl ⟨by rfl, by intro w hS; go_simp; have hI := HI.out; rw [show ((n3 : Int) - 1).tdiv 2 = (I : Int) by rw [Int.tdiv_eq_ediv_of_nonneg (by omega)]; exact hI]; exact wrap_i64_id _ (by omega) (by omega)⟩) hHeld ?_
                try simp only [Act.put, List.setIfInBounds_toArray, List.set_cons_zero, List.set_cons_succ]
                refine wpAnyH_take (i := 10) (oi := { dst := some 157, op := Op.indexAddr 22 (Operand.tmp 152) (Operand.tmp 156), type := 0, pos := "law.go:355", after := #[{ on := 5, ground := Ground.data }, { on := 9, ground := Ground.data }], guard := none }) (v := .pointer (some ⟨gR, I, none⟩)) rfl (by kernel_rfl) (by kernel_rfl) (by kernel_rfl) (fun _ _ _ h => h) (Or.inl ⟨by rfl, by intro w hS; go_simp⟩) hHeld ?_
                try simp only [Act.put, List.setIfInBounds_toArray, List.set_cons_zero, List.set_cons_succ]
                refine wpAnyH_ready (rs := [11]) (by kernel_rfl) (by simp) ?_
                refine (AllReadyH.cons (o := { dst := some 158, op := Op.load 5 (Operand.tmp 157), type := 5, pos := "law.go:355", after := #[{ on := 10, ground := Ground.data }], guard := none }) rfl (fun K hK => ?_) AllReadyH.nil)
                go_simp
                refine hK.out _ _ (hHeld) (fun hHeld2 => ?_)
                clear hK K hHeld
                have hHeld := hHeld2
                clear hHeld2
                try simp only [Act.put, List.setIfInBounds_toArray, List.set_cons_zero, List.set_cons_succ]
                refine wpAnyH_take (i := 12) (oi := { dst := some 159, op := Op.binOp BinOp.xor 5 (Operand.tmp 158) (Operand.const (Value.int IntKind.u8 1)) 5, type := 5, pos := "law.go:355", after := #[{ on := 11, ground := Ground.data }], guard := none }) (v := .int .u8 (bits .xor .u8 xv 1)) rfl (by kernel_rfl) (by kernel_rfl) (by kernel_rfl) (fun _ _ _ h => h) (Or.inl ⟨by rfl, by intro w hS; go_simp⟩) hHeld ?_
                try simp only [Act.put, List.setIfInBounds_toArray, List.set_cons_zero, List.set_cons_succ]
                refine wpAnyH_take (i := 13) (oi := { dst := some 160, op := Op.indexAddr 22 (Operand.tmp 147) (Operand.tmp 151), type := 0, pos := "law.go:355", after := #[{ on := 0, ground := Ground.data }, { on := 4, ground := Ground.data }, { on := 0, ground := Ground.phase }, { on := 1, ground := Ground.phase }, { on := 2, ground := Ground.phase }, { on := 3, ground := Ground.phase }, { on := 4, ground := Ground.phase }, { on := 5, ground := Ground.phase }, { on := 6, ground := Ground.phase }, { on := 7, ground := Ground.phase }, { on := 8, ground := Ground.phase }, { on := 9, ground := Ground.phase }, { on := 10, ground := Ground.phase }, { on := 11, ground := Ground.phase }, { on := 12, ground := Ground.phase }], guard := none }) (v := .pointer (some ⟨gR, I, none⟩)) rfl (by kernel_rfl) (by kernel_rfl) (by kernel_rfl) (fun _ _ _ h => h) (Or.inl ⟨by rfl, by intro w hS; go_simp⟩) hHeld ?_
                try simp only [Act.put, List.setIfInBounds_toArray, List.set_cons_zero, List.set_cons_succ]
                refine wpAnyH_ready (rs := [14]) (by kernel_rfl) (by simp) ?_
                refine (AllReadyH.cons (o := { dst := none, op := Op.store 5 (Operand.tmp 160) (Operand.tmp 159), type := 0, pos := "law.go:355", after := #[{ on := 13, ground := Ground.data }, { on := 12, ground := Ground.data }, { on := 0, ground := Ground.phase }, { on := 1, ground := Ground.phase }, { on := 2, ground := Ground.phase }, { on := 3, ground := Ground.phase }, { on := 4, ground := Ground.phase }, { on := 5, ground := Ground.phase }, { on := 6, ground := Ground.phase }, { on := 7, ground := Ground.phase }, { on := 8, ground := Ground.phase }, { on := 9, ground := Ground.phase }, { on := 10, ground := Ground.phase }, { on := 11, ground := Ground.phase }, { on := 12, ground := Ground.phase }], guard := none }) rfl (fun K hK => ?_) AllReadyH.nil)
                go_simp
                refine hK.out _ _ (dN.sub (fun x hx => .tail _ hx)) (fun hHeld2 => ?_)
                clear hK K hHeld
                have hHeld := hHeld2
                clear hHeld2
                try simp only [Act.put, List.setIfInBounds_toArray, List.set_cons_zero, List.set_cons_succ]
                refine wpAnyH_done (by kernel_rfl) ?_ _
                refine NoPanic.normal ?_
                clear cg fg dH
                have d9 := dN
                clear dN
                have hVl := hVl2
                have hVy := hVy2
                generalize V.set I (bits .xor .u8 xv 1) = V at *
                have rR9 := d9.row (.head _)
                have S9 : Src _ (some ⟨gR, 0, none⟩) (n3 + 100) V := src_rng (rng rR9) (d9.lt (.head _)) (n3 + 100) (by have := hVl.out; omega) (by have := hrl.out; unfold maxLen; omega)
                have KE9 := hid (KDN.out _ V hVl.out hVy.out gR S9)
                clear rR9 S9
                go_wp2_with fail
                refine KE9.out.mono ?_
                rintro e wE ⟨rfl, hbE⟩
                have dE := d9.call hbE
                clear d9
                go_wp2
                go_roundw
                case rel => exact ⟨3, V, by omega, by rfl, hVl, hVy, dE⟩
                case measure => simp [intOf]
              · have ip : ¬ ((0 : Int) < (n3 : Int)) := by omega
                have rR9 := d9.row (.head _)
                have S9 : Src wr (some ⟨gR, 0, none⟩) (n3 + 100) V := src_rng (rng rR9) (d9.lt (.head _)) (n3 + 100) (by have := hVl.out; omega) (by have := hrl.out; unfold maxLen; omega)
                have KE9 := hid (KDN.out wr V hVl.out hVy.out gR S9)
                clear rR9 S9
                go_wp2_with fail
                refine KE9.out.mono ?_
                rintro e wE ⟨rfl, hbE⟩
                have dE := d9.call hbE
                clear d9
                go_wp2
                go_roundw
                case rel => exact ⟨3, V, by omega, by rfl, hVl, hVy, dE⟩
                case measure => simp [intOf]
          · obtain rfl : q = 3 := by omega
            rw [show ((3 : Nat) : Int) = 3 from rfl]
            go_wp2
            go_roundw
            case rel => exact ⟨k + 1, by omega, by go_num, d9.1⟩
            case measure => simp [intOf]; omega
      | false =>
        have rp := d8.rng (.head _) KPR.out
        go_wp2_with (first
          | refine wpList_load_mid_w (by rfl) 26 _ (by rfl) g8 1 (by rfl) _ _ rp Try.underlying26 rfl (SFL.out _ _) ?_)
        refine (KC.out _ d8.1).mono ?_
        rintro e w2 ⟨a1, e1, a2, e2, rfl, hO2, hQ2, hb2⟩
        have d2 := d8.call hb2
        clear rp
        go_wp2_with (first
          | (refine wpList_new AP.out LZ.out Try.sizeP rfl rfl rfl _ _ rfl rfl (PF (.slice a1 n e1) (.slice a2 m e2)) rfl rfl (LF.out _ _) (OF.out _ _ _ _ _ _) ?_; refine Hid.out ?_))
        refine hid ?_
        have d3 := d2.alloc (PF (.slice a1 n e1) (.slice a2 m e2)) 26
        have b3 : Below w2.heap.size w2 (w2.alloc (.cells (PF (.slice a1 n e1) (.slice a2 m e2)).toArray 26)) := (Below.refl _ _).alloc (Nat.le_refl _) _
        have hO3 := hO2.below b3 (Nat.le_refl _)
        have hQ3 := hQ2.below b3 (Nat.le_refl _)
        have hg89 : g8 < w2.heap.size := d2.lt (.head _)
        have hz3 : w2.heap.size < (w2.alloc (.cells (PF (.slice a1 n e1) (.slice a2 m e2)).toArray 26)).heap.size := by simp
        have hg9w : w.heap.size ≤ w2.heap.size := d2.1.size
        generalize w2.alloc (.cells (PF (.slice a1 n e1) (.slice a2 m e2)).toArray 26) = w3 at *
        generalize w2.heap.size = g9 at *
        have HQB := d8.1.size
        clear hO2 hQ2 b3 d2 d8
        have x1 := d3.cell (.head _) (KV.out (.slice a1 n e1) (.slice a2 m e2))
        have x34 := d3.cell (.head _) (KS34.out (.slice a1 n e1) (.slice a2 m e2))
        have S3 := hO3.srcN
        clear hO3
        go_wp2_with fail
        refine (KR.out _ _ _ S3).mono ?_
        rintro e w4 ⟨rfl, rR, hb4⟩
        have d4 := d3.call hb4
        have hQ4 := hQ3.below hb4 (Nat.le_refl _)
        have hz4 : w3.heap.size < w4.heap.size := (Array.getElem?_eq_some_iff.1 rR).1
        have y1 := d4.cell (.head _) (KV.out (.slice a1 n e1) (.slice a2 m e2))
        have f1 : w4.frozen? ⟨g9, 1, none⟩ = false := frozen_of_row _ _ _ _ _ (d4.row (.head _))
        have hq9 := ownD_ne hQ4 (d4.row (.head _)) (by decide)
        have d5 : BK w w4 [(w3.heap.size, ints .u8 (full p.vs), 5), (g9, PF (.slice a1 n e1) (.slice a2 m e2), 26), (g8, CS, 52)] := ⟨d4.1, fun x hx => by rcases List.mem_cons.1 hx with rfl | hx; exact rR; exact d4.2 x hx⟩
        generalize w3.heap.size = gR at *
        clear d3 d4 x1 x34 S3 rR hQ3
        have d6 := d5.updC (L' := [(g9, PF (.slice (some ⟨gR, 0, none⟩) (n + 100) (n + 100)) (.slice a2 m e2), 26), (gR, ints .u8 (full p.vs), 5), (g8, CS, 52)]) (.tail _ (.head _)) hg9w 1 (.slice (some ⟨gR, 0, none⟩) (n + 100) (n + 100)) (by
          intro x hx
          simp only [List.mem_cons, List.not_mem_nil, or_false] at hx ⊢
          rcases hx with rfl | rfl | rfl
          · exact Or.inl (by rw [PV1.out])
          · exact Or.inr ⟨Or.inl rfl, by show gR ≠ g9; omega⟩
          · exact Or.inr ⟨Or.inr (Or.inr rfl), by show g8 ≠ g9; omega⟩)
        have hQ6 := ownD_setC hQ4 g9 1 (.slice (some ⟨gR, 0, none⟩) (n + 100) (n + 100)) hq9
        have hz6 : (w4.setCell ⟨g9, 1, none⟩ (.slice (some ⟨gR, 0, none⟩) (n + 100) (n + 100))).heap.size = w4.heap.size := by simp [World.setCell]
        clear d5 hQ4
        have HZ6 := hid hz6
        clear hz6
        have i10 : (m : Int) ≤ 140737488351232 := by have := hms.out; omega
        have i11 : (n : Int) ≤ 140737488351232 := by have := hvs.out; omega
        go_wp2_with (first
          | (refine wpList_make_full _ rfl _ _ 24 rfl (w4.setCell ⟨g9, 1, none⟩ (.slice (some ⟨gR, 0, none⟩) (n + 100) (n + 100))).heap.size 43 iD (.agg (ints .u8 zB).toArray) 32 Try.underlying24 HID.out hzD hsD .i64 .i64 _ _ (m + 30) rfl rfl (by push_cast; rfl) (by push_cast; rfl) KL1.out KL2.out (Nat.le_refl _) ?_; intro w7 hO7 hg7; refine Hid.out ?_))
        refine hid ?_
        have hb7 : Below (w4.setCell ⟨g9, 1, none⟩ (.slice (some ⟨gR, 0, none⟩) (n + 100) (n + 100))).heap.size (w4.setCell ⟨g9, 1, none⟩ (.slice (some ⟨gR, 0, none⟩) (n + 100) (n + 100))) w7 := grown_keeps hg7 (fun k hk => by cases hk) (Nat.le_refl _)
        have r7 := made_rowD hO7
        have hQ7 := hQ6.below hb7 (Nat.le_refl _)
        have hqL : ∀ k, ((.slice a2 m e2) : Value).ownBlock = some k → k ≠ (w4.setCell ⟨g9, 1, none⟩ (.slice (some ⟨gR, 0, none⟩) (n + 100) (n + 100))).heap.size := fun k hk => by have := (hQ6.block k hk).2; omega
        have d7 : BK w w7 [((w4.setCell ⟨g9, 1, none⟩ (.slice (some ⟨gR, 0, none⟩) (n + 100) (n + 100))).heap.size, ints .u8 (List.replicate (m + 30) zB).flatten, 43), (g9, PF (.slice (some ⟨gR, 0, none⟩) (n + 100) (n + 100)) (.slice a2 m e2), 26), (gR, ints .u8 (full p.vs), 5), (g8, CS, 52)] := ⟨(d6.call hb7).1, fun x hx => by rcases List.mem_cons.1 hx with rfl | hx; exact r7; exact (d6.call hb7).2 x hx⟩
        have hRL : gR < (w4.setCell ⟨g9, 1, none⟩ (.slice (some ⟨gR, 0, none⟩) (n + 100) (n + 100))).heap.size := by rw [HZ6.out]; omega
        clear hO7 hg7 hb7 r7 d6 hQ6 y1 f1
        rw [HZ6.out] at d7 hqL hRL
        clear HZ6
        generalize w4.heap.size = gL at *
        go_wp2
        go_loopw [13] (fun i wr => ∃ (j : Nat) (D : List (List Int)), j ≤ m + 30 ∧ i = .int .i64 j ∧ Hid (D.length = m + 30) ∧ Hid (∀ d ∈ D, d.length = 32 ∧ Bys d) ∧ BK w wr [(gL, ints .u8 D.flatten, 43), (g9, PF (.slice (some ⟨gR, 0, none⟩) (n + 100) (n + 100)) (.slice a2 m e2), 26), (gR, ints .u8 (full p.vs), 5), (g8, CS, 52)] ∧ OwnD wr w.heap.size (.slice a2 m e2) p.ss) (fun i _ => m + 30 - (intOf i).toNat)
        case atStart => exact ⟨0, _, by omega, rfl, hid (by simp), hid (fun d hd => by rw [List.eq_of_mem_replicate hd]; exact ⟨rfl, pf0_y.bs⟩), d7, own_lowerD hQ7 HQB⟩
        case round =>
          clear d7 hQ7
          obtain ⟨j, D, hj, rfl, hDl, hD, d7, hQ7⟩ := hrel
          by_cases hlt : j < m + 30
          · have i1 : (j : Int) < (m : Int) + 30 := by omega
            have rL := d7.row (.head _)
            by_cases hjm : j < m
            · have i2 : (j : Int) < (m : Int) := by omega
              have TT := hQ7.srcN
              obtain ⟨b2, o2, rfl, hl2, R2⟩ := TT.at (by have := HMM.out; omega)
              have rg := R2 j (by have := HMM.out; omega)
              have dl := TT.dlen j (by have := HMM.out; omega)
              have yd : Bys (p.ss.getD j []) := yp.ss _ (by rw [List.getD_eq_getElem?_getD, List.getElem?_eq_getElem (by have := HMM.out; omega)]; exact List.getElem_mem _)
              have SD := hid (show (Try.prog.info? 43).map (·.size) = some (ints .u8 (p.ss.getD j [])).length by rw [Try.sizeD, ints_len, dl])
              have x34 := d7.cell (.tail _ (.head _)) (KS34.out (.slice (some ⟨gR, 0, none⟩) (n + 100) (n + 100)) (.slice (some ⟨b2, o2, none⟩) m e2))
              have dl2 := hid dl
              have yd2 := hid yd
              clear dl R2 TT yd
              generalize p.ss.getD j [] = dg at *
              go_wp2_with (first
                | refine wpList_load_mid_w (by rfl) 43 _ (by rfl) b2 (o2 + j * 32) (by rfl) _ _ rg Try.underlying43 rfl SD.out ?_
                | (refine wpList_storeD rfl _ _ (by rfl) gL j D dg (by rfl) (by rfl) rL (fun d hd => (hD.out d hd).1) (by have := hDl.out; omega) dl2.out ?_; refine Hid.out ?_))
              refine hid ?_
              have d8 := d7.upd (L' := [(gL, ints .u8 (D.set j dg).flatten, 43), (g9, PF (.slice (some ⟨gR, 0, none⟩) (n + 100) (n + 100)) (.slice (some ⟨b2, o2, none⟩) m e2), 26), (gR, ints .u8 (full p.vs), 5), (g8, CS, 52)]) (.head _) (by omega) (ints .u8 (D.set j dg).flatten) (by
                intro x hx
                simp only [List.mem_cons, List.not_mem_nil, or_false] at hx ⊢
                rcases hx with rfl | rfl | rfl | rfl
                · exact Or.inl rfl
                · exact Or.inr ⟨Or.inr (Or.inl rfl), by show g9 ≠ gL; omega⟩
                · exact Or.inr ⟨Or.inr (Or.inr (Or.inl rfl)), by show gR ≠ gL; omega⟩
                · exact Or.inr ⟨Or.inr (Or.inr (Or.inr rfl)), by show g8 ≠ gL; omega⟩)
              have hQ8 := hQ7.of_heap (fun k hk => setRow_other wr gL k (ints .u8 (D.set j dg).flatten).toArray (hqL k hk))
              clear d7 hQ7 rL rg x34
              go_wp2
              go_roundw
              case rel => exact ⟨j + 1, D.set j dg, by omega, by go_num, hid (by rw [List.length_set]; exact hDl.out), hid (digs_set hD.out j dl2.out yd2.out), d8, hQ8⟩
              case measure => simp [intOf]; omega
            · have i2 : ¬ ((j : Int) < (m : Int)) := by omega
              have BD := hid built_dg
              go_wp2_with (first
                | refine wpList_built (by rfl) 43 _ (by rfl) _ (by rfl) _ (BD.out _) ?_
                | (refine wpList_storeD rfl _ _ (by rfl) gL j D _ (by rfl) (by rfl) rL (fun d hd => (hD.out d hd).1) (by have := hDl.out; omega) (dg1_len _) ?_; refine Hid.out ?_))
              refine hid ?_
              have dl2 := hid (dg1_len ((j : Int) % 256))
              have yd2 := hid (dg1_bys ((j : Int) % 256) (by omega))
              generalize dg1 ((j : Int) % 256) = dg at *
              have d8 := d7.upd (L' := [(gL, ints .u8 (D.set j dg).flatten, 43), (g9, PF (.slice (some ⟨gR, 0, none⟩) (n + 100) (n + 100)) (.slice a2 m e2), 26), (gR, ints .u8 (full p.vs), 5), (g8, CS, 52)]) (.head _) (by omega) (ints .u8 (D.set j dg).flatten) (by
                intro x hx
                simp only [List.mem_cons, List.not_mem_nil, or_false] at hx ⊢
                rcases hx with rfl | rfl | rfl | rfl
                · exact Or.inl rfl
                · exact Or.inr ⟨Or.inr (Or.inl rfl), by show g9 ≠ gL; omega⟩
                · exact Or.inr ⟨Or.inr (Or.inr (Or.inl rfl)), by show gR ≠ gL; omega⟩
                · exact Or.inr ⟨Or.inr (Or.inr (Or.inr rfl)), by show g8 ≠ gL; omega⟩)
              have hQ8 := hQ7.of_heap (fun k hk => setRow_other wr gL k (ints .u8 (D.set j dg).flatten).toArray (hqL k hk))
              clear d7 hQ7 rL
              go_wp2
              go_roundw
              case rel => exact ⟨j + 1, D.set j dg, by omega, by go_num, hid (by rw [List.length_set]; exact hDl.out), hid (digs_set hD.out j dl2.out yd2.out), d8, hQ8⟩
              case measure => simp [intOf]; omega
          · have i1 : ¬ ((j : Int) < (m : Int) + 30) := by omega
            have y34 := d7.cell (.tail _ (.head _)) (KS34.out (.slice (some ⟨gR, 0, none⟩) (n + 100) (n + 100)) (.slice a2 m e2))
            have f34 : wr.frozen? ⟨g9, 34, none⟩ = false := frozen_of_row _ _ _ _ _ (d7.row (.tail _ (.head _)))
            have d9 := d7.updC (L' := [(g9, PF (.slice (some ⟨gR, 0, none⟩) (n + 100) (n + 100)) (.slice (some ⟨gL, 0, none⟩) (m + 30) (m + 30)), 26), (gR, ints .u8 (full p.vs), 5), (gL, ints .u8 D.flatten, 43), (g8, CS, 52)]) (.tail _ (.head _)) hg9w 34 (.slice (some ⟨gL, 0, none⟩) (m + 30) (m + 30)) (by
              intro x hx
              simp only [List.mem_cons, List.not_mem_nil, or_false] at hx ⊢
              rcases hx with rfl | rfl | rfl | rfl
              · exact Or.inl (by rw [PS34.out])
              · exact Or.inr ⟨Or.inr (Or.inr (Or.inl rfl)), by show gR ≠ g9; omega⟩
              · exact Or.inr ⟨Or.inl rfl, by show gL ≠ g9; omega⟩
              · exact Or.inr ⟨Or.inr (Or.inr (Or.inr rfl)), by show g8 ≠ g9; omega⟩)
            have HV0 := hid (show (full p.vs).length = n + 100 by rw [full_len, HNN.out])
            have HY0 := hid (full_bys yp.vs)
            generalize full p.vs = V0 at *
            clear d7 hQ7 hlt hj
            go_wp2
            clear y34 f34 i1
            generalize wr.setCell ⟨g9, 34, none⟩ (.slice (some ⟨gL, 0, none⟩) (m + 30) (m + 30)) = wK at *
            go_loopw [14] (fun i wr => ∃ (q : Nat) (V : List Int) (D : List (List Int)), q ≤ 3 ∧ i = .int .i64 q ∧ Hid (V.length = n + 100) ∧ Hid (Bys V) ∧ Hid (D.length = m + 30) ∧ Hid (∀ d ∈ D, d.length = 32 ∧ Bys d) ∧ BK w wr [(g9, PF (.slice (some ⟨gR, 0, none⟩) (n + 100) (n + 100)) (.slice (some ⟨gL, 0, none⟩) (m + 30) (m + 30)), 26), (gR, ints .u8 V, 5), (gL, ints .u8 D.flatten, 43), (g8, CS, 52)]) (fun i _ => 3 - (intOf i).toNat)
            case atStart => exact ⟨0, V0, D, by omega, rfl, HV0, HY0, hDl, hD, d9⟩
            case round =>
              clear d9 HV0 HY0 hDl hD
              obtain ⟨q, V, D, hq, rfl, hVl, hVy, hDl, hD, d9⟩ := hrel
              by_cases hq3 : q < 3
              · have iq : (q : Int) < 3 := by omega
                go_wp2
                go_loopw [15] (fun i wr => ∃ (j : Nat) (V : List Int), j ≤ n ∧ i = .int .i64 j ∧ Hid (V.length = n + 100) ∧ Hid (Bys V) ∧ BK w wr [(g9, PF (.slice (some ⟨gR, 0, none⟩) (n + 100) (n + 100)) (.slice (some ⟨gL, 0, none⟩) (m + 30) (m + 30)), 26), (gR, ints .u8 V, 5), (gL, ints .u8 D.flatten, 43), (g8, CS, 52)]) (fun i _ => n - (intOf i).toNat)
                case atStart => exact ⟨0, V, by omega, rfl, hVl, hVy, d9⟩
                case round =>
                  clear d9 hVl hVy
                  obtain ⟨j, V, hj, rfl, hVl, hVy, d9⟩ := hrel
                  by_cases hq1 : q = 1
                  · by_cases hjn : j < n
                    · have ij : (j : Int) < (n : Int) := by omega
                      have ij2 : (j : Int) < (n : Int) + 100 := by omega
                      have cg := d9.cell (.tail _ (.head _)) (ints_get .u8 V j (by have := hVl.out; omega))
                      have fg : wr.frozen? ⟨gR, j, none⟩ = false := frozen_of_row _ _ _ _ _ (d9.row (.tail _ (.head _)))
                      have dN := d9.drew.updC (L' := [(g9, PF (.slice (some ⟨gR, 0, none⟩) (n + 100) (n + 100)) (.slice (some ⟨gL, 0, none⟩) (m + 30) (m + 30)), 26), (gR, ints .u8 (V.set j (bits .xor .u8 (V.getD j 0) 90)), 5), (gL, ints .u8 D.flatten, 43), (g8, CS, 52)]) (.tail _ (.head _)) (by omega) j (.int .u8 (bits .xor .u8 (V.getD j 0) 90)) (by
                        intro x hx
                        simp only [List.mem_cons, List.not_mem_nil, or_false] at hx ⊢
                        rcases hx with rfl | rfl | rfl | rfl
                        · exact Or.inr ⟨Or.inl rfl, by show g9 ≠ gR; omega⟩
                        · exact Or.inl (by simp [ints, List.map_set])
                        · exact Or.inr ⟨Or.inr (Or.inr (Or.inl rfl)), by show gL ≠ gR; omega⟩
                        · exact Or.inr ⟨Or.inr (Or.inr (Or.inr rfl)), by show g8 ≠ gR; omega⟩)
                      have HXB := hid (xor_bd (V.getD j 0) 90)
                      have hVl2 := hid (show (V.set j (bits .xor .u8 (V.getD j 0) 90)).length = n + 100 by rw [List.length_set]; exact hVl.out)
                      have hVy2 := hid (bys_set hVy.out j _ HXB.out)
                      have dH : BK w wr [(g9, PF (.slice (some ⟨gR, 0, none⟩) (n + 100) (n + 100)) (.slice (some ⟨gL, 0, none⟩) (m + 30) (m + 30)), 26), (g8, CS, 52)] := d9.sub (fun x hx => by simp only [List.mem_cons, List.not_mem_nil, or_false] at hx; rcases hx with rfl | rfl <;> simp)
                      have hVj := hid hj
                      clear d9
                      subst hq1
                      rw [show ((1 : Nat) : Int) = 1 from rfl]
                      generalize V.getD j 0 = xv at *
                      go_wp2
                      refine wp_region_noPanic ?_
                      refine wp_region_held_drew (S := (fun w' => BK w w' [(g9, PF (.slice (some ⟨gR, 0, none⟩) (n + 100) (n + 100)) (.slice (some ⟨gL, 0, none⟩) (m + 30) (m + 30)), 26), (g8, CS, 52)])) (by kernel_rfl) dH.drew (fun hHeld => ?_)
                      refine wpAnyH_take (i := 0) (oi := { dst := some 90, op := Op.fieldAddr 26 (Operand.tmp 9) 1, type := 0, pos := "law.go:340", after := #[], guard := none }) (v := .pointer (some ⟨g9, 1, none⟩)) rfl (by kernel_rfl) (by kernel_rfl) (by kernel_rfl) (fun _ _ _ h => h) (Or.inl ⟨by rfl, by intro w hS; go_simp⟩) hHeld ?_
                      try simp only [Act.put, List.setIfInBounds_toArray, List.set_cons_zero, List.set_cons_succ]
                      refine wpAnyH_take (i := 2) (oi := { dst := some 92, op := Op.move (Operand.tmp 15), type := 3, pos := "law.go:340", after := #[], guard := none }) (v := .int .i64 j) rfl (by kernel_rfl) (by kernel_rfl) (by kernel_rfl) (fun _ _ _ h => h) (Or.inl ⟨by rfl, by intro w hS; go_simp⟩) hHeld ?_
                      try simp only [Act.put, List.setIfInBounds_toArray, List.set_cons_zero, List.set_cons_succ]
                      refine wpAnyH_take (i := 3) (oi := { dst := some 93, op := Op.fieldAddr 26 (Operand.tmp 9) 1, type := 0, pos := "law.go:340", after := #[], guard := none }) (v := .pointer (some ⟨g9, 1, none⟩)) rfl (by kernel_rfl) (by kernel_rfl) (by kernel_rfl) (fun _ _ _ h => h) (Or.inl ⟨by rfl, by intro w hS; go_simp⟩) hHeld ?_
                      try simp only [Act.put, List.setIfInBounds_toArray, List.set_cons_zero, List.set_cons_succ]
                      refine wpAnyH_take (i := 5) (oi := { dst := some 95, op := Op.move (Operand.tmp 15), type := 3, pos := "law.go:340", after := #[], guard := none }) (v := .int .i64 j) rfl (by kernel_rfl) (by kernel_rfl) (by kernel_rfl) (fun _ _ _ h => h) (Or.inl ⟨by rfl, by intro w hS; go_simp⟩) hHeld ?_
                      try simp only [Act.put, List.setIfInBounds_toArray, List.set_cons_zero, List.set_cons_succ]
                      refine wpAnyH_take (i := 1) (oi := { dst := some 91, op := Op.load 22 (Operand.tmp 90), type := 22, pos := "law.go:340", after := #[{ on := 0, ground := Ground.data }], guard := none }) (v := .slice (some ⟨gR, 0, none⟩) (n + 100) (n + 100)) rfl (by kernel_rfl) (by kernel_rfl) (by kernel_rfl) (fun _ _ _ h => h) (Or.inl ⟨by rfl, by intro w hS; have hc := hS.cell (.head _) (KV.out _ _); go_simp⟩) hHeld ?_
                      try simp only [Act.put, List.setIfInBounds_toArray, List.set_cons_zero, List.set_cons_succ]
                      refine wpAnyH_take (i := 4) (oi := { dst := some 94, op := Op.load 22 (Operand.tmp 93), type := 22, pos := "law.go:340", after := #[{ on := 3, ground := Ground.data }], guard := none }) (v := .slice (some ⟨gR, 0, none⟩) (n + 100) (n + 100)) rfl (by kernel_rfl) (by kernel_rfl) (by kernel_rfl) (fun _ _ _ h => h) (Or.inl ⟨by rfl, by intro w hS; have hc := hS.cell (.head _) (KV.out _ _); go_simp⟩) hHeld ?_
                      try simp only [Act.put, List.setIfInBounds_toArray, List.set_cons_zero, List.set_cons_succ]
                      refine wpAnyH_take (i := 6) (oi := { dst := some 96, op := Op.indexAddr 22 (Operand.tmp 94) (Operand.tmp 95), type := 0, pos := "law.go:340", after := #[{ on := 4, ground := Ground.data }, { on := 5, ground := Ground.data }], guard := none }) (v := .pointer (some ⟨gR, j, none⟩)) rfl (by kernel_rfl) (by kernel_rfl) (by kernel_rfl) (fun _ _ _ h => h) (Or.inl ⟨by rfl, by intro w hS; go_simp⟩) hHeld ?_
                      try simp only [Act.put, List.setIfInBounds_toArray, List.set_cons_zero, List.set_cons_succ]
                      refine wpAnyH_ready (rs := [7]) (by kernel_rfl) (by simp) ?_
                      refine (AllReadyH.cons (o := { dst := some 97, op := Op.load 5 (Operand.tmp 96), type := 5, pos := "law.go:340", after := #[{ on := 6, ground := Ground.data }], guard := none }) rfl (fun K hK => ?_) AllReadyH.nil)
                      go_simp
                      refine hK.out _ _ (hHeld) (fun hHeld2 => ?_)
                      clear hK K hHeld
                      have hHeld := hHeld2
                      clear hHeld2
                      try simp only [Act.put, List.setIfInBounds_toArray, List.set_cons_zero, List.set_cons_succ]
                      refine wpAnyH_take (i := 8) (oi := { dst := some 98, op := Op.binOp BinOp.xor 5 (Operand.tmp 97) (Operand.const (Value.int IntKind.u8 90)) 5, type := 5, pos := "law.go:340", after := #[{ on := 7, ground := Ground.data }], guard := none }) (v := .int .u8 (bits .xor .u8 xv 90)) rfl (by kernel_rfl) (by kernel_rfl) (by kernel_rfl) (fun _ _ _ h => h) (Or.inl ⟨by rfl, by intro w hS; go_simp⟩) hHeld ?_
                      try simp only [Act.put, List.setIfInBounds_toArray, List.set_cons_zero, List.set_cons_succ]
                      refine wpAnyH_take (i := 9) (oi := { dst := some 99, op := Op.indexAddr 22 (Operand.tmp 91) (Operand.tmp 92), type := 0, pos := "law.go:340", after := #[{ on := 1, ground := Ground.data }, { on := 2, ground := Ground.data }, { on := 0, ground := Ground.phase }, { on := 1, ground := Ground.phase }, { on := 2, ground := Ground.phase }, { on := 3, ground := Ground.phase }, { on := 4, ground := Ground.phase }, { on := 5, ground := Ground.phase }, { on := 6, ground := Ground.phase }, { on := 7, ground := Ground.phase }, { on := 8, ground := Ground.phase }], guard := none }) (v := .pointer (some ⟨gR, j, none⟩)) rfl (by kernel_rfl) (by kernel_rfl) (by kernel_rfl) (fun _ _ _ h => h) (Or.inl ⟨by rfl, by intro w hS; go_simp⟩) hHeld ?_
                      try simp only [Act.put, List.setIfInBounds_toArray, List.set_cons_zero, List.set_cons_succ]
                      refine wpAnyH_ready (rs := [10]) (by kernel_rfl) (by simp) ?_
                      refine (AllReadyH.cons (o := { dst := none, op := Op.store 5 (Operand.tmp 99) (Operand.tmp 98), type := 0, pos := "law.go:340", after := #[{ on := 9, ground := Ground.data }, { on := 8, ground := Ground.data }, { on := 0, ground := Ground.phase }, { on := 1, ground := Ground.phase }, { on := 2, ground := Ground.phase }, { on := 3, ground := Ground.phase }, { on := 4, ground := Ground.phase }, { on := 5, ground := Ground.phase }, { on := 6, ground := Ground.phase }, { on := 7, ground := Ground.phase }, { on := 8, ground := Ground.phase }], guard := none }) rfl (fun K hK => ?_) AllReadyH.nil)
                      go_simp
                      refine hK.out _ _ (dN.sub (fun x hx => by simp only [List.mem_cons, List.not_mem_nil, or_false] at hx; rcases hx with rfl | rfl <;> simp)) (fun hHeld2 => ?_)
                      clear hK K hHeld
                      have hHeld := hHeld2
                      clear hHeld2
                      try simp only [Act.put, List.setIfInBounds_toArray, List.set_cons_zero, List.set_cons_succ]
                      refine wpAnyH_done (by kernel_rfl) ?_ _
                      refine NoPanic.normal ?_
                      clear cg fg dH
                      go_wp2
                      go_roundw
                      case rel => exact ⟨j + 1, _, by omega, by go_num, hVl2, hVy2, dN⟩
                      case measure => simp [intOf]; omega
                    · have ij : ¬ ((j : Int) < (n : Int)) := by omega
                      subst hq1
                      rw [show ((1 : Nat) : Int) = 1 from rfl]
                      go_wp2
                      go_loopw [16] (fun i wr => ∃ (j : Nat) (D : List (List Int)), j ≤ m ∧ i = .int .i64 j ∧ Hid (D.length = m + 30) ∧ Hid (∀ d ∈ D, d.length = 32 ∧ Bys d) ∧ BK w wr [(g9, PF (.slice (some ⟨gR, 0, none⟩) (n + 100) (n + 100)) (.slice (some ⟨gL, 0, none⟩) (m + 30) (m + 30)), 26), (gR, ints .u8 V, 5), (gL, ints .u8 D.flatten, 43), (g8, CS, 52)]) (fun i _ => m - (intOf i).toNat)
                      case atStart => exact ⟨0, D, by omega, rfl, hDl, hD, d9⟩
                      case round =>
                        clear d9 hDl hD
                        obtain ⟨j2, D, hj2, rfl, hDl, hD, d9⟩ := hrel
                        have rw9 := d9.row (.head _)
                        have rR9 := d9.row (.tail _ (.head _))
                        have rL9 := d9.row (.tail _ (.tail _ (.head _)))
                        have S9 : Src wr (some ⟨gR, 0, none⟩) (n + 100) V := src_rng (rng rR9) (d9.lt (.tail _ (.head _))) (n + 100) (by have := hVl.out; omega) (by have := hvs.out; unfold maxLen; omega)
                        have T9 : SrcD wr (some ⟨gL, 0, none⟩) (m + 30) D := srcD_row rL9 (fun d hd => (hD.out d hd).1) (m + 30) (by have := hDl.out; omega) (by have := hms.out; unfold maxLen; omega)
                        have KE9 := hid (KEN.out wr V D hVl.out hDl.out hD.out hVy.out gR gL S9 T9)
                        clear rR9 rL9 S9 T9
                        go_wp2_with (first
                          | refine wpList_load_row_w (by rfl) 26 _ (by rfl) _ (by rfl) 26 _ _ _ rw9 Try.underlying26 rfl (SF9.out _ _) ?_)
                        refine KE9.out.mono ?_
                        rintro e wE ⟨rfl, hbE⟩
                        have dE := d9.call hbE
                        clear d9 rw9
                        go_wp2
                        go_roundw
                        case rel => exact ⟨2, V, D, by omega, by rfl, hVl, hVy, hDl, hD, dE⟩
                        case measure => simp [intOf]
                  · have iq1 : ¬ ((q : Int) = 1) := by omega
                    by_cases hq2 : q = 2
                    · subst hq2
                      rw [show ((2 : Nat) : Int) = 2 from rfl]
                      clear iq1
                      go_wp2
                      go_loopw [16] (fun i wr => ∃ (j : Nat) (D : List (List Int)), j ≤ m ∧ i = .int .i64 j ∧ Hid (D.length = m + 30) ∧ Hid (∀ d ∈ D, d.length = 32 ∧ Bys d) ∧ BK w wr [(g9, PF (.slice (some ⟨gR, 0, none⟩) (n + 100) (n + 100)) (.slice (some ⟨gL, 0, none⟩) (m + 30) (m + 30)), 26), (gR, ints .u8 V, 5), (gL, ints .u8 D.flatten, 43), (g8, CS, 52)]) (fun i _ => m - (intOf i).toNat)
                      case atStart => exact ⟨0, D, by omega, rfl, hDl, hD, d9⟩
                      case round =>
                        clear d9 hDl hD
                        obtain ⟨j2, D, hj2, rfl, hDl, hD, d9⟩ := hrel
                        by_cases hjm : j2 < m
                        · have ij : (j2 : Int) < (m : Int) := by omega
                          have ij2 : (j2 : Int) < (m : Int) + 30 := by omega
                          have hd31 : (D.getD j2 []).length = 32 := (hD.out _ (by rw [List.getD_eq_getElem?_getD, List.getElem?_eq_getElem (by have := hDl.out; omega)]; exact List.getElem_mem _)).1
                          have cg := d9.cell (.tail _ (.tail _ (.head _))) ((flat_get D j2 31 (fun d hd => (hD.out d hd).1) (by have := hDl.out; omega) (by omega)).trans (ints_get .u8 (D.getD j2 []) 31 (by omega)))
                          have fg : wr.frozen? ⟨gL, j2 * 32 + 31, none⟩ = false := frozen_of_row _ _ _ _ _ (d9.row (.tail _ (.tail _ (.head _))))
                          have dN := d9.drew.updC (L' := [(g9, PF (.slice (some ⟨gR, 0, none⟩) (n + 100) (n + 100)) (.slice (some ⟨gL, 0, none⟩) (m + 30) (m + 30)), 26), (gR, ints .u8 V, 5), (gL, ints .u8 (D.set j2 ((D.getD j2 []).set 31 (bits .xor .u8 ((D.getD j2 []).getD 31 0) 1))).flatten, 43), (g8, CS, 52)]) (.tail _ (.tail _ (.head _))) (by omega) (j2 * 32 + 31) (.int .u8 (bits .xor .u8 ((D.getD j2 []).getD 31 0) 1)) (by
                            intro x hx
                            simp only [List.mem_cons, List.not_mem_nil, or_false] at hx ⊢
                            rcases hx with rfl | rfl | rfl | rfl
                            · exact Or.inr ⟨Or.inl rfl, by show g9 ≠ gL; omega⟩
                            · exact Or.inr ⟨Or.inr (Or.inl rfl), by show gR ≠ gL; omega⟩
                            · exact Or.inl (by rw [flat_set1 D j2 _ (fun d hd => (hD.out d hd).1) (by have := hDl.out; omega)])
                            · exact Or.inr ⟨Or.inr (Or.inr (Or.inr rfl)), by show g8 ≠ gL; omega⟩)
                          have hDl2 := hid (show (D.set j2 ((D.getD j2 []).set 31 (bits .xor .u8 ((D.getD j2 []).getD 31 0) 1))).length = m + 30 by rw [List.length_set]; exact hDl.out)
                          have hD2 := hid (digs_set hD.out j2 (d := (D.getD j2 []).set 31 (bits .xor .u8 ((D.getD j2 []).getD 31 0) 1)) (by rw [List.length_set]; exact hd31) (bys_set (hD.out _ (by rw [List.getD_eq_getElem?_getD, List.getElem?_eq_getElem (by have := hDl.out; omega)]; exact List.getElem_mem _)).2 31 _ (xor_bd _ _)))
                          have dH : BK w wr [(g9, PF (.slice (some ⟨gR, 0, none⟩) (n + 100) (n + 100)) (.slice (some ⟨gL, 0, none⟩) (m + 30) (m + 30)), 26), (g8, CS, 52)] := d9.sub (fun x hx => by simp only [List.mem_cons, List.not_mem_nil, or_false] at hx; rcases hx with rfl | rfl <;> simp)
                          clear d9 hd31
                          generalize (D.getD j2 []).getD 31 0 = xv at *
                          go_wp2
                          refine wp_region_noPanic ?_
                          refine wp_region_held_drew (S := (fun w' => BK w w' [(g9, PF (.slice (some ⟨gR, 0, none⟩) (n + 100) (n + 100)) (.slice (some ⟨gL, 0, none⟩) (m + 30) (m + 30)), 26), (g8, CS, 52)])) (by kernel_rfl) dH.drew (fun hHeld => ?_)
                          refine wpAnyH_take (i := 0) (oi := { dst := some 109, op := Op.fieldAddr 26 (Operand.tmp 9) 3, type := 0, pos := "law.go:343", after := #[], guard := none }) (v := .pointer (some ⟨g9, 34, none⟩)) rfl (by kernel_rfl) (by kernel_rfl) (by kernel_rfl) (fun _ _ _ h => h) (Or.inl ⟨by rfl, by intro w hS; go_simp⟩) hHeld ?_
                          try simp only [Act.put, List.setIfInBounds_toArray, List.set_cons_zero, List.set_cons_succ]
                          refine wpAnyH_take (i := 2) (oi := { dst := some 111, op := Op.move (Operand.tmp 16), type := 3, pos := "law.go:343", after := #[], guard := none }) (v := .int .i64 j2) rfl (by kernel_rfl) (by kernel_rfl) (by kernel_rfl) (fun _ _ _ h => h) (Or.inl ⟨by rfl, by intro w hS; go_simp⟩) hHeld ?_
                          try simp only [Act.put, List.setIfInBounds_toArray, List.set_cons_zero, List.set_cons_succ]
                          refine wpAnyH_take (i := 3) (oi := { dst := some 112, op := Op.fieldAddr 26 (Operand.tmp 9) 3, type := 0, pos := "law.go:343", after := #[], guard := none }) (v := .pointer (some ⟨g9, 34, none⟩)) rfl (by kernel_rfl) (by kernel_rfl) (by kernel_rfl) (fun _ _ _ h => h) (Or.inl ⟨by rfl, by intro w hS; go_simp⟩) hHeld ?_
                          try simp only [Act.put, List.setIfInBounds_toArray, List.set_cons_zero, List.set_cons_succ]
                          refine wpAnyH_take (i := 5) (oi := { dst := some 114, op := Op.move (Operand.tmp 16), type := 3, pos := "law.go:343", after := #[], guard := none }) (v := .int .i64 j2) rfl (by kernel_rfl) (by kernel_rfl) (by kernel_rfl) (fun _ _ _ h => h) (Or.inl ⟨by rfl, by intro w hS; go_simp⟩) hHeld ?_
                          try simp only [Act.put, List.setIfInBounds_toArray, List.set_cons_zero, List.set_cons_succ]
                          refine wpAnyH_take (i := 1) (oi := { dst := some 110, op := Op.load 24 (Operand.tmp 109), type := 24, pos := "law.go:343", after := #[{ on := 0, ground := Ground.data }], guard := none }) (v := .slice (some ⟨gL, 0, none⟩) (m + 30) (m + 30)) rfl (by kernel_rfl) (by kernel_rfl) (by kernel_rfl) (fun _ _ _ h => h) (Or.inl ⟨by rfl, by intro w hS; have hc := hS.cell (.head _) (KS34.out _ _); go_simp⟩) hHeld ?_
                          try simp only [Act.put, List.setIfInBounds_toArray, List.set_cons_zero, List.set_cons_succ]
                          refine wpAnyH_take (i := 4) (oi := { dst := some 113, op := Op.load 24 (Operand.tmp 112), type := 24, pos := "law.go:343", after := #[{ on := 3, ground := Ground.data }], guard := none }) (v := .slice (some ⟨gL, 0, none⟩) (m + 30) (m + 30)) rfl (by kernel_rfl) (by kernel_rfl) (by kernel_rfl) (fun _ _ _ h => h) (Or.inl ⟨by rfl, by intro w hS; have hc := hS.cell (.head _) (KS34.out _ _); go_simp⟩) hHeld ?_
                          try simp only [Act.put, List.setIfInBounds_toArray, List.set_cons_zero, List.set_cons_succ]
                          refine wpAnyH_take (i := 6) (oi := { dst := some 115, op := Op.indexAddr 24 (Operand.tmp 113) (Operand.tmp 114), type := 0, pos := "law.go:343", after := #[{ on := 4, ground := Ground.data }, { on := 5, ground := Ground.data }], guard := none }) (v := .pointer (some ⟨gL, j2 * 32, none⟩)) rfl (by kernel_rfl) (by kernel_rfl) (by kernel_rfl) (fun _ _ _ h => h) (Or.inl ⟨by rfl, by intro w hS; go_simp⟩) hHeld ?_
                          try simp only [Act.put, List.setIfInBounds_toArray, List.set_cons_zero, List.set_cons_succ]
                          refine wpAnyH_take (i := 10) (oi := { dst := some 119, op := Op.indexAddr 24 (Operand.tmp 110) (Operand.tmp 111), type := 0, pos := "law.go:343", after := #[{ on := 1, ground := Ground.data }, { on := 2, ground := Ground.data }], guard := none }) (v := .pointer (some ⟨gL, j2 * 32, none⟩)) rfl (by kernel_rfl) (by kernel_rfl) (by kernel_rfl) (fun _ _ _ h => h) (Or.inl ⟨by rfl, by intro w hS; go_simp⟩) hHeld ?_
                          try simp only [Act.put, List.setIfInBounds_toArray, List.set_cons_zero, List.set_cons_succ]
                          refine wpAnyH_take (i := 7) (oi := { dst := some 116, op := Op.indexAddr 43 (Operand.tmp 115) (Operand.const (Value.int IntKind.i64 31)), type := 0, pos := "law.go:343", after := #[{ on := 6, ground := Ground.data }], guard := none }) (v := .pointer (some ⟨gL, j2 * 32 + 31, none⟩)) rfl (by kernel_rfl) (by kernel_rfl) (by kernel_rfl) (fun _ _ _ h => h) (Or.inl ⟨by rfl, by intro w hS; go_simp⟩) hHeld ?_
                          try simp only [Act.put, List.setIfInBounds_toArray, List.set_cons_zero, List.set_cons_succ]
                          refine wpAnyH_ready (rs := [8]) (by kernel_rfl) (by simp) ?_
                          refine (AllReadyH.cons (o := { dst := some 117, op := Op.load 5 (Operand.tmp 116), type := 5, pos := "law.go:343", after := #[{ on := 7, ground := Ground.data }], guard := none }) rfl (fun K hK => ?_) AllReadyH.nil)
                          go_simp
                          refine hK.out _ _ (hHeld) (fun hHeld2 => ?_)
                          clear hK K hHeld
                          have hHeld := hHeld2
                          clear hHeld2
                          try simp only [Act.put, List.setIfInBounds_toArray, List.set_cons_zero, List.set_cons_succ]
                          refine wpAnyH_take (i := 9) (oi := { dst := some 118, op := Op.binOp BinOp.xor 5 (Operand.tmp 117) (Operand.const (Value.int IntKind.u8 1)) 5, type := 5, pos := "law.go:343", after := #[{ on := 8, ground := Ground.data }], guard := none }) (v := .int .u8 (bits .xor .u8 xv 1)) rfl (by kernel_rfl) (by kernel_rfl) (by kernel_rfl) (fun _ _ _ h => h) (Or.inl ⟨by rfl, by intro w hS; go_simp⟩) hHeld ?_
                          try simp only [Act.put, List.setIfInBounds_toArray, List.set_cons_zero, List.set_cons_succ]
                          refine wpAnyH_take (i := 11) (oi := { dst := some 120, op := Op.indexAddr 43 (Operand.tmp 119) (Operand.const (Value.int IntKind.i64 31)), type := 0, pos := "law.go:343", after := #[{ on := 10, ground := Ground.data }, { on := 0, ground := Ground.phase }, { on := 1, ground := Ground.phase }, { on := 2, ground := Ground.phase }, { on := 3, ground := Ground.phase }, { on := 4, ground := Ground.phase }, { on := 5, ground := Ground.phase }, { on := 6, ground := Ground.phase }, { on := 7, ground := Ground.phase }, { on := 8, ground := Ground.phase }, { on := 9, ground := Ground.phase }], guard := none }) (v := .pointer (some ⟨gL, j2 * 32 + 31, none⟩)) rfl (by kernel_rfl) (by kernel_rfl) (by kernel_rfl) (fun _ _ _ h => h) (Or.inl ⟨by rfl, by intro w hS; go_simp⟩) hHeld ?_
                          try simp only [Act.put, List.setIfInBounds_toArray, List.set_cons_zero, List.set_cons_succ]
                          refine wpAnyH_ready (rs := [12]) (by kernel_rfl) (by simp) ?_
                          refine (AllReadyH.cons (o := { dst := none, op := Op.store 5 (Operand.tmp 120) (Operand.tmp 118), type := 0, pos := "law.go:343", after := #[{ on := 11, ground := Ground.data }, { on := 9, ground := Ground.data }, { on := 0, ground := Ground.phase }, { on := 1, ground := Ground.phase }, { on := 2, ground := Ground.phase }, { on := 3, ground := Ground.phase }, { on := 4, ground := Ground.phase }, { on := 5, ground := Ground.phase }, { on := 6, ground := Ground.phase }, { on := 7, ground := Ground.phase }, { on := 8, ground := Ground.phase }, { on := 9, ground := Ground.phase }], guard := none }) rfl (fun K hK => ?_) AllReadyH.nil)
                          go_simp
                          refine hK.out _ _ (dN.sub (fun x hx => by simp only [List.mem_cons, List.not_mem_nil, or_false] at hx; rcases hx with rfl | rfl <;> simp)) (fun hHeld2 => ?_)
                          clear hK K hHeld
                          have hHeld := hHeld2
                          clear hHeld2
                          try simp only [Act.put, List.setIfInBounds_toArray, List.set_cons_zero, List.set_cons_succ]
                          refine wpAnyH_done (by kernel_rfl) ?_ _
                          refine NoPanic.normal ?_
                          clear cg fg dH
                          go_wp2
                          go_roundw
                          case rel => exact ⟨j2 + 1, _, by omega, by go_num, hDl2, hD2, dN⟩
                          case measure => simp [intOf]; omega
                        · have ij : ¬ ((j2 : Int) < (m : Int)) := by omega
                          have rw9 := d9.row (.head _)
                          have rR9 := d9.row (.tail _ (.head _))
                          have rL9 := d9.row (.tail _ (.tail _ (.head _)))
                          have S9 : Src wr (some ⟨gR, 0, none⟩) (n + 100) V := src_rng (rng rR9) (d9.lt (.tail _ (.head _))) (n + 100) (by have := hVl.out; omega) (by have := hvs.out; unfold maxLen; omega)
                          have T9 : SrcD wr (some ⟨gL, 0, none⟩) (m + 30) D := srcD_row rL9 (fun d hd => (hD.out d hd).1) (m + 30) (by have := hDl.out; omega) (by have := hms.out; unfold maxLen; omega)
                          have KE9 := hid (KEN.out wr V D hVl.out hDl.out hD.out hVy.out gR gL S9 T9)
                          clear rR9 rL9 S9 T9
                          go_wp2_with (first
                            | refine wpList_load_row_w (by rfl) 26 _ (by rfl) _ (by rfl) 26 _ _ _ rw9 Try.underlying26 rfl (SF9.out _ _) ?_)
                          refine KE9.out.mono ?_
                          rintro e wE ⟨rfl, hbE⟩
                          have dE := d9.call hbE
                          clear d9 rw9
                          go_wp2
                          go_roundw
                          case rel => exact ⟨3, V, D, by omega, by rfl, hVl, hVy, hDl, hD, dE⟩
                          case measure => simp [intOf]
                    · have iq2 : ¬ ((q : Int) = 2) := by omega
                      go_wp2
                      go_loopw [16] (fun i wr => ∃ (j : Nat) (D : List (List Int)), j ≤ m ∧ i = .int .i64 j ∧ Hid (D.length = m + 30) ∧ Hid (∀ d ∈ D, d.length = 32 ∧ Bys d) ∧ BK w wr [(g9, PF (.slice (some ⟨gR, 0, none⟩) (n + 100) (n + 100)) (.slice (some ⟨gL, 0, none⟩) (m + 30) (m + 30)), 26), (gR, ints .u8 V, 5), (gL, ints .u8 D.flatten, 43), (g8, CS, 52)]) (fun i _ => m - (intOf i).toNat)
                      case atStart => exact ⟨0, D, by omega, rfl, hDl, hD, d9⟩
                      case round =>
                        clear d9 hDl hD
                        obtain ⟨j2, D, hj2, rfl, hDl, hD, d9⟩ := hrel
                        have rw9 := d9.row (.head _)
                        have rR9 := d9.row (.tail _ (.head _))
                        have rL9 := d9.row (.tail _ (.tail _ (.head _)))
                        have S9 : Src wr (some ⟨gR, 0, none⟩) (n + 100) V := src_rng (rng rR9) (d9.lt (.tail _ (.head _))) (n + 100) (by have := hVl.out; omega) (by have := hvs.out; unfold maxLen; omega)
                        have T9 : SrcD wr (some ⟨gL, 0, none⟩) (m + 30) D := srcD_row rL9 (fun d hd => (hD.out d hd).1) (m + 30) (by have := hDl.out; omega) (by have := hms.out; unfold maxLen; omega)
                        have KE9 := hid (KEN.out wr V D hVl.out hDl.out hD.out hVy.out gR gL S9 T9)
                        clear rR9 rL9 S9 T9
                        go_wp2_with (first
                          | refine wpList_load_row_w (by rfl) 26 _ (by rfl) _ (by rfl) 26 _ _ _ rw9 Try.underlying26 rfl (SF9.out _ _) ?_)
                        refine KE9.out.mono ?_
                        rintro e wE ⟨rfl, hbE⟩
                        have dE := d9.call hbE
                        clear d9 rw9
                        go_wp2
                        go_roundw
                        case rel => exact ⟨q + 1, V, D, by omega, by go_num, hVl, hVy, hDl, hD, dE⟩
                        case measure => simp [intOf]; omega
              · obtain rfl : q = 3 := by omega
                rw [show ((3 : Nat) : Int) = 3 from rfl]
                have cz := d9.cell (.tail _ (.tail _ (.tail _ (.head _)))) kd.out
                go_wp2
                go_roundw
                case rel => exact ⟨k + 1, by omega, by go_num, d9.1⟩
                case measure => simp [intOf]; omega
    · obtain rfl : k = N := by omega
      go_wp2
      go_ret
      exact ⟨rfl, hB⟩
end Go.Proofs.Ytlhmhpkgdcdjkaa
