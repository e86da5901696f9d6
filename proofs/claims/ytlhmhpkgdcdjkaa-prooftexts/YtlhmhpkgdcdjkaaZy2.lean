import Derived.Test.YtlhmhpkgdcdjkaaZt2
import Derived.Test.YtlhmhpkgdcdjkaaZ12c
namespace Go.Proofs.Ytlhmhpkgdcdjkaa
set_option linter.unusedVariables false
set_option linter.unusedSimpArgs false
open Go.RowKit
attribute [local go_sem ↓] Go.wp_at_zero Go.wp_at_succ

theorem dec_row (w1 : World) {n : Nat} (V : List Int) (h1 : V.length = n + 100) (h4 : Bys V) (gR : Nat) (h5 : Src w1 (some ⟨gR, 0, none⟩) (n + 100) V) (hv : n ≤ 140737488351232) :
    Calls Try.prog 23 #[.slice (some ⟨gR, 0, none⟩) (n + 100) (n + 100), .int .i64 n] w1 fun e w' => e = .returned (.bool true) ∧ Below w1.heap.size w1 w' := by
  have := decoded_any w1 V h4 gR 0 _ h5 (by omega) n (by omega)
  rw [h1] at this
  exact this
set_option maxRecDepth 100000 in
set_option maxHeartbeats 16000000 in
theorem texts_d (w : World) (N : Nat) (sp : Option Addr) (cap : Nat) (hN : N ≤ 9223372036854775807) (hX : ∀ j, j < N → ∃ b o cs, sp = some ⟨b, o, none⟩ ∧ b < w.heap.size ∧ w.rangeAt b (o + j * 37) cs ∧ TxIn w cs) :
    Calls Try.prog 15 #[.slice sp N cap, .bool false, .bool true] w fun e w' => e = .returned (.bool true) ∧ Below w.heap.size w w' := by
  have AT := hid allocTx
  have AP := hid allocPf
  have LZ := hid (show (pfC pf0 (.slice none 0 0) (.slice none 0 0)).length = 35 from rfl)
  have LT := hid (show (txC false pf0 (.slice none 0 0) (.slice none 0 0) (.slice none 0 0)).length = 37 from rfl)
  have iN : (N : Int) ≤ 9223372036854775807 := by omega
  go_enter Try.func15, Try.ntmps15
  go_wp2
  go_loopw [7] (fun i wr => ∃ k : Nat, k ≤ N ∧ i = .int .i64 k ∧ Below w.heap.size w wr) (fun i _ => N - (intOf i).toNat)
  case atStart => exact ⟨0, by omega, rfl, Below.refl _ _⟩
  case round =>
    obtain ⟨k, hk, rfl, hB⟩ := hrel
    by_cases hlt : k < N
    · have i1 : (k : Int) < (N : Int) := by omega
      obtain ⟨b, o, cs, rfl, hbw, hrg, hTx⟩ := hX k hlt
      obtain ⟨d, p, r, s1, s2, s3, c1, c2, c3, rfl, ok, yp, hS, hT, hv, hs, yr, hR, hrl⟩ := hTx
      have rg := rng_below hrg hB hbw
      have STx := hid (show (Try.prog.info? 52).map (·.size) = some (txC d p (.slice s1 p.vs.length c1) (.slice s2 p.ss.length c2) (.slice s3 r.length c3)).length by rw [Try.sizeTx, txC_len ok])
      have LTx := hid (txC_len ok d (.slice s1 p.vs.length c1) (.slice s2 p.ss.length c2) (.slice s3 r.length c3))
      have OTx := hid (txC_one (p := p) d s1 s2 s3 p.vs.length c1 p.ss.length c2 r.length c3)
      have kd := hid (txC_d d p (.slice s1 p.vs.length c1) (.slice s2 p.ss.length c2) (.slice s3 r.length c3))
      have KPR := hid (fun j x hx => txC_p ok d (.slice s1 p.vs.length c1) (.slice s2 p.ss.length c2) (.slice s3 r.length c3) j x hx)
      have kr := hid (txC_r ok d (.slice s1 p.vs.length c1) (.slice s2 p.ss.length c2) (.slice s3 r.length c3))
      have SF9 := hid (fun v s => show (Try.prog.info? 26).map (·.size) = some (pfC p v s).toArray.size by rw [Try.sizeP, List.size_toArray, pfC_len ok])
      have SFL := hid (fun v s => show (Try.prog.info? 26).map (·.size) = some (pfC p v s).length by rw [Try.sizeP, pfC_len ok])
      have LF := hid (fun v s => pfC_len ok v s)
      have OF := hid (fun a b c d e f => pfC_one p (.slice a b c) (.slice d e f) rfl rfl)
      have KV := hid (fun v s => pfC_v p v s)
      have KS34 := hid (fun v s => pfC_s ok v s)
      have PV1 := hid (fun v s v' => show (pfC p v s).set 1 v' = pfC p v' s from rfl)
      have PS34 := hid (fun v s s' => pfC_set ok v s s')
      have KC := hid (fun w1 (hb : Below w.heap.size w w1) => copyProof_any w1 p ok s1 s2 c1 c2 (hS.below hb (Nat.le_refl _)) (hT.below hb (Nat.le_refl _)) (by omega) (by omega))
      have KR := hid (fun w1 s c (h : Src w1 s c p.vs) => roomy_any w1 p.vs s c h hv)
      have KEN := hid (fun w1 (V : List Int) (D : List (List Int)) (h1 : V.length = p.vs.length + 100) (h2 : D.length = p.ss.length + 30) (h3 : ∀ d ∈ D, d.length = 32 ∧ Bys d) (h4 : Bys V) gR gL (h5 : Src w1 (some ⟨gR, 0, none⟩) (p.vs.length + 100) V) (h6 : SrcD w1 (some ⟨gL, 0, none⟩) (p.ss.length + 30) D) => enc_row (p := p) w1 ok yp V D h1 h2 h3 h4 gR gL h5 h6 hv hs)
      obtain ⟨iD, hiD, hzD, hsD, hyD⟩ := infoDz
      have HID := hid hiD
      clear hiD
      have KL1 := hid (show iD.bytes * (p.ss.length + 30) ≤ 281474976710656 by rw [hyD]; omega)
      have KL2 := hid (show p.ss.length + 30 ≤ maxLen by unfold maxLen; omega)
      have hms : p.ss.length ≤ 4398046510976 := by omega
      have hvs := hv
      have KRR := hid (fun w1 (h : Below w.heap.size w w1) => roomy_any w1 r s3 c3 (hR.below h (Nat.le_refl _)) hrl)
      have KDN := hid (fun w1 (V : List Int) (h1 : V.length = r.length + 100) (h4 : Bys V) gR (h5 : Src w1 (some ⟨gR, 0, none⟩) (r.length + 100) V) => dec_row w1 V h1 h4 gR h5 hrl)
      generalize hCS : txC d p (.slice s1 p.vs.length c1) (.slice s2 p.ss.length c2) (.slice s3 r.length c3) = CS at *
      clear hCS
      generalize hnn : p.vs.length = n at *
      generalize hmm : p.ss.length = m at *
      have HNN := hid hnn
      have HMM := hid hmm
      clear hnn hmm hv hs
      generalize hr3 : r.length = n3 at *
      have HR3 := hid hr3
      clear hr3
      replace hvs := hid hvs
      replace hms := hid hms
      replace hrl := hid hrl
      generalize pfC p = PF at *
      go_wp2_with (first
        | refine wpList_load_mid_w (by rfl) 52 _ (by rfl) b (o + k * 37) (by rfl) _ _ rg Try.underlying52 rfl STx.out ?_
        | (refine wpList_new AT.out LT.out Try.sizeTx rfl rfl rfl _ _ rfl rfl CS rfl rfl LTx.out OTx.out ?_; refine Hid.out ?_))
      refine hid ?_
      have d8 : BK w (wr.alloc (.cells CS.toArray 52)) [(wr.heap.size, CS, 52)] := ⟨hB.alloc hB.size _, fun x hx => by simp only [List.mem_cons, List.not_mem_nil, or_false] at hx; subst hx; exact hnew wr _⟩
      have hg8 : w.heap.size ≤ wr.heap.size := hB.size
      generalize wr.alloc (.cells CS.toArray 52) = w1 at *
      generalize wr.heap.size = g8 at *
      have c8 := d8.cell (.head _) kd.out
      cases d with
      | true =>
        have c36 := d8.cell (.head _) kr.out
        go_wp2_with fail
        refine (KRR.out _ d8.1).mono ?_
        rintro e w2 ⟨rfl, rR, hb2⟩
        have d2 := d8.call hb2
        have d3 : BK w w2 [(w1.heap.size, ints .u8 (full r), 5), (g8, CS, 52)] := ⟨d2.1, fun x hx => by rcases List.mem_cons.1 hx with rfl | hx; exact rR; exact d2.2 x hx⟩
        have hg8R : g8 < w1.heap.size := d8.lt (.head _)
        have hwR : w.heap.size ≤ w1.heap.size := d8.1.size
        have c37 := d3.cell (.tail _ (.head _)) kr.out
        have HV0 := hid (show (full r).length = n3 + 100 by rw [full_len, HR3.out])
        have HY0 := hid (full_bys yr)
        generalize full r = V0 at *
        generalize w1.heap.size = gR at *
        clear rR d2 d8 c36
        have i3 : (n3 : Int) ≤ 140737488351232 := by have := hrl.out; have := HR3.out; omega
        go_wp2
        clear c37
        go_loopw [19] (fun i wr => ∃ (q : Nat) (V : List Int), q ≤ 3 ∧ i = .int .i64 q ∧ Hid (V.length = n3 + 100) ∧ Hid (Bys V) ∧ BK w wr [(gR, ints .u8 V, 5), (g8, CS, 52)]) (fun i _ => 3 - (intOf i).toNat)
        case atStart => exact ⟨0, V0, by omega, rfl, HV0, HY0, d3⟩
        case round =>
          clear d3 HV0 HY0
          obtain ⟨q, V, hq, rfl, hVl, hVy, d9⟩ := hrel
          by_cases hq3 : q < 3
          · rcases (show q = 0 ∨ q = 1 ∨ q = 2 by omega) with rfl | rfl | rfl
            · rw [show ((0 : Nat) : Int) = 0 from rfl]
              have rR9 := d9.row (.head _)
              have S9 : Src wr (some ⟨gR, 0, none⟩) (n3 + 100) V := src_rng (rng rR9) (d9.lt (.head _)) (n3 + 100) (by have := hVl.out; omega) (by have := hrl.out; unfold maxLen; omega)
              have KE9 := hid (KDN.out wr V hVl.out hVy.out gR S9)
              clear rR9 S9
              go_wp2_with fail
              refine KE9.out.mono ?_
              rintro e wE ⟨rfl, hbE⟩
              have dE := d9.call hbE
              clear d9
              go_wp2
              go_roundw
              case rel => exact ⟨1, V, by omega, by rfl, hVl, hVy, dE⟩
              case measure => simp [intOf]
            · skip
              rw [show ((1 : Nat) : Int) = 1 from rfl]
              by_cases hp : 0 < n3
              · have ip : (0 : Int) < (n3 : Int) := by omega
                obtain ⟨I, hI⟩ : ∃ I, I = n3 - 1 := ⟨_, rfl⟩
                have HI := hid (show (n3 : Int) - 1 = (I : Int) by omega)
                have iI : (I : Int) < (n3 : Int) + 100 := by omega
                have hIV : I < V.length := by have := hVl.out; omega
                have cg := d9.cell (.head _) (ints_get .u8 V I hIV)
                have fg : wr.frozen? ⟨gR, I, none⟩ = false := frozen_of_row _ _ _ _ _ (d9.row (.head _))
                have dN := d9.drew.updC (L' := [(gR, ints .u8 (V.set I (bits .xor .u8 (V.getD I 0) 1)), 5), (g8, CS, 52)]) (.head _) (by omega) I (.int .u8 (bits .xor .u8 (V.getD I 0) 1)) (by
                  intro x hx
                  simp only [List.mem_cons, List.not_mem_nil, or_false] at hx ⊢
                  rcases hx with rfl | rfl
                  · exact Or.inl (by simp [ints, List.map_set])
                  · exact Or.inr ⟨Or.inr rfl, by show g8 ≠ gR; omega⟩)
                have hVl2 := hid (show (V.set I (bits .xor .u8 (V.getD I 0) 1)).length = n3 + 100 by rw [List.length_set]; exact hVl.out)
                have hVy2 := hid (bys_set hVy.out I _ (xor_bd (V.getD I 0) 1))
                have dH : BK w wr [(g8, CS, 52)] := d9.sub (fun x hx => .tail _ hx)
                clear d9 hI hIV hVl hVy
                generalize V.getD I 0 = xv at *
                go_wp2
                refine wp_region_noPanic ?_
                refine wp_region_held_drew (S := (fun w' => BK w w' [(g8, CS, 52)])) (by kernel_rfl) dH.drew (fun hHeld => ?_)
                refine wpAnyH_take (i := 0) (oi := { dst := some 147, op := Op.move (Operand.tmp 17), type := 22, pos := "law.go:355", after := #[], guard := none }) (v := .slice (some ⟨gR, 0, none⟩) (n3 + 100) (n3 + 100)) rfl (by kernel_rfl) (by kernel_rfl) (by kernel_rfl) (fun _ _ _ h => h) (Or.inl ⟨by rfl, by intro w hS; go_simp⟩) hHeld ?_
                try simp only [Act.put, List.setIfInBounds_toArray, List.set_cons_zero, List.set_cons_succ]
                refine wpAnyH_take (i := 1) (oi := { dst := some 148, op := Op.move (Operand.tmp 18), type := 3, pos := "law.go:355", after := #[], guard := none }) (v := .int .i64 n3) rfl (by kernel_rfl) (by kernel_rfl) (by kernel_rfl) (fun _ _ _ h => h) (Or.inl ⟨by rfl, by intro w hS; go_simp⟩) hHeld ?_
                try simp only [Act.put, List.setIfInBounds_toArray, List.set_cons_zero, List.set_cons_succ]
                refine wpAnyH_take (i := 3) (oi := { dst := some 150, op := Op.move (Operand.tmp 19), type := 3, pos := "law.go:355", after := #[], guard := none }) (v := .int .i64 1) rfl (by kernel_rfl) (by kernel_rfl) (by kernel_rfl) (fun _ _ _ h => h) (Or.inl ⟨by rfl, by intro w hS; go_simp⟩) hHeld ?_
                try simp only [Act.put, List.setIfInBounds_toArray, List.set_cons_zero, List.set_cons_succ]
                refine wpAnyH_take (i := 5) (oi := { dst := some 152, op := Op.move (Operand.tmp 17), type := 22, pos := "law.go:355", after := #[], guard := none }) (v := .slice (some ⟨gR, 0, none⟩) (n3 + 100) (n3 + 100)) rfl (by kernel_rfl) (by kernel_rfl) (by kernel_rfl) (fun _ _ _ h => h) (Or.inl ⟨by rfl, by intro w hS; go_simp⟩) hHeld ?_
                try simp only [Act.put, List.setIfInBounds_toArray, List.set_cons_zero, List.set_cons_succ]
                refine wpAnyH_take (i := 6) (oi := { dst := some 153, op := Op.move (Operand.tmp 18), type := 3, pos := "law.go:355", after := #[], guard := none }) (v := .int .i64 n3) rfl (by kernel_rfl) (by kernel_rfl) (by kernel_rfl) (fun _ _ _ h => h) (Or.inl ⟨by rfl, by intro w hS; go_simp⟩) hHeld ?_
                try simp only [Act.put, List.setIfInBounds_toArray, List.set_cons_zero, List.set_cons_succ]
                refine wpAnyH_take (i := 8) (oi := { dst := some 155, op := Op.move (Operand.tmp 19), type := 3, pos := "law.go:355", after := #[], guard := none }) (v := .int .i64 1) rfl (by kernel_rfl) (by kernel_rfl) (by kernel_rfl) (fun _ _ _ h => h) (Or.inl ⟨by rfl, by intro w hS; go_simp⟩) hHeld ?_
                try simp only [Act.put, List.setIfInBounds_toArray, List.set_cons_zero, List.set_cons_succ]
                refine wpAnyH_take (i := 2) (oi := { dst := some 149, op := Op.binOp BinOp.sub 3 (Operand.tmp 148) (Operand.const (Value.int IntKind.i64 1)) 3, type := 3, pos := "law.go:355", after := #[{ on := 1, ground := Ground.data }], guard := none }) (v := .int .i64 ((n3 : Int) - 1)) rfl (by kernel_rfl) (by kernel_rfl) (by kernel_rfl) (fun _ _ _ h => h) (Or.inl ⟨by rfl, by intro w hS; go_simp; exact wrap_i64_id _ (by omega) (by omega)⟩) hHeld ?_
                try simp only [Act.put, List.setIfInBounds_toArray, List.set_cons_zero, List.set_cons_succ]
                refine wpAnyH_take (i := 7) (oi := { dst := some 154, op := Op.binOp BinOp.sub 3 (Operand.tmp 153) (Operand.const (Value.int IntKind.i64 1)) 3, type := 3, pos := "law.go:355", after := #[{ on := 6, ground := Ground.data }], guard := none }) (v := .int .i64 ((n3 : Int) - 1)) rfl (by kernel_rfl) (by kernel_rfl) (by kernel_rfl) (fun _ _ _ h => h) (Or.inl ⟨by rfl, by intro w hS; go_simp; exact wrap_i64_id _ (by omega) (by omega)⟩) hHeld ?_
                try simp only [Act.put, List.setIfInBounds_toArray, List.set_cons_zero, List.set_cons_succ]
                refine wpAnyH_take (i := 4) (oi := { dst := some 151, op := Op.binOp BinOp.quo 3 (Operand.tmp 149) (Operand.tmp 150) 3, type := 3, pos := "law.go:355", after := #[{ on := 2, ground := Ground.data }, { on := 3, ground := Ground.data }], guard := none }) (v := .int .i64 I) rfl (by kernel_rfl) (by kernel_rfl) (by kernel_rfl) (fun _ _ _ h => h) (Or.inl ⟨by rfl, by intro w hS; have hI := HI.out; go_simp; exact wrap_i64_id _ (by omega) (by omega)⟩) hHeld ?_
                try simp only [Act.put, List.setIfInBounds_toArray, List.set_cons_zero, List.set_cons_succ]
                refine wpAnyH_take (i := 9) (oi := { dst := some 156, op := Op.binOp BinOp.quo 3 (Operand.tmp 154) (Operand.tmp 155) 3, type := 3, pos := "law.go:355", after := #[{ on := 7, ground := Ground.data }, { on := 8, ground := Ground.data }], guard := none }) (v := .int .i64 I) rfl (by kernel_rfl) (by kernel_rfl) (by kernel_rfl) (fun _ _ _ h => h) (Or.inl ⟨by rfl, by intro w hS; have hI := HI.out; go_simp; exact wrap_i64_id _ (by omega) (by omega)⟩) hHeld ?_
                try simp only [Act.put, List.setIfInBounds_toArray, List.set_cons_zero, List.set_cons_succ]
                refine wpAnyH_take (i := 10) (oi := { dst := some 157, op := Op.indexAddr 22 (Operand.tmp 152) (Operand.tmp 156), type := 0, pos := "law.go:355", after := #[{ on := 5, ground := Ground.data }, { on := 9, ground := Ground.data }], guard := none }) (v := .pointer (some ⟨gR, I, none⟩)) rfl (by kernel_rfl) (by kernel_rfl) (by kernel_rfl) (fun _ _ _ h => h) (Or.inl ⟨by rfl, by intro w hS; go_simp⟩) hHeld ?_
                try simp only [Act.put, List.setIfInBounds_toArray, List.set_cons_zero, List.set_cons_succ]
                refine wpAnyH_ready (rs := [11]) (by kernel_rfl) (by simp) ?_
                refine (AllReadyH.cons (o := { dst := some 158, op := Op.load 5 (Operand.tmp 157), type := 5, pos := "law.go:355", after := #[{ on := 10, ground := Ground.data }], guard := none }) rfl (fun K hK => ?_) AllReadyH.nil)
                go_simp
                refine hK.out _ _ (hHeld) (fun hHeld2 => ?_)
                clear hK K hHeld
                have hHeld := hHeld2
                clear hHeld2
                try simp only [Act.put, List.setIfInBounds_toArray, List.set_cons_zero, List.set_cons_succ]
                refine wpAnyH_take (i := 12) (oi := { dst := some 159, op := Op.binOp BinOp.xor 5 (Operand.tmp 158) (Operand.const (Value.int IntKind.u8 1)) 5, type := 5, pos := "law.go:355", after := #[{ on := 11, ground := Ground.data }], guard := none }) (v := .int .u8 (bits .xor .u8 xv 1)) rfl (by kernel_rfl) (by kernel_rfl) (by kernel_rfl) (fun _ _ _ h => h) (Or.inl ⟨by rfl, by intro w hS; go_simp⟩) hHeld ?_
                try simp only [Act.put, List.setIfInBounds_toArray, List.set_cons_zero, List.set_cons_succ]
                refine wpAnyH_take (i := 13) (oi := { dst := some 160, op := Op.indexAddr 22 (Operand.tmp 147) (Operand.tmp 151), type := 0, pos := "law.go:355", after := #[{ on := 0, ground := Ground.data }, { on := 4, ground := Ground.data }, { on := 0, ground := Ground.phase }, { on := 1, ground := Ground.phase }, { on := 2, ground := Ground.phase }, { on := 3, ground := Ground.phase }, { on := 4, ground := Ground.phase }, { on := 5, ground := Ground.phase }, { on := 6, ground := Ground.phase }, { on := 7, ground := Ground.phase }, { on := 8, ground := Ground.phase }, { on := 9, ground := Ground.phase }, { on := 10, ground := Ground.phase }, { on := 11, ground := Ground.phase }, { on := 12, ground := Ground.phase }], guard := none }) (v := .pointer (some ⟨gR, I, none⟩)) rfl (by kernel_rfl) (by kernel_rfl) (by kernel_rfl) (fun _ _ _ h => h) (Or.inl ⟨by rfl, by intro w hS; go_simp⟩) hHeld ?_
                try simp only [Act.put, List.setIfInBounds_toArray, List.set_cons_zero, List.set_cons_succ]
                refine wpAnyH_ready (rs := [14]) (by kernel_rfl) (by simp) ?_
                refine (AllReadyH.cons (o := { dst := none, op := Op.store 5 (Operand.tmp 160) (Operand.tmp 159), type := 0, pos := "law.go:355", after := #[{ on := 13, ground := Ground.data }, { on := 12, ground := Ground.data }, { on := 0, ground := Ground.phase }, { on := 1, ground := Ground.phase }, { on := 2, ground := Ground.phase }, { on := 3, ground := Ground.phase }, { on := 4, ground := Ground.phase }, { on := 5, ground := Ground.phase }, { on := 6, ground := Ground.phase }, { on := 7, ground := Ground.phase }, { on := 8, ground := Ground.phase }, { on := 9, ground := Ground.phase }, { on := 10, ground := Ground.phase }, { on := 11, ground := Ground.phase }, { on := 12, ground := Ground.phase }], guard := none }) rfl (fun K hK => ?_) AllReadyH.nil)
                go_simp
                refine hK.out _ _ (dN.sub (fun x hx => .tail _ hx)) (fun hHeld2 => ?_)
                clear hK K hHeld
                have hHeld := hHeld2
                clear hHeld2
                try simp only [Act.put, List.setIfInBounds_toArray, List.set_cons_zero, List.set_cons_succ]
                refine wpAnyH_done (by kernel_rfl) ?_ _
                refine NoPanic.normal ?_
                clear cg fg dH
                have d9 := dN
                clear dN
                have hVl := hVl2
                have hVy := hVy2
                generalize V.set I (bits .xor .u8 xv 1) = V at *
                have rR9 := d9.row (.head _)
                have S9 : Src _ (some ⟨gR, 0, none⟩) (n3 + 100) V := src_rng (rng rR9) (d9.lt (.head _)) (n3 + 100) (by have := hVl.out; omega) (by have := hrl.out; unfold maxLen; omega)
                have KE9 := hid (KDN.out _ V hVl.out hVy.out gR S9)
                clear rR9 S9
                go_wp2_with fail
                refine KE9.out.mono ?_
                rintro e wE ⟨rfl, hbE⟩
                have dE := d9.call hbE
                clear d9
                go_wp2
                go_roundw
                case rel => exact ⟨2, V, by omega, by rfl, hVl, hVy, dE⟩
                case measure => simp [intOf]
              · have ip : ¬ ((0 : Int) < (n3 : Int)) := by omega
                have rR9 := d9.row (.head _)
                have S9 : Src wr (some ⟨gR, 0, none⟩) (n3 + 100) V := src_rng (rng rR9) (d9.lt (.head _)) (n3 + 100) (by have := hVl.out; omega) (by have := hrl.out; unfold maxLen; omega)
                have KE9 := hid (KDN.out wr V hVl.out hVy.out gR S9)
                clear rR9 S9
                go_wp2_with fail
                refine KE9.out.mono ?_
                rintro e wE ⟨rfl, hbE⟩
                have dE := d9.call hbE
                clear d9
                go_wp2
                go_roundw
                case rel => exact ⟨2, V, by omega, by rfl, hVl, hVy, dE⟩
                case measure => simp [intOf]
            · skip
              rw [show ((2 : Nat) : Int) = 2 from rfl]
              by_cases hp : 0 < n3
              · have ip : (0 : Int) < (n3 : Int) := by omega
                obtain ⟨I, hI⟩ : ∃ I, I = (n3 - 1) / 2 := ⟨_, rfl⟩
                have HI := hid (show ((n3 : Int) - 1) / 2 = (I : Int) by omega)
                have iI : (I : Int) < (n3 : Int) + 100 := by omega
                have hIV : I < V.length := by have := hVl.out; omega
                have cg := d9.cell (.head _) (ints_get .u8 V I hIV)
                have fg : wr.frozen? ⟨gR, I, none⟩ = false := frozen_of_row _ _ _ _ _ (d9.row (.head _))
                have dN := d9.drew.updC (L' := [(gR, ints .u8 (V.set I (bits .xor .u8 (V.getD I 0) 1)), 5), (g8, CS, 52)]) (.head _) (by omega) I (.int .u8 (bits .xor .u8 (V.getD I 0) 1)) (by
                  intro x hx
                  simp only [List.mem_cons, List.not_mem_nil, or_false] at hx ⊢
                  rcases hx with rfl | rfl
                  · exact Or.inl (by simp [ints, List.map_set])
                  · exact Or.inr ⟨Or.inr rfl, by show g8 ≠ gR; omega⟩)
                have hVl2 := hid (show (V.set I (bits .xor .u8 (V.getD I 0) 1)).length = n3 + 100 by rw [List.length_set]; exact hVl.out)
                have hVy2 := hid (bys_set hVy.out I _ (xor_bd (V.getD I 0) 1))
                have dH : BK w wr [(g8, CS, 52)] := d9.sub (fun x hx => .tail _ hx)
                clear d9 hI hIV hVl hVy
                generalize V.getD I 0 = xv at *
                go_wp2
                refine wp_region_noPanic ?_
                refine wp_region_held_drew (S := (fun w' => BK w w' [(g8, CS, 52)])) (by kernel_rfl) dH.drew (fun hHeld => ?_)
                refine wpAnyH_take (i := 0) (oi := { dst := some 147, op := Op.move (Operand.tmp 17), type := 22, pos := "law.go:355", after := #[], guard := none }) (v := .slice (some ⟨gR, 0, none⟩) (n3 + 100) (n3 + 100)) rfl (by kernel_rfl) (by kernel_rfl) (by kernel_rfl) (fun _ _ _ h => h) (Or.inl ⟨by rfl, by intro w hS; go_simp⟩) hHeld ?_
                try simp only [Act.put, List.setIfInBounds_toArray, List.set_cons_zero, List.set_cons_succ]
                refine wpAnyH_take (i := 1) (oi := { dst := some 148, op := Op.move (Operand.tmp 18), type := 3, pos := "law.go:355", after := #[], guard := none }) (v := .int .i64 n3) rfl (by kernel_rfl) (by kernel_rfl) (by kernel_rfl) (fun _ _ _ h => h) (Or.inl ⟨by rfl, by intro w hS; go_simp⟩) hHeld ?_
                try simp only [Act.put, List.setIfInBounds_toArray, List.set_cons_zero, List.set_cons_succ]
                refine wpAnyH_take (i := 3) (oi := { dst := some 150, op := Op.move (Operand.tmp 19), type := 3, pos := "law.go:355", after := #[], guard := none }) (v := .int .i64 2) rfl (by kernel_rfl) (by kernel_rfl) (by kernel_rfl) (fun _ _ _ h => h) (Or.inl ⟨by rfl, by intro w hS; go_simp⟩) hHeld ?_
                try simp only [Act.put, List.setIfInBounds_toArray, List.set_cons_zero, List.set_cons_succ]
                refine wpAnyH_take (i := 5) (oi := { dst := some 152, op := Op.move (Operand.tmp 17), type := 22, pos := "law.go:355", after := #[], guard := none }) (v := .slice (some ⟨gR, 0, none⟩) (n3 + 100) (n3 + 100)) rfl (by kernel_rfl) (by kernel_rfl) (by kernel_rfl) (fun _ _ _ h => h) (Or.inl ⟨by rfl, by intro w hS; go_simp⟩) hHeld ?_
                try simp only [Act.put, List.setIfInBounds_toArray, List.set_cons_zero, List.set_cons_succ]
                refine wpAnyH_take (i := 6) (oi := { dst := some 153, op := Op.move (Operand.tmp 18), type := 3, pos := "law.go:355", after := #[], guard := none }) (v := .int .i64 n3) rfl (by kernel_rfl) (by kernel_rfl) (by kernel_rfl) (fun _ _ _ h => h) (Or.inl ⟨by rfl, by intro w hS; go_simp⟩) hHeld ?_
                try simp only [Act.put, List.setIfInBounds_toArray, List.set_cons_zero, List.set_cons_succ]
                refine wpAnyH_take (i := 8) (oi := { dst := some 155, op := Op.move (Operand.tmp 19), type := 3, pos := "law.go:355", after := #[], guard := none }) (v := .int .i64 2) rfl (by kernel_rfl) (by kernel_rfl) (by kernel_rfl) (fun _ _ _ h => h) (Or.inl ⟨by rfl, by intro w hS; go_simp⟩) hHeld ?_
                try simp only [Act.put, List.setIfInBounds_toArray, List.set_cons_zero, List.set_cons_succ]
                refine wpAnyH_take (i := 2) (oi := { dst := some 149, op := Op.binOp BinOp.sub 3 (Operand.tmp 148) (Operand.const (Value.int IntKind.i64 1)) 3, type := 3, pos := "law.go:355", after := #[{ on := 1, ground := Ground.data }], guard := none }) (v := .int .i64 ((n3 : Int) - 1)) rfl (by kernel_rfl) (by kernel_rfl) (by kernel_rfl) (fun _ _ _ h => h) (Or.inl ⟨by rfl, by intro w hS; go_simp; exact wrap_i64_id _ (by omega) (by omega)⟩) hHeld ?_
                try simp only [Act.put, List.setIfInBounds_toArray, List.set_cons_zero, List.set_cons_succ]
                refine wpAnyH_take (i := 7) (oi := { dst := some 154, op := Op.binOp BinOp.sub 3 (Operand.tmp 153) (Operand.const (Value.int IntKind.i64 1)) 3, type := 3, pos := "law.go:355", after := #[{ on := 6, ground := Ground.data }], guard := none }) (v := .int .i64 ((n3 : Int) - 1)) rfl (by kernel_rfl) (by kernel_rfl) (by kernel_rfl) (fun _ _ _ h => h) (Or.inl ⟨by rfl, by intro w hS; go_simp; exact wrap_i64_id _ (by omega) (by omega)⟩) hHeld ?_
                try simp only [Act.put, List.setIfInBounds_toArray, List.set_cons_zero, List.set_cons_succ]
                refine wpAnyH_take (i := 4) (oi := { dst := some 151, op := Op.binOp BinOp.quo 3 (Operand.tmp 149) (Operand.tmp 150) 3, type := 3, pos := "law.go:355", after := #[{ on := 2, ground := Ground.data }, { on := 3, ground := Ground.data }], guard := none }) (v := .int .i64 I) rfl (by kernel_rfl) (by kernel_rfl) (by kernel_rfl) (fun _ _ _ h => h) (Or.inl ⟨by rfl, by intro w hS; go_simp; have hI := HI.out; rw [show ((n3 : Int) - 1).tdiv 2 = (I : Int) by rw [Int.tdiv_eq_ediv_of_nonneg (by omega)]; exact hI]; exact wrap_i64_id _ (by omega) (by omega)⟩) hHeld ?_
                try simp only [Act.put, List.setIfInBounds_toArray, List.set_cons_zero, List.set_cons_succ]
                refine wpAnyH_take (i := 9) (oi := { dst := some 156, op := Op.binOp BinOp.quo 3 (Operand.tmp 154) (Operand.tmp 155) 3, type := 3, pos := "law.go:355", after := #[{ on := 7, ground := Ground.data }, { on := 8, ground := Ground.data }], guard := none }) (v := .int .i64 I) rfl (by kernel_rfl) (by kernel_rfl) (by kernel_rfl) (fun _ _ _ h => h) (Or.inl ⟨by rfl, by intro w hS; go_simp; have hI := HI.out; rw [show ((n3 : Int) - 1).tdiv 2 = (I : Int) by rw [Int.tdiv_eq_ediv_of_nonneg (by omega)]; exact hI]; exact wrap_i64_id _ (by omega) (by omega)⟩) hHeld ?_
                try simp only [Act.put, List.setIfInBounds_toArray, List.set_cons_zero, List.set_cons_succ]
                refine wpAnyH_take (i := 10) (oi := { dst := some 157, op := Op.indexAddr 22 (Operand.tmp 152) (Operand.tmp 156), type := 0, pos := "law.go:355", after := #[{ on := 5, ground := Ground.data }, { on := 9, ground := Ground.data }], guard := none }) (v := .pointer (some ⟨gR, I, none⟩)) rfl (by kernel_rfl) (by kernel_rfl) (by kernel_rfl) (fun _ _ _ h => h) (Or.inl ⟨by rfl, by intro w hS; go_simp⟩) hHeld ?_
                try simp only [Act.put, List.setIfInBounds_toArray, List.set_cons_zero, List.set_cons_succ]
                refine wpAnyH_ready (rs := [11]) (by kernel_rfl) (by simp) ?_
                refine (AllReadyH.cons (o := { dst := some 158, op := Op.load 5 (Operand.tmp 157), type := 5, pos := "law.go:355", after := #[{ on := 10, ground := Ground.data }], guard := none }) rfl (fun K hK => ?_) AllReadyH.nil)
                go_simp
                refine hK.out _ _ (hHeld) (fun hHeld2 => ?_)
                clear hK K hHeld
                have hHeld := hHeld2
                clear hHeld2
                try simp only [Act.put, List.setIfInBounds_toArray, List.set_cons_zero, List.set_cons_succ]
                refine wpAnyH_take (i := 12) (oi := { dst := some 159, op := Op.binOp BinOp.xor 5 (Operand.tmp 158) (Operand.const (Value.int IntKind.u8 1)) 5, type := 5, pos := "law.go:355", after := #[{ on := 11, ground := Ground.data }], guard := none }) (v := .int .u8 (bits .xor .u8 xv 1)) rfl (by kernel_rfl) (by kernel_rfl) (by kernel_rfl) (fun _ _ _ h => h) (Or.inl ⟨by rfl, by intro w hS; go_simp⟩) hHeld ?_
                try simp only [Act.put, List.setIfInBounds_toArray, List.set_cons_zero, List.set_cons_succ]
                refine wpAnyH_take (i := 13) (oi := { dst := some 160, op := Op.indexAddr 22 (Operand.tmp 147) (Operand.tmp 151), type := 0, pos := "law.go:355", after := #[{ on := 0, ground := Ground.data }, { on := 4, ground := Ground.data }, { on := 0, ground := Ground.phase }, { on := 1, ground := Ground.phase }, { on := 2, ground := Ground.phase }, { on := 3, ground := Ground.phase }, { on := 4, ground := Ground.phase }, { on := 5, ground := Ground.phase }, { on := 6, ground := Ground.phase }, { on := 7, ground := Ground.phase }, { on := 8, ground := Ground.phase }, { on := 9, ground := Ground.phase }, { on := 10, ground := Ground.phase }, { on := 11, ground := Ground.phase }, { on := 12, ground := Ground.phase }], guard := none }) (v := .pointer (some ⟨gR, I, none⟩)) rfl (by kernel_rfl) (by kernel_rfl) (by kernel_rfl) (fun _ _ _ h => h) (Or.inl ⟨by rfl, by intro w hS; go_simp⟩) hHeld ?_
                try simp only [Act.put, List.setIfInBounds_toArray, List.set_cons_zero, List.set_cons_succ]
                refine wpAnyH_ready (rs := [14]) (by kernel_rfl) (by simp) ?_
                refine (AllReadyH.cons (o := { dst := none, op := Op.store 5 (Operand.tmp 160) (Operand.tmp 159), type := 0, pos := "law.go:355", after := #[{ on := 13, ground := Ground.data }, { on := 12, ground := Ground.data }, { on := 0, ground := Ground.phase }, { on := 1, ground := Ground.phase }, { on := 2, ground := Ground.phase }, { on := 3, ground := Ground.phase }, { on := 4, ground := Ground.phase }, { on := 5, ground := Ground.phase }, { on := 6, ground := Ground.phase }, { on := 7, ground := Ground.phase }, { on := 8, ground := Ground.phase }, { on := 9, ground := Ground.phase }, { on := 10, ground := Ground.phase }, { on := 11, ground := Ground.phase }, { on := 12, ground := Ground.phase }], guard := none }) rfl (fun K hK => ?_) AllReadyH.nil)
                go_simp
                refine hK.out _ _ (dN.sub (fun x hx => .tail _ hx)) (fun hHeld2 => ?_)
                clear hK K hHeld
                have hHeld := hHeld2
                clear hHeld2
                try simp only [Act.put, List.setIfInBounds_toArray, List.set_cons_zero, List.set_cons_succ]
                refine wpAnyH_done (by kernel_rfl) ?_ _
                refine NoPanic.normal ?_
                clear cg fg dH
                have d9 := dN
                clear dN
                have hVl := hVl2
                have hVy := hVy2
                generalize V.set I (bits .xor .u8 xv 1) = V at *
                have rR9 := d9.row (.head _)
                have S9 : Src _ (some ⟨gR, 0, none⟩) (n3 + 100) V := src_rng (rng rR9) (d9.lt (.head _)) (n3 + 100) (by have := hVl.out; omega) (by have := hrl.out; unfold maxLen; omega)
                have KE9 := hid (KDN.out _ V hVl.out hVy.out gR S9)
                clear rR9 S9
                go_wp2_with fail
                refine KE9.out.mono ?_
                rintro e wE ⟨rfl, hbE⟩
                have dE := d9.call hbE
                clear d9
                go_wp2
                go_roundw
                case rel => exact ⟨3, V, by omega, by rfl, hVl, hVy, dE⟩
                case measure => simp [intOf]
              · have ip : ¬ ((0 : Int) < (n3 : Int)) := by omega
                have rR9 := d9.row (.head _)
                have S9 : Src wr (some ⟨gR, 0, none⟩) (n3 + 100) V := src_rng (rng rR9) (d9.lt (.head _)) (n3 + 100) (by have := hVl.out; omega) (by have := hrl.out; unfold maxLen; omega)
                have KE9 := hid (KDN.out wr V hVl.out hVy.out gR S9)
                clear rR9 S9
                go_wp2_with fail
                refine KE9.out.mono ?_
                rintro e wE ⟨rfl, hbE⟩
                have dE := d9.call hbE
                clear d9
                go_wp2
                go_roundw
                case rel => exact ⟨3, V, by omega, by rfl, hVl, hVy, dE⟩
                case measure => simp [intOf]
          · obtain rfl : q = 3 := by omega
            rw [show ((3 : Nat) : Int) = 3 from rfl]
            go_wp2
            go_roundw
            case rel => exact ⟨k + 1, by omega, by go_num, d9.1⟩
            case measure => simp [intOf]; omega
      | false =>
        go_wp2
        go_roundw
        case rel => exact ⟨k + 1, by omega, by go_num, d8.1⟩
        case measure => simp [intOf]; omega
    · obtain rfl : k = N := by omega
      go_wp2
      go_ret
      exact ⟨rfl, hB⟩
end Go.Proofs.Ytlhmhpkgdcdjkaa
