import Derived.Test.YtfcogkjmjpgncaaKpB
import Derived.Test.YtfcogkjmjpgncaaNma9
import Derived.Test.YtfcogkjmjpgncaaXi9
import Derived.Test.YtfcogkjmjpgncaaVb9
namespace Go.Proofs.Ytfcogkjmjpgncaa
set_option linter.unusedVariables false
set_option linter.unusedSimpArgs false
open Go.RowKit
attribute [local go_sem ↓] Go.wp_at_zero Go.wp_at_succ

theorem built_keeper : Try.prog.built 28 [] = some #[.slice none 0 0, .slice none 0 0] := by kernel_rfl
/-- The nodes that came in. -/
def NS (w : World) (sp : Option Addr) (m : Nat) : Prop := ∃ b o, (0 < m → b < w.heap.size ∧ sp = some ⟨b, o, none⟩) ∧ ∀ i, i < m → ∃ (n : Nd) (s : Option Addr) (c : Nat), w.rangeAt b (o + i * 102) (ndC n (.slice s n.vs.length c)) ∧ NdOk n ∧ NdY n ∧ Src w s c n.vs ∧ (s = none → c = 0) ∧ n.vs.length ≤ 140737488351232
theorem ndC_set {n : Nd} (h : NdOk n) (v u : Value) : (ndC n v).set 101 u = ndC n u := by
  unfold ndC
  have e : ([Value.int .i64 n.kd, .int .i64 n.l, .int .i64 n.r, .int .i64 n.lc, .int .i64 n.rc] ++ (ints .u8 n.ls ++ (ints .u8 n.rs ++ ints .u8 n.k))).length = 101 := by simp [ints_len, h.ls, h.rs, h.k]
  have f : ∀ x : Value, [Value.int .i64 n.kd, .int .i64 n.l, .int .i64 n.r, .int .i64 n.lc, .int .i64 n.rc] ++ (ints .u8 n.ls ++ (ints .u8 n.rs ++ (ints .u8 n.k ++ [x]))) = ([Value.int .i64 n.kd, .int .i64 n.l, .int .i64 n.r, .int .i64 n.lc, .int .i64 n.rc] ++ (ints .u8 n.ls ++ (ints .u8 n.rs ++ ints .u8 n.k))) ++ [x] := fun x => by simp only [List.append_assoc]
  rw [f, f, List.set_append_right 101 u (by rw [e]; exact Nat.le_refl _), e]; rfl
theorem encL_bys {n : Nd} (yn : NdY n) : Bys (encL n) := by
  unfold encL; split
  · exact loadP_bys yn
  · intro x hx; cases hx
theorem encL_len {n : Nd} (ok : NdOk n) : (encL n).length ≤ 160 := by
  unfold encL; split
  · rename_i h; exact load_len ok h
  · simp
theorem decV_len (kd : Int) (t : List Int) : (decV kd t).vs.length ≤ 128 := by
  unfold decV
  cases hm : decN kd t with
  | none => simp [nd0]
  | some n =>
    have hr := (decN_right hm).1
    rcases hr with h | h
    · exact h.2.2.2.2.2.2.2
    · have := h.2.2.1; simp [this]
theorem fresh_right {n : Nd} (ok : NdOk n) (hr : RightP n) : decV n.kd (encL n) = n ∧ encE n = 0 ∧ decE n.kd (encL n) = 0 := by
  have eL : encL n = loadP n := by unfold encL; rw [if_pos hr]
  have hd := dec_load ok hr
  exact ⟨by rw [eL]; unfold decV; rw [hd]; rfl, by unfold encE; rw [if_pos hr], by rw [eL]; unfold decE; rw [hd]; rfl⟩
theorem src_full {w : World} {g : Nat} {zs : List Int} (h : w.heap[g]? = some (.cells (ints .u8 (full zs)).toArray 5 (0, 0))) (hl : zs.length ≤ 140737488351232) : Src w (some ⟨g, 0, none⟩) (zs.length + 100) zs ∧ Src w (some ⟨g, 0, none⟩) (zs.length + 100) (full zs) := by
  have h2 : Src w (some ⟨g, 0, none⟩) (zs.length + 100) (full zs) := by
    have := src_row (tl := []) (by rw [List.append_nil]; exact h) (zs.length + 100) (by rw [full_len]; exact Nat.le_refl _) (by unfold maxLen; omega)
    exact this
  refine ⟨?_, h2⟩
  unfold full at h
  have := src_row (zs := zs) (tl := tailN zs.length) h (zs.length + 100) (by omega) (by unfold maxLen; omega)
  exact this
set_option maxRecDepth 100000 in
set_option maxHeartbeats 4000000 in
theorem nodeFresh_any (w : World) (m : Nat) (sp : Option Addr) (cap : Nat) (hS : NS w sp m) (hm : (m : Int) ≤ 9223372036854775807) (ds : List Int) (hds : ds.length = 32) :
    Calls Try.prog 3 #[.slice sp m cap, .agg (ints .u8 ds).toArray] w fun e w' => e = .returned (.bool true) ∧ Below w.heap.size w w' := by
  obtain ⟨b, o, hb, hr⟩ := hS
  have HR := hid hr
  have HB := hid hb
  have AN := hid allocNd
  have L0 := hid (show (ndC nd0 (.slice none 0 0)).length = 102 from rfl)
  have BKp := hid built_keeper
  have R0 := RS.start w (ints .u8 ds) 24 ⟨by decide, by decide⟩
  have SD := hid (show (Try.prog.info? 24).map (·.size) = some (ints .u8 ds).toArray.size by rw [Try.sizeD, List.size_toArray, ints_len, hds])
  have HDS := hid hds
  clear hr hb hds
  go_enter Try.func3, Try.ntmps3
  go_wp2_with (first | refine wpList_built (by rfl) 28 _ rfl _ rfl _ BKp.out ?_)
  go_loopw [6, 7, 8, 9, 10, 11, 12, 13, 14, 15] (fun i _ _ _ _ _ _ _ _ _ wr => ∃ k : Nat, k ≤ m ∧ k ≤ 12 ∧ i = .int .i64 k ∧ RS w wr (w.heap.size + 1) (9 * k) [] [(w.heap.size, ints .u8 ds, 24)]) (fun i _ _ _ _ _ _ _ _ _ _ => m - (intOf i).toNat)
  case atStart => exact ⟨0, by omega, by omega, rfl, R0⟩
  case round =>
    clear R0
    obtain ⟨k, hk, hk12, rfl, hR⟩ := hrel
    by_cases h1 : k < m
    · have i1 : (k : Int) < (m : Int) := by omega
      by_cases h2 : k < 12
      · have i2 : (k : Int) < 12 := by omega
        obtain ⟨hbb, rfl⟩ := HB.out (by omega)
        obtain ⟨n, s, c, rj0, ok, yn, hSs, hnil, hvl⟩ := HR.out k h1
        have HSO := hid hSs
        have RJ := hid rj0
        have SN := hid (show (Try.prog.info? 32).map (·.size) = some (ndC n (.slice s n.vs.length c)).length by rw [Try.sizeNd, ndC_len ok])
        have rj := rng_below rj0 hR.bel hbb
        have LM := hid (fun v => ndC_len ok v)
        have OM := hid (fun s m c => ndC_one n (.slice s m c) rfl)
        have hK0 : ∀ v, (ndC n v)[0]? = some (.int .i64 n.kd) := fun v => rfl
        have K0 := hid hK0
        have KV := hid (fun v => ndC_v ok v)
        have KLS := hid (fun v => ndC_ls ok v)
        have KKY := hid (fun v => ndC_k ok v)
        have KSET := hid (fun v u => ndC_set ok v u)
        have KE := hid (fun w1 sp cap (h : Src w1 sp cap n.vs) (hn : sp = none → cap = 0) => encode_any w1 n ok sp cap h hn)
        have KD := hid (fun w1 sp cap (h : Src w1 sp cap (encL n)) => decode_any w1 n.kd (encL n) (encL_bys yn) sp cap h)
        unfold DecP at KD
        have hvn : n.vs.length ≤ 9223372036854775807 := by omega
        have KR := hid (fun w1 => right_any w1 n ok s c hvn)
        have KSN : RightP n → ∀ w1 s3 c3, Src w1 s3 c3 (decV n.kd (encL n)).vs → Src w1 s c n.vs → Calls Try.prog 9 #[.agg (ndC (decV n.kd (encL n)) (.slice s3 (decV n.kd (encL n)).vs.length c3)).toArray, .agg (ndC n (.slice s n.vs.length c)).toArray] w1 fun e w' => e = .returned (.bool true) ∧ Below w1.heap.size w1 w' := fun hr w1 s3 c3 h3 h4 => by
          rw [(fresh_right ok hr).1] at h3 ⊢
          exact sameNode_self w1 n ok s3 s c3 c h3 h4
        have KSN0 := hid KSN
        have HRT := hid (fun hr : RightP n => (fresh_right ok hr).2)
        have dok := decV_ok n.kd (encL n)
        have LMm := hid (fun v => ndC_len dok v)
        have OMm := hid (fun s m c => ndC_one (decV n.kd (encL n)) (.slice s m c) rfl)
        have KVm := hid (fun v => ndC_v dok v)
        have tlen := encL_len ok
        have mlen := decV_len n.kd (encL n)
        have HK := hid ok.k
        have HL := hid ok.ls
        clear KSN dok rj0 hSs hK0
        generalize encL n = tl at *
        generalize ndC (decV n.kd tl) = NM at *
        generalize (decV n.kd tl).vs = mv at *
        generalize encE n = e1 at *
        generalize decE n.kd tl = e2 at *
        generalize ndC n = NF at *
        have i3 : (n.vs.length : Int) ≤ 140737488351232 := by omega
        have cj : wr.cell? ⟨b, o + k * 102 + 101, none⟩ = some (.slice s n.vs.length c) := rj 101 _ (KV.out _)
        go_wp2_with (first
          | refine wpList_load_mid_w (by rfl) 32 _ (by rfl) b (o + k * 102) (by rfl) _ _ rj Try.underlying32 rfl SN.out ?_
          | (refine wpList_new AN.out L0.out Try.sizeNd rfl rfl rfl _ _ rfl rfl (NF (.slice s n.vs.length c)) rfl rfl (LM.out _) (OM.out _ _ _) ?_; refine Hid.out ?_))
        refine hid ?_
        have R1 := hR.alloc (NF (.slice s n.vs.length c)) 32 ⟨by decide, by decide⟩
        have hgn := hlt (hR.row (.head _))
        clear hR rj cj
        generalize wr.alloc (.cells (NF (.slice s n.vs.length c)).toArray 32) = wa at *
        generalize wr.heap.size = gn at *
        have cj : wa.cell? ⟨b, o + k * 102 + 101, none⟩ = some (.slice s n.vs.length c) := rng_below RJ.out R1.bel hbb 101 _ (KV.out _)
        go_wp2_with fail
        refine (roomy_any wa n.vs s c (HSO.out.below R1.bel (Nat.le_refl _)) hvl).mono ?_
        rintro e wb ⟨rfl, rv, hbv⟩
        have hgv := R1.bel.size
        have hgl := hlt (R1.row (.head _))
        have R2 := R1.new hbv (own_of_row rv (Nat.le_refl _) (by rw [full_len]; unfold maxLen; omega))
        rw [full_len] at R2
        have R2 := (R2.put (g := wa.heap.size) hgv rv ⟨by decide, by decide⟩).sub (fun x h => h) (rows' := [(gn, NF (.slice s n.vs.length c), 32), (wa.heap.size, ints .u8 (full n.vs), 5), (w.heap.size, ints .u8 ds, 24)]) (fun x h => by simp at h ⊢; rcases h with rfl | rfl | rfl <;> simp)
        clear R1 rv hbv cj
        generalize wa.heap.size = gv at *
        have cj : wb.cell? ⟨b, o + k * 102 + 101, none⟩ = some (.slice s n.vs.length c) := rng_below RJ.out R2.bel hbb 101 _ (KV.out _)
        have cg := R2.cell (.head _) (KV.out (.slice s n.vs.length c))
        have fz : wb.frozen? ⟨gn, 101, none⟩ = false := frozen_of_row _ _ _ _ _ (R2.row (.head _))
        have R3 := R2.set (by decide) (fun x hx => by simp at hx; rcases hx with rfl | rfl <;> simp <;> omega) 101 (.slice (some ⟨gv, 0, none⟩) n.vs.length (n.vs.length + 100))
        rw [KSET.out] at R3
        go_wp2_with fail
        clear R2 cg cj fz
        generalize wb.setCell ⟨gn, 101, none⟩ (.slice (some ⟨gv, 0, none⟩) n.vs.length (n.vs.length + 100)) = wc at *
        have SNr := hid (show (Try.prog.info? 32).map (·.size) = some (NF (.slice (some ⟨gv, 0, none⟩) n.vs.length (n.vs.length + 100))).toArray.size by rw [Try.sizeNd, List.size_toArray, LM.out])
        have SK := hid (show (Try.prog.info? 29).map (·.size) = some (ints .u8 n.k).length by rw [Try.sizeKy, ints_len, HK.out])
        have SL := hid (show (Try.prog.info? 24).map (·.size) = some (ints .u8 n.ls).length by rw [Try.sizeD, ints_len, HL.out])
        go_loopw [9, 10, 11, 12, 13, 14, 15] (fun j _ _ _ _ _ _ wr => ∃ q : Nat, q ≤ 2 ∧ j = .int .i64 q ∧ RS w wr (w.heap.size + 1) (9 * k + 4 * q) [.slice (some ⟨gv, 0, none⟩) (n.vs.length + 100) (n.vs.length + 100)] [(gn, NF (.slice (some ⟨gv, 0, none⟩) n.vs.length (n.vs.length + 100)), 32), (gv, ints .u8 (full n.vs), 5), (w.heap.size, ints .u8 ds, 24)]) (fun j _ _ _ _ _ _ _ => 2 - (intOf j).toNat)
        case atStart => exact ⟨0, by omega, rfl, R3⟩
        case round =>
          clear R3
          obtain ⟨q, hq, rfl, hR⟩ := hrel
          have hSv := src_full (hR.row (.tail _ (.head _))) hvl
          have hOv : Own wr w.heap.size (.slice (some ⟨gv, 0, none⟩) (n.vs.length + 100) (n.vs.length + 100)) (full n.vs) := by
            have := own_of_row (hR.row (.tail _ (.head _))) hgv (by rw [full_len]; unfold maxLen; omega)
            rwa [full_len] at this
          by_cases hq2 : q < 2
          · have i4 : (q : Int) < 2 := by omega
            have rn := hR.row (.head _)
            go_wp2_with (first | refine wpList_load_row_w (by rfl) 32 _ (by rfl) _ (by rfl) 32 _ _ _ rn Try.underlying32 rfl SNr.out ?_)
            refine (KE.out _ _ _ hSv.1 (fun h => by cases h)).mono ?_
            rintro e w1 ⟨v1, rfl, hO1, hb1⟩
            obtain ⟨s1, c1, rfl, S1, n1⟩ := hO1.form
            have R1 := hR.new hb1 hO1
            have O1 := own_base hO1 hR.bel.size
            have D1v := (djb_lt hOv hO1 (Nat.le_refl _)).symm
            have hz1 := hb1.size
            clear hR hSv rn
            go_wp2_with fail
            refine (copyBytes_any w1 tl s1 c1 S1 (by omega)).mono ?_
            rintro e w2 ⟨v2, rfl, hO2, hb2⟩
            obtain ⟨s2, c2, rfl, S2, n2⟩ := hO2.form
            have R2 := R1.call hb2
            have O1 := O1.below hb2 (Nat.le_refl _)
            have S1 := S1.below hb2 (Nat.le_refl _)
            have hz2 := hb2.size
            have c0 := R2.cell (.head _) (K0.out _)
            clear R1
            go_wp2_with fail
            refine (KD.out _ _ _ S1).mono ?_
            rintro e w3 ⟨s3, c3, rfl, hO3, hb3⟩
            obtain ⟨s3', c3', e3, S3, n3⟩ := hO3.form
            cases e3
            have R3 := R2.new hb3 hO3
            have O3 := own_base hO3 R2.bel.size
            have D13 := djb_lt hO1 hO3 hz2
            have D3v := (djb_lt hOv hO3 (by omega)).symm
            have O1 := O1.below hb3 (Nat.le_refl _)
            have S1 := S1.below hb3 (Nat.le_refl _)
            have S2 := S2.below hb3 (Nat.le_refl _)
            have hz3 := hb3.size
            have hgm := R3.bel.size
            clear R2 c0
            go_wp2_with (first
              | (refine wpList_new AN.out L0.out Try.sizeNd rfl rfl rfl _ _ rfl rfl (NM (.slice s3 mv.length c3)) rfl rfl (LMm.out _) (OMm.out _ _ _) ?_; refine Hid.out ?_))
            refine hid ?_
            have bl4 : Below w3.heap.size w3 (w3.alloc (.cells (NM (.slice s3 mv.length c3)).toArray 32)) := (Below.refl _ _).alloc (Nat.le_refl _) _
            have Re := R3.alloc (NM (.slice s3 mv.length c3)) 32 ⟨by decide, by decide⟩
            have O1 := O1.below bl4 (Nat.le_refl _)
            have O3 := O3.below bl4 (Nat.le_refl _)
            have S1 := S1.below bl4 (Nat.le_refl _)
            have S2 := S2.below bl4 (Nat.le_refl _)
            have S3 := S3.below bl4 (Nat.le_refl _)
            have hz4 := bl4.size
            clear R3 bl4
            generalize w3.alloc (.cells (NM (.slice s3 mv.length c3)).toArray 32) = wd at *
            generalize hgm3 : w3.heap.size = gm at *
            have hgm4 := hid hgm3
            clear hgm3
            have HGM := hid (hlt (Re.row (.head _)))
            have HBB3 := hid (show b < wd.heap.size by have := Re.bel.size; omega)
            have RJ3 := hid (rng_below RJ.out Re.bel hbb)
            have RM := hid (show wd.rangeAt gm 0 (NM (.slice s3 mv.length c3)) from Re.rng (.head _) (fun j v hv => by rw [Nat.zero_add]; exact hv))
            have SM := hid (show (Try.prog.info? 32).map (·.size) = some (NM (.slice s3 mv.length c3)).length by rw [Try.sizeNd, LMm.out])
            have HSO := hid (HSO.out.below Re.bel (Nat.le_refl _))
            by_cases hr : RightP n
            · have KRt := KR
              rw [decide_eq_true hr] at KRt
              obtain ⟨rfl, rfl⟩ := HRT.out hr
              have KSN := hid (KSN0.out hr)
              go_wp2_with fail
              refine wp_region_noPanic ?_
              refine wp_region_held_drew (S := fun w' => Below wd.heap.size wd w') (by kernel_rfl) (Below.refl _ _).drew (fun hHeld => ?_)
              refine wpAnyH_take (i := 0) (oi := { dst := some 65, op := Op.move (Operand.tmp 0), type := 22, pos := "outright.go:172", after := #[], guard := none }) (v := .slice (some ⟨b, o, none⟩) m cap) rfl (by kernel_rfl) (by kernel_rfl) (by kernel_rfl) (fun _ _ _ h => h) (Or.inl ⟨by rfl, by intro w hS; go_simp⟩) hHeld ?_
              try simp only [Act.put, List.setIfInBounds_toArray, List.set_cons_zero, List.set_cons_succ]
              refine wpAnyH_take (i := 1) (oi := { dst := some 66, op := Op.move (Operand.tmp 6), type := 3, pos := "outright.go:172", after := #[], guard := none }) (v := .int .i64 k) rfl (by kernel_rfl) (by kernel_rfl) (by kernel_rfl) (fun _ _ _ h => h) (Or.inl ⟨by rfl, by intro w hS; go_simp⟩) hHeld ?_
              try simp only [Act.put, List.setIfInBounds_toArray, List.set_cons_zero, List.set_cons_succ]
              refine wpAnyH_take (i := 2) (oi := { dst := some 67, op := Op.indexAddr 22 (Operand.tmp 65) (Operand.tmp 66), type := 0, pos := "outright.go:172", after := #[{ on := 0, ground := Ground.data }, { on := 1, ground := Ground.data }], guard := none }) (v := .pointer (some ⟨b, o + k * 102, none⟩)) rfl (by kernel_rfl) (by kernel_rfl) (by kernel_rfl) (fun _ _ _ h => h) (Or.inl ⟨by rfl, by intro w hS; go_simp⟩) hHeld ?_
              try simp only [Act.put, List.setIfInBounds_toArray, List.set_cons_zero, List.set_cons_succ]
              refine wpAnyH_take (i := 3) (oi := { dst := some 68, op := Op.load 32 (Operand.tmp 67), type := 32, pos := "outright.go:172", after := #[{ on := 2, ground := Ground.data }], guard := none }) (v := .agg (NF (.slice s n.vs.length c)).toArray) rfl (by kernel_rfl) (by kernel_rfl) (by kernel_rfl) (fun _ _ _ h => h) (yieldsIf_load_mid (by rfl) 32 _ rfl b (o + k * 102) rfl (NF (.slice s n.vs.length c)) _ (fun w hS => (rng_below RJ3.out hS HBB3.out)) Try.underlying32 rfl SN.out) hHeld ?_
              try simp only [Act.put, List.setIfInBounds_toArray, List.set_cons_zero, List.set_cons_succ]
              refine wpAnyH_ready (rs := [4]) (by kernel_rfl) (by simp) ?_
              refine (AllReadyH.cons (o := { dst := some 69, op := Op.call { callee := Callee.value (Operand.func 8), args := #[Operand.tmp 68], argTypes := #[32] }, type := 4, pos := "outright.go:172", after := #[{ on := 3, ground := Ground.data }], guard := none }) rfl (fun K hK => ?_) AllReadyH.nil)
              go_simp
              go_at_call 8
              refine (KRt.out _).mono ?_
              rintro e w4 ⟨rfl, hb4⟩
              go_wp2_with fail
              refine hK.out _ _ (hHeld.trans (hb4.mono hHeld.size)) (fun hHeld2 => ?_)
              clear hK K hHeld
              have hHeld := hHeld2
              clear hHeld2
              clear hb4
              try simp only [Act.put, List.setIfInBounds_toArray, List.set_cons_zero, List.set_cons_succ]
              refine wpAnyH_take (i := 5) (oi := { dst := some 70, op := Op.move (Operand.tmp 69), type := 4, pos := "outright.go:172", after := #[{ on := 4, ground := Ground.data }, { on := 4, ground := Ground.chain }], guard := none }) (v := .bool true) rfl (by kernel_rfl) (by kernel_rfl) (by kernel_rfl) (fun _ _ _ h => h) (Or.inl ⟨by rfl, by intro w hS; go_simp⟩) hHeld ?_
              try simp only [Act.put, List.setIfInBounds_toArray, List.set_cons_zero, List.set_cons_succ]
              refine wpAnyH_take (i := 6) (oi := { dst := some 71, op := Op.move (Operand.tmp 11), type := 34, pos := "outright.go:172", after := #[{ on := 5, ground := Ground.guard }], guard := some (5, true) }) (v := .int .i64 0) rfl (by kernel_rfl) (by kernel_rfl) (by kernel_rfl) (fun _ _ _ h => h) (Or.inl ⟨by rfl, by intro w hS; go_simp⟩) hHeld ?_
              try simp only [Act.put, List.setIfInBounds_toArray, List.set_cons_zero, List.set_cons_succ]
              refine wpAnyH_take (i := 7) (oi := { dst := some 72, op := Op.binOp BinOp.neq 34 (Operand.tmp 71) (Operand.const (Value.int IntKind.i64 0)) 34, type := 4, pos := "outright.go:172", after := #[{ on := 6, ground := Ground.data }, { on := 5, ground := Ground.guard }], guard := some (5, true) }) (v := .bool false) rfl (by kernel_rfl) (by kernel_rfl) (by kernel_rfl) (fun _ _ _ h => h) (Or.inl ⟨by rfl, by intro w hS; go_simp⟩) hHeld ?_
              try simp only [Act.put, List.setIfInBounds_toArray, List.set_cons_zero, List.set_cons_succ]
              refine wpAnyH_take (i := 8) (oi := { dst := some 73, op := Op.move (Operand.tmp 72), type := 4, pos := "outright.go:172", after := #[{ on := 7, ground := Ground.data }, { on := 5, ground := Ground.chain }, { on := 5, ground := Ground.guard }], guard := some (5, true) }) (v := .bool false) rfl (by kernel_rfl) (by kernel_rfl) (by kernel_rfl) (fun _ _ _ h => h) (Or.inl ⟨by rfl, by intro w hS; go_simp⟩) hHeld ?_
              try simp only [Act.put, List.setIfInBounds_toArray, List.set_cons_zero, List.set_cons_succ]
              refine wpAnyH_take (i := 9) (oi := { dst := some 74, op := Op.move (Operand.tmp 14), type := 34, pos := "outright.go:172", after := #[{ on := 8, ground := Ground.guard }], guard := some (8, false) }) (v := .int .i64 0) rfl (by kernel_rfl) (by kernel_rfl) (by kernel_rfl) (fun _ _ _ h => h) (Or.inl ⟨by rfl, by intro w hS; go_simp⟩) hHeld ?_
              try simp only [Act.put, List.setIfInBounds_toArray, List.set_cons_zero, List.set_cons_succ]
              refine wpAnyH_take (i := 10) (oi := { dst := some 75, op := Op.binOp BinOp.neq 34 (Operand.tmp 74) (Operand.const (Value.int IntKind.i64 0)) 34, type := 4, pos := "outright.go:172", after := #[{ on := 9, ground := Ground.data }, { on := 8, ground := Ground.guard }], guard := some (8, false) }) (v := .bool false) rfl (by kernel_rfl) (by kernel_rfl) (by kernel_rfl) (fun _ _ _ h => h) (Or.inl ⟨by rfl, by intro w hS; go_simp⟩) hHeld ?_
              try simp only [Act.put, List.setIfInBounds_toArray, List.set_cons_zero, List.set_cons_succ]
              refine wpAnyH_take (i := 11) (oi := { dst := some 76, op := Op.pick (Operand.tmp 73) (Operand.const (Value.bool true)) (Operand.tmp 75), type := 4, pos := "outright.go:172", after := #[{ on := 8, ground := Ground.data }, { on := 10, ground := Ground.data }, { on := 5, ground := Ground.guard }], guard := some (5, true) }) (v := .bool false) rfl (by kernel_rfl) (by kernel_rfl) (by kernel_rfl) (fun _ _ _ h => h) (Or.inl ⟨by rfl, by intro w hS; go_simp⟩) hHeld ?_
              try simp only [Act.put, List.setIfInBounds_toArray, List.set_cons_zero, List.set_cons_succ]
              refine wpAnyH_take (i := 12) (oi := { dst := some 77, op := Op.move (Operand.tmp 76), type := 4, pos := "outright.go:172", after := #[{ on := 11, ground := Ground.data }, { on := 8, ground := Ground.chain }, { on := 5, ground := Ground.guard }], guard := some (5, true) }) (v := .bool false) rfl (by kernel_rfl) (by kernel_rfl) (by kernel_rfl) (fun _ _ _ h => h) (Or.inl ⟨by rfl, by intro w hS; go_simp⟩) hHeld ?_
              try simp only [Act.put, List.setIfInBounds_toArray, List.set_cons_zero, List.set_cons_succ]
              refine wpAnyH_take (i := 13) (oi := { dst := some 78, op := Op.load 32 (Operand.tmp 13), type := 32, pos := "outright.go:172", after := #[{ on := 12, ground := Ground.guard }], guard := some (12, false) }) (v := .agg (NM (.slice s3 mv.length c3)).toArray) rfl (by kernel_rfl) (by kernel_rfl) (by kernel_rfl) (fun _ _ _ h => h) (yieldsIf_load_mid (by rfl) 32 _ rfl gm (0) rfl (NM (.slice s3 mv.length c3)) _ (fun w hS => (rng_below RM.out hS HGM.out)) Try.underlying32 rfl SM.out) hHeld ?_
              try simp only [Act.put, List.setIfInBounds_toArray, List.set_cons_zero, List.set_cons_succ]
              refine wpAnyH_take (i := 14) (oi := { dst := some 79, op := Op.move (Operand.tmp 0), type := 22, pos := "outright.go:172", after := #[{ on := 12, ground := Ground.guard }], guard := some (12, false) }) (v := .slice (some ⟨b, o, none⟩) m cap) rfl (by kernel_rfl) (by kernel_rfl) (by kernel_rfl) (fun _ _ _ h => h) (Or.inl ⟨by rfl, by intro w hS; go_simp⟩) hHeld ?_
              try simp only [Act.put, List.setIfInBounds_toArray, List.set_cons_zero, List.set_cons_succ]
              refine wpAnyH_take (i := 15) (oi := { dst := some 80, op := Op.move (Operand.tmp 6), type := 3, pos := "outright.go:172", after := #[{ on := 12, ground := Ground.guard }], guard := some (12, false) }) (v := .int .i64 k) rfl (by kernel_rfl) (by kernel_rfl) (by kernel_rfl) (fun _ _ _ h => h) (Or.inl ⟨by rfl, by intro w hS; go_simp⟩) hHeld ?_
              try simp only [Act.put, List.setIfInBounds_toArray, List.set_cons_zero, List.set_cons_succ]
              refine wpAnyH_take (i := 16) (oi := { dst := some 81, op := Op.indexAddr 22 (Operand.tmp 79) (Operand.tmp 80), type := 0, pos := "outright.go:172", after := #[{ on := 14, ground := Ground.data }, { on := 15, ground := Ground.data }, { on := 12, ground := Ground.guard }], guard := some (12, false) }) (v := .pointer (some ⟨b, o + k * 102, none⟩)) rfl (by kernel_rfl) (by kernel_rfl) (by kernel_rfl) (fun _ _ _ h => h) (Or.inl ⟨by rfl, by intro w hS; go_simp⟩) hHeld ?_
              try simp only [Act.put, List.setIfInBounds_toArray, List.set_cons_zero, List.set_cons_succ]
              refine wpAnyH_take (i := 17) (oi := { dst := some 82, op := Op.load 32 (Operand.tmp 81), type := 32, pos := "outright.go:172", after := #[{ on := 16, ground := Ground.data }, { on := 12, ground := Ground.guard }], guard := some (12, false) }) (v := .agg (NF (.slice s n.vs.length c)).toArray) rfl (by kernel_rfl) (by kernel_rfl) (by kernel_rfl) (fun _ _ _ h => h) (yieldsIf_load_mid (by rfl) 32 _ rfl b (o + k * 102) rfl (NF (.slice s n.vs.length c)) _ (fun w hS => (rng_below RJ3.out hS HBB3.out)) Try.underlying32 rfl SN.out) hHeld ?_
              try simp only [Act.put, List.setIfInBounds_toArray, List.set_cons_zero, List.set_cons_succ]
              refine wpAnyH_ready (rs := [18]) (by kernel_rfl) (by simp) ?_
              refine (AllReadyH.cons (o := { dst := some 83, op := Op.call { callee := Callee.value (Operand.func 9), args := #[Operand.tmp 78, Operand.tmp 82], argTypes := #[32, 32] }, type := 4, pos := "outright.go:172", after := #[{ on := 13, ground := Ground.data }, { on := 17, ground := Ground.data }, { on := 12, ground := Ground.chain }, { on := 12, ground := Ground.guard }], guard := some (12, false) }) rfl (fun K hK => ?_) AllReadyH.nil)
              go_simp
              go_at_call 9
              refine (KSN.out _ _ _ (S3.below hHeld (Nat.le_refl _)) (HSO.out.below hHeld (Nat.le_refl _))).mono ?_
              rintro e w4 ⟨rfl, hb4⟩
              go_wp2_with fail
              refine hK.out _ _ (hHeld.trans (hb4.mono hHeld.size)) (fun hHeld2 => ?_)
              clear hK K hHeld
              have hHeld := hHeld2
              clear hHeld2
              clear hb4
              try simp only [Act.put, List.setIfInBounds_toArray, List.set_cons_zero, List.set_cons_succ]
              refine wpAnyH_take (i := 19) (oi := { dst := some 84, op := Op.unOp UnOp.not 4 (Operand.tmp 83), type := 4, pos := "outright.go:172", after := #[{ on := 18, ground := Ground.data }, { on := 12, ground := Ground.guard }], guard := some (12, false) }) (v := .bool false) rfl (by kernel_rfl) (by kernel_rfl) (by kernel_rfl) (fun _ _ _ h => h) (Or.inl ⟨by rfl, by intro w hS; go_simp⟩) hHeld ?_
              try simp only [Act.put, List.setIfInBounds_toArray, List.set_cons_zero, List.set_cons_succ]
              refine wpAnyH_take (i := 20) (oi := { dst := some 85, op := Op.pick (Operand.tmp 77) (Operand.const (Value.bool true)) (Operand.tmp 84), type := 4, pos := "outright.go:172", after := #[{ on := 12, ground := Ground.data }, { on := 19, ground := Ground.data }, { on := 5, ground := Ground.guard }], guard := some (5, true) }) (v := .bool false) rfl (by kernel_rfl) (by kernel_rfl) (by kernel_rfl) (fun _ _ _ h => h) (Or.inl ⟨by rfl, by intro w hS; go_simp⟩) hHeld ?_
              try simp only [Act.put, List.setIfInBounds_toArray, List.set_cons_zero, List.set_cons_succ]
              refine wpAnyH_take (i := 21) (oi := { dst := some 86, op := Op.pick (Operand.tmp 70) (Operand.tmp 85) (Operand.const (Value.bool false)), type := 4, pos := "outright.go:172", after := #[{ on := 5, ground := Ground.data }, { on := 20, ground := Ground.data }], guard := none }) (v := .bool false) rfl (by kernel_rfl) (by kernel_rfl) (by kernel_rfl) (fun _ _ _ h => h) (Or.inl ⟨by rfl, by intro w hS; go_simp⟩) hHeld ?_
              try simp only [Act.put, List.setIfInBounds_toArray, List.set_cons_zero, List.set_cons_succ]
              refine wpAnyH_done (by kernel_rfl) ?_ _
              refine NoPanic.normal ?_
              have hf := hHeld
              clear hHeld
              have Rf := Re.call hf
              have S1 := S1.below hf (Nat.le_refl _)
              have S2 := S2.below hf (Nat.le_refl _)
              have O1 := O1.below hf (Nat.le_refl _)
              have O3 := O3.below hf (Nat.le_refl _)
              have hzf := hf.size
              clear hf Re S3 HGM HBB3 RJ3 RM SM HSO
              have hSv := src_full (Rf.row (.tail _ (.tail _ (.head _)))) hvl
              have rk := Rf.rng (.tail _ (.head _)) (KKY.out _)
              have cv := Rf.cell (.tail _ (.head _)) (KV.out _)
              go_wp2_with (first | refine wpList_load_mid_w (by rfl) 29 _ (by rfl) gn 69 (by rfl) _ _ rk Try.underlying29 rfl SK.out ?_)
              refine (leafText_any _ n.k n.vs HK.out (some ⟨gv, 0, none⟩) (n.vs.length + 100) hSv.1 (fun h => by cases h) hvl).mono ?_
              rintro e w5 ⟨v5, rfl, hO5, hb5⟩
              obtain ⟨s5, c5, rfl, S5, n5⟩ := hO5.form
              have i5 : ((leafT n.k n.vs).length : Int) = 33 + (n.vs.length : Int) := by simp [leafT, HK.out]; omega
              have i6 : ((leafT n.k n.vs).length : Int) ≤ 33 + (n.vs.length : Int) := by omega
              have i7 : 33 + (n.vs.length : Int) ≤ ((leafT n.k n.vs).length : Int) := by omega
              clear i5
              generalize leafT n.k n.vs = lt at *
              have R5 := Rf.new hb5 hO5
              have O5 := own_base hO5 Rf.bel.size
              have D15 := djb_lt hO1 hO5 (by omega)
              have D35 := djb_lt hO3 hO5 (by have := hgm4.out; omega)
              have D5v := (djb_lt hOv hO5 (by omega)).symm
              have S1 := S1.below hb5 (Nat.le_refl _)
              have S2 := S2.below hb5 (Nat.le_refl _)
              have O1 := O1.below hb5 (Nat.le_refl _)
              have O3 := O3.below hb5 (Nat.le_refl _)
              have hz5 := hb5.size
              clear Rf hSv rk cv
              have cj : w5.cell? ⟨b, o + k * 102 + 101, none⟩ = some (.slice s n.vs.length c) := rng_below RJ.out R5.bel hbb 101 _ (KV.out _)
              go_wp2_with fail
              refine (same_self w5 tl s1 s2 c1 c2 S1 S2).mono ?_
              rintro e w6 ⟨rfl, hb6⟩
              have R6 := (R5.call hb6).sub (ex' := [.slice s1 tl.length c1, .slice s3 mv.length c3, .slice s5 lt.length c5, .slice (some ⟨gv, 0, none⟩) (n.vs.length + 100) (n.vs.length + 100)]) (fun x h => by simp at h ⊢; rcases h with rfl | rfl | rfl | rfl <;> simp) (fun x h => h)
              have O1 := O1.below hb6 (Nat.le_refl _)
              have O3 := O3.below hb6 (Nat.le_refl _)
              have O5 := O5.below hb6 (Nat.le_refl _)
              have hz6 := hb6.size
              have KK1 := hid (R6.keep (by omega) O1 (by omega) (fun y hy => by simp at hy; rcases hy with rfl | rfl | rfl <;> assumption))
              clear R5 R6 S1 S2 S5
              go_wp2_with fail
              refine KK1.out.mono ?_
              rintro e w7 ⟨rfl, R7, t7, z7⟩
              have O3 := own_tf O3 t7
              have O5 := own_tf O5 t7
              have cm := R7.cell (.head _) (KVm.out _)
              have KK3 := hid (R7.keep (by omega) O3 (by omega) (fun y hy => by simp at hy; rcases hy with rfl | rfl <;> assumption))
              clear R7 KK1
              go_wp2_with fail
              refine KK3.out.mono ?_
              rintro e w8 ⟨rfl, R8, t8, z8⟩
              have O5 := own_tf O5 t8
              have KK5 := hid (R8.keep (by omega) O5 (by omega) (fun y hy => by simp at hy; rcases hy with rfl; assumption))
              clear R8 KK3 cm
              go_wp2_with fail
              refine KK5.out.mono ?_
              rintro e w9 ⟨rfl, R9, t9, z9⟩
              have rds := R9.row (.tail _ (.tail _ (.tail _ (.head _))))
              have rls := R9.rng (.tail _ (.head _)) (KLS.out _)
              have KB := hid (show Calls Try.prog 13 #[.int .i64 8, .agg (ints .u8 ds).toArray, .agg (ints .u8 n.ls).toArray] w9 fun e w' => ∃ v, e = .returned v ∧ Own w' w9.heap.size v (branchT 8 ds n.ls) ∧ Below w9.heap.size w9 w' from branchText_mid w9 8 (by omega) ds n.ls HDS.out HL.out)
              clear KK5
              go_wp2_with (first
                | refine wpList_load_row_w (by rfl) 24 _ (by rfl) _ (by rfl) 24 _ _ _ rds Try.underlying24 rfl SD.out ?_
                | refine wpList_load_mid_w (by rfl) 24 _ (by rfl) gn 5 (by rfl) _ _ rls Try.underlying24 rfl SL.out ?_)
              refine KB.out.mono ?_
              rintro e wx ⟨vx, rfl, hOx, hbx⟩
              obtain ⟨sx, cx, rfl, Sx, nx⟩ := hOx.form
              have lx : (branchT 8 ds n.ls).length ≤ 17 := by simp [branchT]; omega
              generalize branchT 8 ds n.ls = bt at *
              have Rx := R9.new hbx hOx
              have Dxv := (djb_lt hOv hOx (by omega)).symm
              have KKx := hid (Rx.keep (by omega) (own_base hOx R9.bel.size) (by omega) (fun y hy => by simp at hy; rcases hy with rfl; assumption))
              clear R9 Rx KB rds rls
              go_wp2_with fail
              refine KKx.out.mono ?_
              rintro e wy ⟨rfl, Ry, ty, zy⟩
              have Ry := (Ry.mono (show 9 * k + 4 * q + 1 + 1 + 1 + 1 ≤ 9 * k + 4 * (q + 1) by omega)).sub (ex' := [.slice (some ⟨gv, 0, none⟩) (n.vs.length + 100) (n.vs.length + 100)]) (rows' := [(gn, NF (.slice (some ⟨gv, 0, none⟩) n.vs.length (n.vs.length + 100)), 32), (gv, ints .u8 (full n.vs), 5), (w.heap.size, ints .u8 ds, 24)]) (fun x h => h) (fun x h => .tail _ h)
              clear KKx
              go_wp2
              go_roundw
              case rel => exact ⟨q + 1, by omega, by go_num, Ry⟩
              case measure => simp [intOf]; omega
            · have KRf := KR
              rw [decide_eq_false hr] at KRf
              go_wp2_with fail
              refine wp_region_noPanic ?_
              refine wp_region_held_drew (S := fun w' => Below wd.heap.size wd w') (by kernel_rfl) (Below.refl _ _).drew (fun hHeld => ?_)
              refine wpAnyH_take (i := 0) (oi := { dst := some 65, op := Op.move (Operand.tmp 0), type := 22, pos := "outright.go:172", after := #[], guard := none }) (v := .slice (some ⟨b, o, none⟩) m cap) rfl (by kernel_rfl) (by kernel_rfl) (by kernel_rfl) (fun _ _ _ h => h) (Or.inl ⟨by rfl, by intro w hS; go_simp⟩) hHeld ?_
              try simp only [Act.put, List.setIfInBounds_toArray, List.set_cons_zero, List.set_cons_succ]
              refine wpAnyH_take (i := 1) (oi := { dst := some 66, op := Op.move (Operand.tmp 6), type := 3, pos := "outright.go:172", after := #[], guard := none }) (v := .int .i64 k) rfl (by kernel_rfl) (by kernel_rfl) (by kernel_rfl) (fun _ _ _ h => h) (Or.inl ⟨by rfl, by intro w hS; go_simp⟩) hHeld ?_
              try simp only [Act.put, List.setIfInBounds_toArray, List.set_cons_zero, List.set_cons_succ]
              refine wpAnyH_take (i := 2) (oi := { dst := some 67, op := Op.indexAddr 22 (Operand.tmp 65) (Operand.tmp 66), type := 0, pos := "outright.go:172", after := #[{ on := 0, ground := Ground.data }, { on := 1, ground := Ground.data }], guard := none }) (v := .pointer (some ⟨b, o + k * 102, none⟩)) rfl (by kernel_rfl) (by kernel_rfl) (by kernel_rfl) (fun _ _ _ h => h) (Or.inl ⟨by rfl, by intro w hS; go_simp⟩) hHeld ?_
              try simp only [Act.put, List.setIfInBounds_toArray, List.set_cons_zero, List.set_cons_succ]
              refine wpAnyH_take (i := 3) (oi := { dst := some 68, op := Op.load 32 (Operand.tmp 67), type := 32, pos := "outright.go:172", after := #[{ on := 2, ground := Ground.data }], guard := none }) (v := .agg (NF (.slice s n.vs.length c)).toArray) rfl (by kernel_rfl) (by kernel_rfl) (by kernel_rfl) (fun _ _ _ h => h) (yieldsIf_load_mid (by rfl) 32 _ rfl b (o + k * 102) rfl (NF (.slice s n.vs.length c)) _ (fun w hS => (rng_below RJ3.out hS HBB3.out)) Try.underlying32 rfl SN.out) hHeld ?_
              try simp only [Act.put, List.setIfInBounds_toArray, List.set_cons_zero, List.set_cons_succ]
              refine wpAnyH_ready (rs := [4]) (by kernel_rfl) (by simp) ?_
              refine (AllReadyH.cons (o := { dst := some 69, op := Op.call { callee := Callee.value (Operand.func 8), args := #[Operand.tmp 68], argTypes := #[32] }, type := 4, pos := "outright.go:172", after := #[{ on := 3, ground := Ground.data }], guard := none }) rfl (fun K hK => ?_) AllReadyH.nil)
              go_simp
              go_at_call 8
              refine (KRf.out _).mono ?_
              rintro e w4 ⟨rfl, hb4⟩
              go_wp2_with fail
              refine hK.out _ _ (hHeld.trans (hb4.mono hHeld.size)) (fun hHeld2 => ?_)
              clear hK K hHeld
              have hHeld := hHeld2
              clear hHeld2
              clear hb4
              try simp only [Act.put, List.setIfInBounds_toArray, List.set_cons_zero, List.set_cons_succ]
              refine wpAnyH_take (i := 5) (oi := { dst := some 70, op := Op.move (Operand.tmp 69), type := 4, pos := "outright.go:172", after := #[{ on := 4, ground := Ground.data }, { on := 4, ground := Ground.chain }], guard := none }) (v := .bool false) rfl (by kernel_rfl) (by kernel_rfl) (by kernel_rfl) (fun _ _ _ h => h) (Or.inl ⟨by rfl, by intro w hS; go_simp⟩) hHeld ?_
              try simp only [Act.put, List.setIfInBounds_toArray, List.set_cons_zero, List.set_cons_succ]
              refine wpAnyH_take (i := 6) (oi := { dst := some 71, op := Op.move (Operand.tmp 11), type := 34, pos := "outright.go:172", after := #[{ on := 5, ground := Ground.guard }], guard := some (5, true) }) (v := undef) rfl (by kernel_rfl) (by kernel_rfl) (by kernel_rfl) (fun _ _ _ h => h) (Or.inr ⟨by rfl, rfl⟩) hHeld ?_
              try simp only [Act.put, List.setIfInBounds_toArray, List.set_cons_zero, List.set_cons_succ]
              refine wpAnyH_take (i := 7) (oi := { dst := some 72, op := Op.binOp BinOp.neq 34 (Operand.tmp 71) (Operand.const (Value.int IntKind.i64 0)) 34, type := 4, pos := "outright.go:172", after := #[{ on := 6, ground := Ground.data }, { on := 5, ground := Ground.guard }], guard := some (5, true) }) (v := undef) rfl (by kernel_rfl) (by kernel_rfl) (by kernel_rfl) (fun _ _ _ h => h) (Or.inr ⟨by rfl, rfl⟩) hHeld ?_
              try simp only [Act.put, List.setIfInBounds_toArray, List.set_cons_zero, List.set_cons_succ]
              refine wpAnyH_take (i := 8) (oi := { dst := some 73, op := Op.move (Operand.tmp 72), type := 4, pos := "outright.go:172", after := #[{ on := 7, ground := Ground.data }, { on := 5, ground := Ground.chain }, { on := 5, ground := Ground.guard }], guard := some (5, true) }) (v := undef) rfl (by kernel_rfl) (by kernel_rfl) (by kernel_rfl) (fun _ _ _ h => h) (Or.inr ⟨by rfl, rfl⟩) hHeld ?_
              try simp only [Act.put, List.setIfInBounds_toArray, List.set_cons_zero, List.set_cons_succ]
              refine wpAnyH_take (i := 9) (oi := { dst := some 74, op := Op.move (Operand.tmp 14), type := 34, pos := "outright.go:172", after := #[{ on := 8, ground := Ground.guard }], guard := some (8, false) }) (v := undef) rfl (by kernel_rfl) (by kernel_rfl) (by kernel_rfl) (fun _ _ _ h => h) (Or.inr ⟨by rfl, rfl⟩) hHeld ?_
              try simp only [Act.put, List.setIfInBounds_toArray, List.set_cons_zero, List.set_cons_succ]
              refine wpAnyH_take (i := 10) (oi := { dst := some 75, op := Op.binOp BinOp.neq 34 (Operand.tmp 74) (Operand.const (Value.int IntKind.i64 0)) 34, type := 4, pos := "outright.go:172", after := #[{ on := 9, ground := Ground.data }, { on := 8, ground := Ground.guard }], guard := some (8, false) }) (v := undef) rfl (by kernel_rfl) (by kernel_rfl) (by kernel_rfl) (fun _ _ _ h => h) (Or.inr ⟨by rfl, rfl⟩) hHeld ?_
              try simp only [Act.put, List.setIfInBounds_toArray, List.set_cons_zero, List.set_cons_succ]
              refine wpAnyH_take (i := 11) (oi := { dst := some 76, op := Op.pick (Operand.tmp 73) (Operand.const (Value.bool true)) (Operand.tmp 75), type := 4, pos := "outright.go:172", after := #[{ on := 8, ground := Ground.data }, { on := 10, ground := Ground.data }, { on := 5, ground := Ground.guard }], guard := some (5, true) }) (v := undef) rfl (by kernel_rfl) (by kernel_rfl) (by kernel_rfl) (fun _ _ _ h => h) (Or.inr ⟨by rfl, rfl⟩) hHeld ?_
              try simp only [Act.put, List.setIfInBounds_toArray, List.set_cons_zero, List.set_cons_succ]
              refine wpAnyH_take (i := 12) (oi := { dst := some 77, op := Op.move (Operand.tmp 76), type := 4, pos := "outright.go:172", after := #[{ on := 11, ground := Ground.data }, { on := 8, ground := Ground.chain }, { on := 5, ground := Ground.guard }], guard := some (5, true) }) (v := undef) rfl (by kernel_rfl) (by kernel_rfl) (by kernel_rfl) (fun _ _ _ h => h) (Or.inr ⟨by rfl, rfl⟩) hHeld ?_
              try simp only [Act.put, List.setIfInBounds_toArray, List.set_cons_zero, List.set_cons_succ]
              refine wpAnyH_take (i := 13) (oi := { dst := some 78, op := Op.load 32 (Operand.tmp 13), type := 32, pos := "outright.go:172", after := #[{ on := 12, ground := Ground.guard }], guard := some (12, false) }) (v := undef) rfl (by kernel_rfl) (by kernel_rfl) (by kernel_rfl) (fun _ _ _ h => h) (Or.inr ⟨by rfl, rfl⟩) hHeld ?_
              try simp only [Act.put, List.setIfInBounds_toArray, List.set_cons_zero, List.set_cons_succ]
              refine wpAnyH_take (i := 14) (oi := { dst := some 79, op := Op.move (Operand.tmp 0), type := 22, pos := "outright.go:172", after := #[{ on := 12, ground := Ground.guard }], guard := some (12, false) }) (v := undef) rfl (by kernel_rfl) (by kernel_rfl) (by kernel_rfl) (fun _ _ _ h => h) (Or.inr ⟨by rfl, rfl⟩) hHeld ?_
              try simp only [Act.put, List.setIfInBounds_toArray, List.set_cons_zero, List.set_cons_succ]
              refine wpAnyH_take (i := 15) (oi := { dst := some 80, op := Op.move (Operand.tmp 6), type := 3, pos := "outright.go:172", after := #[{ on := 12, ground := Ground.guard }], guard := some (12, false) }) (v := undef) rfl (by kernel_rfl) (by kernel_rfl) (by kernel_rfl) (fun _ _ _ h => h) (Or.inr ⟨by rfl, rfl⟩) hHeld ?_
              try simp only [Act.put, List.setIfInBounds_toArray, List.set_cons_zero, List.set_cons_succ]
              refine wpAnyH_take (i := 16) (oi := { dst := some 81, op := Op.indexAddr 22 (Operand.tmp 79) (Operand.tmp 80), type := 0, pos := "outright.go:172", after := #[{ on := 14, ground := Ground.data }, { on := 15, ground := Ground.data }, { on := 12, ground := Ground.guard }], guard := some (12, false) }) (v := undef) rfl (by kernel_rfl) (by kernel_rfl) (by kernel_rfl) (fun _ _ _ h => h) (Or.inr ⟨by rfl, rfl⟩) hHeld ?_
              try simp only [Act.put, List.setIfInBounds_toArray, List.set_cons_zero, List.set_cons_succ]
              refine wpAnyH_take (i := 17) (oi := { dst := some 82, op := Op.load 32 (Operand.tmp 81), type := 32, pos := "outright.go:172", after := #[{ on := 16, ground := Ground.data }, { on := 12, ground := Ground.guard }], guard := some (12, false) }) (v := undef) rfl (by kernel_rfl) (by kernel_rfl) (by kernel_rfl) (fun _ _ _ h => h) (Or.inr ⟨by rfl, rfl⟩) hHeld ?_
              try simp only [Act.put, List.setIfInBounds_toArray, List.set_cons_zero, List.set_cons_succ]
              refine wpAnyH_take (i := 18) (oi := { dst := some 83, op := Op.call { callee := Callee.value (Operand.func 9), args := #[Operand.tmp 78, Operand.tmp 82], argTypes := #[32, 32] }, type := 4, pos := "outright.go:172", after := #[{ on := 13, ground := Ground.data }, { on := 17, ground := Ground.data }, { on := 12, ground := Ground.chain }, { on := 12, ground := Ground.guard }], guard := some (12, false) }) (v := undef) rfl (by kernel_rfl) (by kernel_rfl) (by kernel_rfl) (fun _ _ _ h => h) (Or.inr ⟨by rfl, rfl⟩) hHeld ?_
              try simp only [Act.put, List.setIfInBounds_toArray, List.set_cons_zero, List.set_cons_succ]
              refine wpAnyH_take (i := 19) (oi := { dst := some 84, op := Op.unOp UnOp.not 4 (Operand.tmp 83), type := 4, pos := "outright.go:172", after := #[{ on := 18, ground := Ground.data }, { on := 12, ground := Ground.guard }], guard := some (12, false) }) (v := undef) rfl (by kernel_rfl) (by kernel_rfl) (by kernel_rfl) (fun _ _ _ h => h) (Or.inr ⟨by rfl, rfl⟩) hHeld ?_
              try simp only [Act.put, List.setIfInBounds_toArray, List.set_cons_zero, List.set_cons_succ]
              refine wpAnyH_take (i := 20) (oi := { dst := some 85, op := Op.pick (Operand.tmp 77) (Operand.const (Value.bool true)) (Operand.tmp 84), type := 4, pos := "outright.go:172", after := #[{ on := 12, ground := Ground.data }, { on := 19, ground := Ground.data }, { on := 5, ground := Ground.guard }], guard := some (5, true) }) (v := undef) rfl (by kernel_rfl) (by kernel_rfl) (by kernel_rfl) (fun _ _ _ h => h) (Or.inr ⟨by rfl, rfl⟩) hHeld ?_
              try simp only [Act.put, List.setIfInBounds_toArray, List.set_cons_zero, List.set_cons_succ]
              refine wpAnyH_take (i := 21) (oi := { dst := some 86, op := Op.pick (Operand.tmp 70) (Operand.tmp 85) (Operand.const (Value.bool false)), type := 4, pos := "outright.go:172", after := #[{ on := 5, ground := Ground.data }, { on := 20, ground := Ground.data }], guard := none }) (v := .bool false) rfl (by kernel_rfl) (by kernel_rfl) (by kernel_rfl) (fun _ _ _ h => h) (Or.inl ⟨by rfl, by intro w hS; go_simp⟩) hHeld ?_
              try simp only [Act.put, List.setIfInBounds_toArray, List.set_cons_zero, List.set_cons_succ]
              refine wpAnyH_done (by kernel_rfl) ?_ _
              refine NoPanic.normal ?_
              have hf := hHeld
              clear hHeld
              have Rf := Re.call hf
              have S1 := S1.below hf (Nat.le_refl _)
              have S2 := S2.below hf (Nat.le_refl _)
              have O1 := O1.below hf (Nat.le_refl _)
              have O3 := O3.below hf (Nat.le_refl _)
              have hzf := hf.size
              clear hf Re S3 HGM HBB3 RJ3 RM SM HSO
              have hSv := src_full (Rf.row (.tail _ (.tail _ (.head _)))) hvl
              have rk := Rf.rng (.tail _ (.head _)) (KKY.out _)
              have cv := Rf.cell (.tail _ (.head _)) (KV.out _)
              go_wp2_with (first | refine wpList_load_mid_w (by rfl) 29 _ (by rfl) gn 69 (by rfl) _ _ rk Try.underlying29 rfl SK.out ?_)
              refine (leafText_any _ n.k n.vs HK.out (some ⟨gv, 0, none⟩) (n.vs.length + 100) hSv.1 (fun h => by cases h) hvl).mono ?_
              rintro e w5 ⟨v5, rfl, hO5, hb5⟩
              obtain ⟨s5, c5, rfl, S5, n5⟩ := hO5.form
              have i5 : ((leafT n.k n.vs).length : Int) = 33 + (n.vs.length : Int) := by simp [leafT, HK.out]; omega
              have i6 : ((leafT n.k n.vs).length : Int) ≤ 33 + (n.vs.length : Int) := by omega
              have i7 : 33 + (n.vs.length : Int) ≤ ((leafT n.k n.vs).length : Int) := by omega
              clear i5
              generalize leafT n.k n.vs = lt at *
              have R5 := Rf.new hb5 hO5
              have O5 := own_base hO5 Rf.bel.size
              have D15 := djb_lt hO1 hO5 (by omega)
              have D35 := djb_lt hO3 hO5 (by have := hgm4.out; omega)
              have D5v := (djb_lt hOv hO5 (by omega)).symm
              have S1 := S1.below hb5 (Nat.le_refl _)
              have S2 := S2.below hb5 (Nat.le_refl _)
              have O1 := O1.below hb5 (Nat.le_refl _)
              have O3 := O3.below hb5 (Nat.le_refl _)
              have hz5 := hb5.size
              clear Rf hSv rk cv
              have cj : w5.cell? ⟨b, o + k * 102 + 101, none⟩ = some (.slice s n.vs.length c) := rng_below RJ.out R5.bel hbb 101 _ (KV.out _)
              go_wp2_with fail
              refine (same_self w5 tl s1 s2 c1 c2 S1 S2).mono ?_
              rintro e w6 ⟨rfl, hb6⟩
              have R6 := (R5.call hb6).sub (ex' := [.slice s1 tl.length c1, .slice s3 mv.length c3, .slice s5 lt.length c5, .slice (some ⟨gv, 0, none⟩) (n.vs.length + 100) (n.vs.length + 100)]) (fun x h => by simp at h ⊢; rcases h with rfl | rfl | rfl | rfl <;> simp) (fun x h => h)
              have O1 := O1.below hb6 (Nat.le_refl _)
              have O3 := O3.below hb6 (Nat.le_refl _)
              have O5 := O5.below hb6 (Nat.le_refl _)
              have hz6 := hb6.size
              have KK1 := hid (R6.keep (by omega) O1 (by omega) (fun y hy => by simp at hy; rcases hy with rfl | rfl | rfl <;> assumption))
              clear R5 R6 S1 S2 S5
              go_wp2_with fail
              refine KK1.out.mono ?_
              rintro e w7 ⟨rfl, R7, t7, z7⟩
              have O3 := own_tf O3 t7
              have O5 := own_tf O5 t7
              have cm := R7.cell (.head _) (KVm.out _)
              have KK3 := hid (R7.keep (by omega) O3 (by omega) (fun y hy => by simp at hy; rcases hy with rfl | rfl <;> assumption))
              clear R7 KK1
              go_wp2_with fail
              refine KK3.out.mono ?_
              rintro e w8 ⟨rfl, R8, t8, z8⟩
              have O5 := own_tf O5 t8
              have KK5 := hid (R8.keep (by omega) O5 (by omega) (fun y hy => by simp at hy; rcases hy with rfl; assumption))
              clear R8 KK3 cm
              go_wp2_with fail
              refine KK5.out.mono ?_
              rintro e w9 ⟨rfl, R9, t9, z9⟩
              have rds := R9.row (.tail _ (.tail _ (.tail _ (.head _))))
              have rls := R9.rng (.tail _ (.head _)) (KLS.out _)
              have KB := hid (show Calls Try.prog 13 #[.int .i64 8, .agg (ints .u8 ds).toArray, .agg (ints .u8 n.ls).toArray] w9 fun e w' => ∃ v, e = .returned v ∧ Own w' w9.heap.size v (branchT 8 ds n.ls) ∧ Below w9.heap.size w9 w' from branchText_mid w9 8 (by omega) ds n.ls HDS.out HL.out)
              clear KK5
              go_wp2_with (first
                | refine wpList_load_row_w (by rfl) 24 _ (by rfl) _ (by rfl) 24 _ _ _ rds Try.underlying24 rfl SD.out ?_
                | refine wpList_load_mid_w (by rfl) 24 _ (by rfl) gn 5 (by rfl) _ _ rls Try.underlying24 rfl SL.out ?_)
              refine KB.out.mono ?_
              rintro e wx ⟨vx, rfl, hOx, hbx⟩
              obtain ⟨sx, cx, rfl, Sx, nx⟩ := hOx.form
              have lx : (branchT 8 ds n.ls).length ≤ 17 := by simp [branchT]; omega
              generalize branchT 8 ds n.ls = bt at *
              have Rx := R9.new hbx hOx
              have Dxv := (djb_lt hOv hOx (by omega)).symm
              have KKx := hid (Rx.keep (by omega) (own_base hOx R9.bel.size) (by omega) (fun y hy => by simp at hy; rcases hy with rfl; assumption))
              clear R9 Rx KB rds rls
              go_wp2_with fail
              refine KKx.out.mono ?_
              rintro e wy ⟨rfl, Ry, ty, zy⟩
              have Ry := (Ry.mono (show 9 * k + 4 * q + 1 + 1 + 1 + 1 ≤ 9 * k + 4 * (q + 1) by omega)).sub (ex' := [.slice (some ⟨gv, 0, none⟩) (n.vs.length + 100) (n.vs.length + 100)]) (rows' := [(gn, NF (.slice (some ⟨gv, 0, none⟩) n.vs.length (n.vs.length + 100)), 32), (gv, ints .u8 (full n.vs), 5), (w.heap.size, ints .u8 ds, 24)]) (fun x h => h) (fun x h => .tail _ h)
              clear KKx
              go_wp2
              go_roundw
              case rel => exact ⟨q + 1, by omega, by go_num, Ry⟩
              case measure => simp [intOf]; omega
          · obtain rfl : q = 2 := by omega
            have cj : wr.cell? ⟨b, o + k * 102 + 101, none⟩ = some (.slice s n.vs.length c) := rng_below RJ.out hR.bel hbb 101 _ (KV.out _)
            have KI := hid (roomyIs_any wr n.vs (some ⟨gv, 0, none⟩) s (n.vs.length + 100) c hSv.2 (HSO.out.below hR.bel (Nat.le_refl _)) hvl)
            go_wp2_with fail
            refine KI.out.mono ?_
            rintro e w1 ⟨rfl, hb1⟩
            have R1 := hR.call hb1
            have O1 := hOv.below hb1 (Nat.le_refl _)
            have KK : ∀ N, N ≤ 1000 → RS w w1 (w.heap.size + 1) N [.slice (some ⟨gv, 0, none⟩) (n.vs.length + 100) (n.vs.length + 100)] [(gn, NF (.slice (some ⟨gv, 0, none⟩) n.vs.length (n.vs.length + 100)), 32), (gv, ints .u8 (full n.vs), 5), (w.heap.size, ints .u8 ds, 24)] → Calls Try.prog 12 #[.pointer (some ⟨w.heap.size + 1, 0, none⟩), .slice (some ⟨gv, 0, none⟩) (n.vs.length + 100) (n.vs.length + 100)] w1 fun e w' => e = .returned (.tuple #[]) ∧ RS w w' (w.heap.size + 1) (N + 1) [] [(gn, NF (.slice (some ⟨gv, 0, none⟩) n.vs.length (n.vs.length + 100)), 32), (gv, ints .u8 (full n.vs), 5), (w.heap.size, ints .u8 ds, 24)] := fun N hN h => by
              rw [← full_len] at h O1 ⊢
              exact (h.keep (by omega) O1 (by rw [full_len]; omega) (fun y hy => by cases hy)).mono fun e w' ⟨a, b, _⟩ => ⟨a, b⟩
            have KK := hid (KK _ (by omega) R1)
            clear hR R1 hSv O1 cj KI hOv
            go_wp2_with fail
            refine KK.out.mono ?_
            rintro e w2 ⟨rfl, R2⟩
            have R2 := (R2.mono (show 9 * k + 4 * 2 + 1 ≤ 9 * (k + 1) by omega)).sub (ex' := []) (rows' := [(w.heap.size, ints .u8 ds, 24)]) (fun x h => h) (fun x h => by simp at h; simp [h])
            clear KK
            go_wp2
            go_roundw
            case rel => exact ⟨k + 1, by omega, by omega, by go_num, R2⟩
            case measure => simp [intOf]; omega
      · obtain rfl : k = 12 := by omega
        have KU := hid (hR.untouched (by omega))
        have KA := hid (fun w1 (h : Below wr.heap.size wr w1) => (hR.call h).apart (by omega))
        have hbl := hR.bel
        clear hR
        go_wp2_with fail
        refine KU.out.mono ?_
        rintro e w1 ⟨rfl, hb1⟩
        go_wp2_with fail
        refine (KA.out _ hb1).mono ?_
        rintro e w2 ⟨rfl, hb2⟩
        go_wp2
        go_ret
        exact ⟨rfl, hbl.trans ((hb1.mono hbl.size).trans hb2)⟩
    · obtain rfl : m = k := by omega
      have KU := hid (hR.untouched (by omega))
      have KA := hid (fun w1 (h : Below wr.heap.size wr w1) => (hR.call h).apart (by omega))
      have hbl := hR.bel
      clear hR h1
      go_wp2_with fail
      refine KU.out.mono ?_
      rintro e w1 ⟨rfl, hb1⟩
      go_wp2_with fail
      refine (KA.out _ hb1).mono ?_
      rintro e w2 ⟨rfl, hb2⟩
      go_wp2
      go_ret
      exact ⟨rfl, hbl.trans ((hb1.mono hbl.size).trans hb2)⟩
end Go.Proofs.Ytfcogkjmjpgncaa
