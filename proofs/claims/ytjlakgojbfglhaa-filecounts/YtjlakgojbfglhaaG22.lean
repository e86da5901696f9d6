import Derived.Test.YtjlakgojbfglhaaG21
namespace Go.Proofs.Ytjlakgojbfglhaa
set_option linter.unusedVariables false
set_option linter.unusedSimpArgs false
open Go.RowKit
attribute [local go_sem ↓] Go.wp_at_zero Go.wp_at_succ


def bk0 : Bk := ⟨[], [], 2, 1, 0, 0, 0⟩
theorem fresh_lv {D1 D0 : DS} {n : Nat} {wd : Int} (hw : 1 ≤ wd ∧ wd ≤ 32) (hn : n ≤ 64) (hFm : Fm D1 { D0 with reads := D0.reads + 2 } wd) (hnp : D1.np = n) (h0 : D0.np = n) (hz : D0.reads = 0 ∧ D0.writes = 0 ∧ D0.syncs = 0 ∧ D0.epoch = 0 ∧ D0.armed = 0) (hok : DsOk { D1 with reads := D1.reads + 2, epoch := D1.epoch + 1 }) :
    Lv { D1 with reads := D1.reads + 2, epoch := D1.epoch + 1 } (fS n wd 1) 2 (0 + 1) bk0 n 0 ∧ D1.armed = 0 := by
  have h3 := hFm.ok.np
  have hg := hFm.good hw
  rw [show ({ D0 with reads := D0.reads + 2 } : DS).np = D0.np from rfl, h0] at hg
  have hv := fS_valid (g := 1) (wd := wd) (n := n) (by omega) (by omega) hw ⟨by omega, by omega⟩
  refine ⟨⟨hok, hnp, hn, hFm.pw, ?_, rfl, hv, ⟨_, hg⟩, by show (1 : Int) ≤ _; omega, ⟨rfl, rfl, rfl, rfl⟩, ⟨by show (2 : Int) ≤ _; omega, by omega⟩, ?_, ⟨rfl, Nat.le_refl _, Nat.zero_le _⟩, fun q h2 hq => by omega, ?_⟩, ?_⟩
  · show D1.epoch + 1 = 0 + 1; rw [hFm.epoch]; show D0.epoch + 1 = _; rw [hz.2.2.2.1]
  · intro o ho; change o ∈ D1.ops at ho; rw [hFm.ops] at ho; cases ho
  · refine ⟨?_, ?_, ?_, ?_, ?_⟩
    · show D1.ops.length ≤ _; rw [hFm.ops]; simp
    · show D1.reads + 2 ≤ _; rw [hFm.reads]; show D0.reads + 2 + 2 ≤ _; rw [hz.1]; decide
    · show D1.writes ≤ _; rw [hFm.writes]; show D0.writes + 2 ≤ _; rw [hz.2.1]; decide
    · show D1.syncs ≤ _; rw [hFm.syncs]; show D0.syncs + 2 ≤ _; rw [hz.2.2.1]; decide
    · show D1.epoch + 1 ≤ _; rw [hFm.epoch]; show D0.epoch + 1 ≤ _; rw [hz.2.2.2.1]; decide
  · rw [hFm.arm]; show (if D0.armed = 0 then (0 : Int) else _) = 0; rw [if_pos hz.2.2.2.2]
set_option maxRecDepth 100000 in
set_option maxHeartbeats 2000000 in
theorem fresh_in (w : World) (n : Nat) (wd : Int) (hn : 3 ≤ n ∧ n ≤ 64) (hw : 1 ≤ wd ∧ wd ≤ 32) :
    Calls Try.prog 5 #[.int .i64 n, .int .i64 wd] w fun e w' => ∃ p g F D, e = .returned (.tuple #[.pointer (some ⟨p, 0, none⟩), .pointer (some ⟨g, 0, none⟩)]) ∧ DA w' w.heap.size F p D ∧ FK w' g p (fS n wd 1) (2 : Nat) (0 + 1) ∧ w.heap.size ≤ g ∧ Lv D (fS n wd 1) 2 (0 + 1) bk0 n 0 ∧ D.armed = 0 ∧ Below w.heap.size w w' := by
  have HNW := hid (New_ok w n hn.1 (by omega))
  obtain ⟨Z, hZ⟩ : ∃ Z : List Int, Z = List.replicate (256 * n) 0 := ⟨_, rfl⟩
  rw [← hZ] at HNW
  have okN : DsOk (newD Z) := by rw [hZ]; exact newD_ok hn.1 (by omega) List.length_replicate (bts_rep _)
  have npN : (newD Z).np = n := by
    show Z.length / 256 = n
    rw [hZ, List.length_replicate]; omega
  have pz : ∀ q, q < n → pgO Z q = zz 256 := fun q hq => by rw [hZ]; exact pgO_zero n q hq
  have RN := hid (show Rest (newD Z) n 0 from ⟨okN, npN, rfl, rfl, rfl, rfl, (by decide : (0 : Int) ≤ 1000), (by decide : (0 : Int) ≤ 1000), (by decide : (0 : Int) ≤ 1000)⟩)
  have BN := hid (show Blank (pgO (newD Z).img 0) (pgO (newD Z).img 1) from by show Blank (pgO Z 0) (pgO Z 1); rw [pz 0 (by omega), pz 1 (by omega)]; exact zz_blank)
  have i1 := hw.1
  have i2 := hw.2
  have j0 : (n : Int) ≤ 64 := by omega
  have HW := hid hw
  have HN := hid hn
  obtain ⟨B, hBB⟩ : ∃ B, B = w.heap.size := ⟨_, rfl⟩
  rw [← hBB] at HNW ⊢
  have B0 := hid (show B ≤ w.heap.size by omega)
  have NPN := hid npN
  clear hw hn hZ hBB okN npN pz
  obtain ⟨s1, hs1⟩ : ∃ s1, s1 = fS n wd 1 := ⟨_, rfl⟩
  rw [← hs1]
  have HS1 := hid hs1
  have HS1C := hid (show (#[.int .i64 wd, .int .i64 1, .int .i64 2, .int .i64 0, .int .i64 (n : Int)] : Array Value) = supC s1 by rw [hs1]; rfl)
  clear hs1
  go_enter Try.func5, Try.ntmps5
  go_wp2_with fail
  refine HNW.out.mono ?_
  rintro e w1 ⟨p, F, rfl, hD1, hB1⟩
  have HD1 := hid hD1
  have HB1 := hid hB1
  have HFT := hid (Format_rest w1 B F p (newD Z) hD1 (Nat.le_trans B0.out hB1.size) n 0 RN.out wd HW.out BN.out)
  clear hD1 hB1 HNW
  go_wp2_with fail
  refine HFT.out.mono ?_
  rintro e w2 ⟨rfl, D2, hFm, hnp2, hN2⟩
  obtain ⟨F2, hDA2, hB2, _⟩ := Nx.go HD1.out HB1.out B0.out hN2
  have hgd := hFm.good HW.out
  rw [show ({ newD Z with reads := (newD Z).reads + 2 } : DS).np = (newD Z).np from rfl, NPN.out, ← HS1.out] at hgd
  have HOP := hid (Open_ok w2 B F2 p D2 hDA2 hFm.pw (by rw [hFm.reads]; exact (by decide : (0 + 2 : Int) < 3999999999999999999)) (by rw [hFm.epoch]; exact (by decide : (0 : Int) < 4000000000000000000)) s1 (hgd.chooses hFm.ops) (by rw [hnp2, HS1.out]; rfl))
  have HFm := hid hFm
  have HNP2 := hid hnp2
  have HDA2 := hid hDA2
  have HB2 := hid hB2
  clear hFm hnp2 hN2 hDA2 hB2 hgd HFT
  go_wp2_with fail
  refine HOP.out.mono ?_
  rintro e w6 ⟨g, rfl, hg, hK6, hD6, hF6⟩
  have HB6 := hid (Fr.go HDA2.out HB2.out B0.out hF6)
  have hep2 : D2.epoch = 0 := HFm.out.epoch
  rw [hep2] at hK6
  rw [show s1.ma = 2 by rw [HS1.out]; rfl] at hK6
  have hlv := fresh_lv (D0 := newD Z) HW.out HN.out.2 HFm.out HNP2.out NPN.out ⟨rfl, rfl, rfl, rfl, rfl⟩ hD6.ok
  rw [← HS1.out] at hlv
  have HLV := hid hlv
  have HK6 := hid hK6
  have HD6 := hid hD6
  have HG := hid (show B ≤ g by have := B0.out; have := HB2.out.size; omega)
  clear hg hK6 hD6 hF6 HOP hep2 hlv
  go_wp2_with (first
    | (refine wpList_store_row (by rfl) 53 (.tmp 10) (.tmp 41) (by rfl) w6.heap.size (supC s1) (by rfl) (by exact congrArg Value.agg HS1C.out) 53 _ (by exact hnew _ _) (supN s1) (supZ s1) (supO s1) ?_; rw [setRow_alloc]; have r9 := hnew w6 (.cells (supC s1) 53); have b7 := below_new w6 (.cells (supC s1) 53); generalize hw7 : w6.alloc (.cells (supC s1) 53) = w7 at *; generalize hG9 : w6.heap.size = G9 at *))
  rw [← hG9] at b7
  have HB7 := hid b7
  have R9 := hid r9
  have HK7 := hid (HK6.out.below b7)
  have HD7 := hid (HD6.out.below b7)
  have HQ := hid (show ∀ w : World, (Op.equalIn 10000 53 (.agg (supC s1)) (.agg (supC s1))).run Try.prog w = .ok true w from fun w => by have := eqSup s1 s1 w; rwa [show decide (s1 = s1) = true from decide_eq_true rfl] at this)
  have HPG := hid (fun (w8 : World) (hb : Below w7.heap.size w7 w8) => (show Calls Try.prog 8 #[.pointer (some ⟨p, 0, none⟩)] w8 fun e w' => e = .returned (.int .i64 (n : Int)) ∧ w8 = w' from by
    have := Pages_any w8 B F2 p _ (HD7.out.below hb)
    rwa [HLV.out.1.np] at this))
  have HEND := hid (fun (w8 : World) (hb : Below w7.heap.size w7 w8) => (show ∃ p' g' F' D', Ending.returned (Value.tuple #[Value.pointer (some ⟨p, 0, none⟩), Value.pointer (some ⟨g, 0, none⟩)]) = Ending.returned (Value.tuple #[Value.pointer (some ⟨p', 0, none⟩), Value.pointer (some ⟨g', 0, none⟩)]) ∧ DA w8 B F' p' D' ∧ FK w8 g' p' s1 (2 : Nat) (0 + 1) ∧ B ≤ g' ∧ Lv D' s1 2 (0 + 1) bk0 n 0 ∧ D'.armed = 0 ∧ Below B w w8 from
    ⟨p, g, F2, _, rfl, HD7.out.below hb, HK7.out.below hb, HG.out, HLV.out.1, HLV.out.2, HB6.out.trans ((HB7.out.trans (hb.mono HB7.out.size)).mono (Nat.le_trans B0.out HB6.out.size))⟩))
  clear b7 r9 hw7 HB6 HFm HNP2 HDA2 HB2 HK6 HD6 HS1 HS1C RN BN
  refine wp_region_noPanic ?_
  refine wp_region_held_drew (S := fun w' => w'.heap[G9]? = some (.cells (supC s1) 53 (0, 0)) ∧ FK w' g p s1 2 (0 + 1)) (by kernel_rfl) ⟨R9.out, HK7.out⟩ (fun hHeld => ?_)
  refine wpAnyH_take (i := 0) (oi := { dst := some 42, op := Op.move (Operand.tmp 8), type := 25, pos := "outright.go:36", after := #[], guard := none }) (v := .pointer (some ⟨g, 0, none⟩)) rfl (by kernel_rfl) (by kernel_rfl) (by kernel_rfl) (fun _ _ _ h => h) (Or.inl ⟨by rfl, by intro w hS; go_simp⟩) hHeld ?_
  try simp only [Act.put, List.setIfInBounds_toArray, List.set_cons_zero, List.set_cons_succ]
  refine wpAnyH_take (i := 2) (oi := { dst := some 44, op := Op.load 53 (Operand.tmp 10), type := 53, pos := "outright.go:36", after := #[], guard := none }) (v := .agg (supC s1)) rfl (by kernel_rfl) (by kernel_rfl) (by kernel_rfl) (fun _ _ _ h => h) (yieldsIf_load_sup (by rfl) (.tmp 10) rfl G9 rfl s1 (fun w1 hS => hS.1)) hHeld ?_
  try simp only [Act.put, List.setIfInBounds_toArray, List.set_cons_zero, List.set_cons_succ]
  refine wpAnyH_ready (rs := [1]) (by kernel_rfl) (by simp) ?_
  refine (AllReadyH.cons (o := { dst := some 43, op := Op.call { callee := Callee.value (Operand.func 12), args := #[Operand.tmp 42], argTypes := #[25] }, type := 53, pos := "outright.go:36", after := #[{ on := 0, ground := Ground.data }], guard := none }) rfl (fun K hK => ?_) AllReadyH.nil)
  go_simp
  go_at_call 12
  refine (FSuper_any _ g p s1 2 (0 + 1) hHeld.2).mono ?_
  rintro e w8 ⟨rfl, hb8⟩
  have HB8 := hid (⟨hb8.os, hb8.tape, hb8.output, hb8.size, hb8.block⟩ : Below w7.heap.size w7 w8)
  go_wp2_with fail
  refine hK.out _ _ (⟨(hb8.block G9 (hlt_ hHeld.1)).trans hHeld.1, hHeld.2.below hb8⟩) (fun hHeld2 => ?_)
  clear hK K hHeld
  have hHeld := hHeld2
  clear hHeld2
  clear hb8
  try simp only [Act.put, List.setIfInBounds_toArray, List.set_cons_zero, List.set_cons_succ]
  refine wpAnyH_take (i := 3) (oi := { dst := some 45, op := Op.binOp BinOp.neq 53 (Operand.tmp 43) (Operand.tmp 44) 53, type := 4, pos := "outright.go:36", after := #[{ on := 1, ground := Ground.data }, { on := 2, ground := Ground.data }], guard := none }) (v := .bool false) rfl (by kernel_rfl) (by kernel_rfl) (by kernel_rfl) (fun _ _ _ h => h) (Or.inl ⟨by rfl, by intro w hS; (have KQ := HQ.out; have KG := guardU; go_simp)⟩) hHeld ?_
  try simp only [Act.put, List.setIfInBounds_toArray, List.set_cons_zero, List.set_cons_succ]
  refine wpAnyH_take (i := 4) (oi := { dst := some 46, op := Op.move (Operand.tmp 45), type := 4, pos := "outright.go:36", after := #[{ on := 3, ground := Ground.data }, { on := 1, ground := Ground.chain }], guard := none }) (v := .bool false) rfl (by kernel_rfl) (by kernel_rfl) (by kernel_rfl) (fun _ _ _ h => h) (Or.inl ⟨by rfl, by intro w hS; go_simp⟩) hHeld ?_
  try simp only [Act.put, List.setIfInBounds_toArray, List.set_cons_zero, List.set_cons_succ]
  refine wpAnyH_take (i := 5) (oi := { dst := some 47, op := Op.move (Operand.tmp 8), type := 25, pos := "outright.go:36", after := #[{ on := 4, ground := Ground.guard }], guard := some (4, false) }) (v := .pointer (some ⟨g, 0, none⟩)) rfl (by kernel_rfl) (by kernel_rfl) (by kernel_rfl) (fun _ _ _ h => h) (Or.inl ⟨by rfl, by intro w hS; go_simp⟩) hHeld ?_
  try simp only [Act.put, List.setIfInBounds_toArray, List.set_cons_zero, List.set_cons_succ]
  refine wpAnyH_ready (rs := [6]) (by kernel_rfl) (by simp) ?_
  refine (AllReadyH.cons (o := { dst := some 48, op := Op.call { callee := Callee.value (Operand.func 7), args := #[Operand.tmp 47], argTypes := #[25] }, type := 3, pos := "outright.go:36", after := #[{ on := 5, ground := Ground.data }, { on := 4, ground := Ground.chain }, { on := 4, ground := Ground.guard }], guard := some (4, false) }) rfl (fun K hK => ?_) AllReadyH.nil)
  go_simp
  go_at_call 7
  refine (FNext_any _ g p s1 2 (0 + 1) hHeld.2).mono ?_
  rintro e w9 ⟨rfl, rfl⟩
  go_wp2_with fail
  refine hK.out _ _ (hHeld) (fun hHeld2 => ?_)
  clear hK K hHeld
  have hHeld := hHeld2
  clear hHeld2
  try simp only [Act.put, List.setIfInBounds_toArray, List.set_cons_zero, List.set_cons_succ]
  refine wpAnyH_take (i := 7) (oi := { dst := some 49, op := Op.binOp BinOp.neq 3 (Operand.tmp 48) (Operand.const (Value.int IntKind.i64 2)) 3, type := 4, pos := "outright.go:36", after := #[{ on := 6, ground := Ground.data }, { on := 4, ground := Ground.guard }], guard := some (4, false) }) (v := .bool false) rfl (by kernel_rfl) (by kernel_rfl) (by kernel_rfl) (fun _ _ _ h => h) (Or.inl ⟨by rfl, by intro w hS; go_simp⟩) hHeld ?_
  try simp only [Act.put, List.setIfInBounds_toArray, List.set_cons_zero, List.set_cons_succ]
  refine wpAnyH_take (i := 8) (oi := { dst := some 50, op := Op.pick (Operand.tmp 46) (Operand.const (Value.bool true)) (Operand.tmp 49), type := 4, pos := "outright.go:36", after := #[{ on := 4, ground := Ground.data }, { on := 7, ground := Ground.data }], guard := none }) (v := .bool false) rfl (by kernel_rfl) (by kernel_rfl) (by kernel_rfl) (fun _ _ _ h => h) (Or.inl ⟨by rfl, by intro w hS; go_simp⟩) hHeld ?_
  try simp only [Act.put, List.setIfInBounds_toArray, List.set_cons_zero, List.set_cons_succ]
  refine wpAnyH_take (i := 9) (oi := { dst := some 51, op := Op.move (Operand.tmp 50), type := 4, pos := "outright.go:36", after := #[{ on := 8, ground := Ground.data }, { on := 6, ground := Ground.chain }], guard := none }) (v := .bool false) rfl (by kernel_rfl) (by kernel_rfl) (by kernel_rfl) (fun _ _ _ h => h) (Or.inl ⟨by rfl, by intro w hS; go_simp⟩) hHeld ?_
  try simp only [Act.put, List.setIfInBounds_toArray, List.set_cons_zero, List.set_cons_succ]
  refine wpAnyH_take (i := 10) (oi := { dst := some 52, op := Op.move (Operand.tmp 8), type := 25, pos := "outright.go:36", after := #[{ on := 9, ground := Ground.guard }], guard := some (9, false) }) (v := .pointer (some ⟨g, 0, none⟩)) rfl (by kernel_rfl) (by kernel_rfl) (by kernel_rfl) (fun _ _ _ h => h) (Or.inl ⟨by rfl, by intro w hS; go_simp⟩) hHeld ?_
  try simp only [Act.put, List.setIfInBounds_toArray, List.set_cons_zero, List.set_cons_succ]
  refine wpAnyH_take (i := 15) (oi := { dst := some 57, op := Op.move (Operand.tmp 0), type := 3, pos := "outright.go:36", after := #[{ on := 9, ground := Ground.guard }], guard := some (9, false) }) (v := .int .i64 (n : Int)) rfl (by kernel_rfl) (by kernel_rfl) (by kernel_rfl) (fun _ _ _ h => h) (Or.inl ⟨by rfl, by intro w hS; go_simp⟩) hHeld ?_
  try simp only [Act.put, List.setIfInBounds_toArray, List.set_cons_zero, List.set_cons_succ]
  refine wpAnyH_take (i := 11) (oi := { dst := some 53, op := Op.nilCheck (Operand.tmp 52), type := 0, pos := "outright.go:36", after := #[{ on := 10, ground := Ground.data }, { on := 9, ground := Ground.guard }], guard := some (9, false) }) (v := .pointer (some ⟨g, 0, none⟩)) rfl (by kernel_rfl) (by kernel_rfl) (by kernel_rfl) (fun _ _ _ h => h) (Or.inl ⟨by rfl, by intro w hS; go_simp⟩) hHeld ?_
  try simp only [Act.put, List.setIfInBounds_toArray, List.set_cons_zero, List.set_cons_succ]
  refine wpAnyH_take (i := 12) (oi := { dst := some 54, op := Op.fieldAddr 66 (Operand.tmp 53) 0, type := 0, pos := "outright.go:36", after := #[{ on := 11, ground := Ground.data }, { on := 9, ground := Ground.guard }], guard := some (9, false) }) (v := .pointer (some ⟨g, 0, none⟩)) rfl (by kernel_rfl) (by kernel_rfl) (by kernel_rfl) (fun _ _ _ h => h) (Or.inl ⟨by rfl, by intro w hS; go_simp⟩) hHeld ?_
  try simp only [Act.put, List.setIfInBounds_toArray, List.set_cons_zero, List.set_cons_succ]
  refine wpAnyH_take (i := 13) (oi := { dst := some 55, op := Op.load 24 (Operand.tmp 54), type := 24, pos := "outright.go:36", after := #[{ on := 12, ground := Ground.data }, { on := 9, ground := Ground.guard }], guard := some (9, false) }) (v := .pointer (some ⟨p, 0, none⟩)) rfl (by kernel_rfl) (by kernel_rfl) (by kernel_rfl) (fun _ _ _ h => h) (Or.inl ⟨by rfl, by intro w hS; have hc := FK.c0 hS.2; go_simp⟩) hHeld ?_
  try simp only [Act.put, List.setIfInBounds_toArray, List.set_cons_zero, List.set_cons_succ]
  refine wpAnyH_ready (rs := [14]) (by kernel_rfl) (by simp) ?_
  refine (AllReadyH.cons (o := { dst := some 56, op := Op.call { callee := Callee.value (Operand.func 8), args := #[Operand.tmp 55], argTypes := #[24] }, type := 3, pos := "outright.go:36", after := #[{ on := 13, ground := Ground.data }, { on := 9, ground := Ground.chain }, { on := 9, ground := Ground.guard }], guard := some (9, false) }) rfl (fun K hK => ?_) AllReadyH.nil)
  go_simp
  go_at_call 8
  refine (HPG.out w8 HB8.out).mono ?_
  rintro e w9 ⟨rfl, rfl⟩
  go_wp2_with fail
  refine hK.out _ _ (hHeld) (fun hHeld2 => ?_)
  clear hK K hHeld
  have hHeld := hHeld2
  clear hHeld2
  try simp only [Act.put, List.setIfInBounds_toArray, List.set_cons_zero, List.set_cons_succ]
  refine wpAnyH_take (i := 16) (oi := { dst := some 58, op := Op.binOp BinOp.neq 3 (Operand.tmp 56) (Operand.tmp 57) 3, type := 4, pos := "outright.go:36", after := #[{ on := 14, ground := Ground.data }, { on := 15, ground := Ground.data }, { on := 9, ground := Ground.guard }], guard := some (9, false) }) (v := .bool false) rfl (by kernel_rfl) (by kernel_rfl) (by kernel_rfl) (fun _ _ _ h => h) (Or.inl ⟨by rfl, by intro w hS; go_simp⟩) hHeld ?_
  try simp only [Act.put, List.setIfInBounds_toArray, List.set_cons_zero, List.set_cons_succ]
  refine wpAnyH_take (i := 17) (oi := { dst := some 59, op := Op.pick (Operand.tmp 51) (Operand.const (Value.bool true)) (Operand.tmp 58), type := 4, pos := "outright.go:36", after := #[{ on := 9, ground := Ground.data }, { on := 16, ground := Ground.data }], guard := none }) (v := .bool false) rfl (by kernel_rfl) (by kernel_rfl) (by kernel_rfl) (fun _ _ _ h => h) (Or.inl ⟨by rfl, by intro w hS; go_simp⟩) hHeld ?_
  try simp only [Act.put, List.setIfInBounds_toArray, List.set_cons_zero, List.set_cons_succ]
  refine wpAnyH_done (by kernel_rfl) ?_ _
  refine NoPanic.normal ?_
  go_wp2
  go_ret2
  exact HEND.out w8 HB8.out
end Go.Proofs.Ytjlakgojbfglhaa
