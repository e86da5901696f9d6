import Derived.Test.YtaefjlbonflmdaaDoorSc
namespace Go.Proofs.YtaefjlbonflmdaaDoor
set_option linter.unusedVariables false
set_option linter.unusedSimpArgs false
open Go.RowKit
open Go.Proofs.YtaefjlbonflmdaaDoor.Ca (Ct ct0 ctC argV AS)
attribute [local go_sem ↓] Go.wp_at_zero Go.wp_at_succ

/-- The law's whole. -/
def wholeF (n lo hi : Int) : Int := if n.tmod (hi - lo + 1) < 0 then lo + (n.tmod (hi - lo + 1) + hi - lo + 1) else lo + n.tmod (hi - lo + 1)
theorem tmod_bd (n m : Int) (h : 0 < m) : n.tmod m < m ∧ -m < n.tmod m := by
  have t0 := Int.tmod_lt_of_pos n h
  have := Int.tmod_lt_of_pos (-n) h
  rw [Int.neg_tmod] at this
  omega
theorem wholeF_bd (n lo hi : Int) (h : lo ≤ hi) : lo ≤ wholeF n lo hi ∧ wholeF n lo hi ≤ hi := by
  have := tmod_bd n (hi - lo + 1) (by omega)
  unfold wholeF
  split <;> omega
set_option maxRecDepth 100000 in
set_option maxHeartbeats 1000000 in
theorem hwhole_any (w : World) (n lo hi : Int) (h : lo ≤ hi) (h0 : 0 ≤ lo) (h1 : hi ≤ 100000) :
    Calls Tryd.prog 4 #[.int .i64 n, .int .i64 lo, .int .i64 hi] w fun e w' => e = .returned (.int .i64 (wholeF n lo hi)) ∧ w' = w := by
  have d0 : ((hi - lo + 1) == 0) = false := by simp; omega
  have d1 : hi - lo + 1 ≠ 0 := by omega
  obtain ⟨t0, t1⟩ := tmod_bd n (hi - lo + 1) (by omega)
  unfold wholeF
  go_enter Tryd.func4, Tryd.ntmps4
  go_wp2
  all_goals (go_ret; exact ⟨rfl, rfl⟩)
set_option maxRecDepth 100000 in
set_option maxHeartbeats 1000000 in
theorem hshort_any (w : World) (zs : List Int) (sp : Option Addr) (cap : Nat) (hS : Src w sp cap zs) (hlen : zs.length ≤ 140737488355000) (n : Nat) (hn : n ≤ 1000) :
    Calls Tryd.prog 13 #[.slice sp zs.length cap, .int .i64 n] w fun e w' => ∃ v, e = .returned v ∧ Own w' w.heap.size v (zs.take n) ∧ Below w.heap.size w w' := by
  obtain ⟨hc, hm, b, o, hb, hsp, hsrc⟩ := hS
  have hO := Own.nil w w.heap.size
  have i0 : (zs.length : Int) ≤ 140737488355000 := by omega
  have i9 : (n : Int) ≤ 1000 := by omega
  go_enter Tryd.func13, Tryd.ntmps13
  go_wp2
  go_loopw [5, 6] (fun v i wr => ∃ k : Nat, k ≤ zs.length ∧ k ≤ n ∧ i = .int .i64 k ∧ Own wr w.heap.size v (zs.take k) ∧ Below w.heap.size w wr) (fun _ i _ => zs.length - (intOf i).toNat)
  case atStart => exact ⟨0, by omega, by omega, rfl, hO, Below.refl _ _⟩
  case round =>
    clear hO
    obtain ⟨k, hk, hkn, rfl, hO, hB⟩ := hrel
    by_cases hlt : k < zs.length
    · have i1 : (k : Int) < (zs.length : Int) := by omega
      by_cases hln : k < n
      · have i2 : (k : Int) < (n : Int) := by omega
        obtain rfl := hsp (by omega)
        have c0 := (hB.cell (p := ⟨b, o + k, none⟩) (hb (by omega))).trans (hsrc k hlt)
        have HT := hid (show zs.take (k + 1) = zs.take k ++ [zs.getD k 0] by
          rw [List.take_succ_eq_append_getElem hlt, List.getD_eq_getElem?_getD, List.getElem?_eq_getElem hlt]; rfl)
        have KL := hid (show (zs.take k).length + 1 ≤ 140737488355328 by rw [List.length_take]; omega)
        generalize zs.getD k 0 = x at *
        generalize zs.take k = zk at *
        go_wp2_with (first | (at_builtin; refine wpList_push_any rfl (.tmp 18) (.tmp 23) rfl w.heap.size _ _ x rfl hO rfl KL.out hB.size _ _ ?_; intro v2 w2 hO2 hB2))
        go_roundw
        case rel => exact ⟨k + 1, by omega, by omega, by go_num, (by rw [HT.out]; exact hO2), hB.trans hB2⟩
        case measure => simp [intOf]; omega
      · obtain rfl : k = n := by omega
        go_wp2
        go_ret
        exact ⟨_, rfl, hO, hB⟩
    · obtain rfl : k = zs.length := by omega
      have HT := hid (show zs.take n = zs.take zs.length by rw [List.take_length, List.take_of_length_le (by omega)])
      clear hlt
      go_wp2
      go_ret
      exact ⟨_, rfl, (by rw [HT.out]; exact hO), hB⟩
/-- A disk that was just laid. -/
structure Born (D : DS) (n : Nat) (wd : Int) : Prop where
  ok : DsOk D
  np : D.np = n
  ops : D.ops = []
  pw : D.power = true
  arm : D.armed = 0
  epoch : D.epoch = 0
  reads : D.reads = 2
  writes : D.writes = 2
  syncs : D.syncs = 2
  chs : chooseF (D.readOf 0) (D.readOf 1) = (fS n wd 1, 0)
set_option maxRecDepth 100000 in
set_option maxHeartbeats 1000000 in
theorem begun_any (w : World) (n : Nat) (wd : Int) (hn : 3 ≤ n ∧ n ≤ 64) (hw : 1 ≤ wd ∧ wd ≤ 32) :
    Calls Tryd.prog 5 #[.int .i64 n, .int .i64 wd] w fun e w' => ∃ p F D, e = .returned (.pointer (some ⟨p, 0, none⟩)) ∧ DA w' w.heap.size F p D ∧ Born D n wd ∧ Below w.heap.size w w' := by
  have HNW := hid (New_ok w n hn.1 (by omega))
  obtain ⟨Z, hZ⟩ : ∃ Z : List Int, Z = List.replicate (256 * n) 0 := ⟨_, rfl⟩
  rw [← hZ] at HNW
  have okN : DsOk (newD Z) := by rw [hZ]; exact newD_ok hn.1 (by omega) List.length_replicate (bts_rep _)
  have npN : (newD Z).np = n := by
    show Z.length / 256 = n
    rw [hZ, List.length_replicate]; omega
  have pz : ∀ q, q < n → pgO Z q = zz 256 := fun q hq => by rw [hZ]; exact pgO_zero n q hq
  have RN := hid (show Rest (newD Z) n 0 from ⟨okN, npN, rfl, rfl, rfl, rfl, (by decide : (0 : Int) ≤ 1000), (by decide : (0 : Int) ≤ 1000), (by decide : (0 : Int) ≤ 1000)⟩)
  have BN := hid (show Blank (pgO (newD Z).img 0) (pgO (newD Z).img 1) from by show Blank (pgO Z 0) (pgO Z 1); rw [pz 0 (by omega), pz 1 (by omega)]; exact zz_blank)
  have j0 : (n : Int) ≤ 64 := by omega
  have HW := hid hw
  have HN := hid hn
  obtain ⟨B, hBB⟩ : ∃ B, B = w.heap.size := ⟨_, rfl⟩
  rw [← hBB] at HNW ⊢
  have B0 := hid (show B ≤ w.heap.size by omega)
  have NPN := hid npN
  clear hw hn hZ hBB okN npN pz
  go_enter Tryd.func5, Tryd.ntmps5
  go_wp2_with fail
  refine HNW.out.mono ?_
  rintro e w1 ⟨p, F, rfl, hD1, hB1⟩
  have HD1 := hid hD1
  have HB1 := hid hB1
  have HFT := hid (Format_rest w1 B F p (newD Z) hD1 (Nat.le_trans B0.out hB1.size) n 0 RN.out wd HW.out BN.out)
  clear hD1 hB1 HNW
  go_wp2_with fail
  refine HFT.out.mono ?_
  rintro e w2 ⟨rfl, D2, hFm, hnp2, hN2⟩
  obtain ⟨F2, hDA2, hB2, _⟩ := Nx.go HD1.out HB1.out B0.out hN2
  have hgd := hFm.good HW.out
  rw [show ({ newD Z with reads := (newD Z).reads + 2 } : DS).np = (newD Z).np from rfl, NPN.out] at hgd
  have HBo : Hid (Born D2 n wd) := hid ⟨hFm.ok, hnp2, hFm.ops, hFm.pw, hFm.arm, hFm.epoch, hFm.reads, hFm.writes, hFm.syncs, hgd.chooses hFm.ops⟩
  have HDA2 := hid hDA2
  have HB2 := hid hB2
  clear hFm hnp2 hN2 hDA2 hB2 hgd HFT
  go_wp2
  go_ret
  exact ⟨p, F2, D2, rfl, HDA2.out, HBo.out, HB2.out⟩
end Go.Proofs.YtaefjlbonflmdaaDoor
namespace Go.Proofs.YtaefjlbonflmdaaDoor
set_option linter.unusedVariables false
set_option linter.unusedSimpArgs false
open Go.RowKit
open Go.Proofs.YtaefjlbonflmdaaDoor.Ca (Ct ct0 ctC argV AS)
attribute [local go_sem ↓] Go.wp_at_zero Go.wp_at_succ

/-- A page to be staged. -/
structure MD where
  kind : Int
  load : List Int
def dM : MD := ⟨0, []⟩
def MdOk (m : MD) : Prop := Byts m.load ∧ m.load.length ≤ 140737488351232
/-- What is staged of it. -/
def mdV (m : MD) : Int × List Int := (wholeF m.kind 1 3, m.load.take 246)
def mdL (m : MD) (tp : Option Addr) (tc : Nat) : List Value := [.int .i64 m.kind, .slice tp m.load.length tc]
def Mds (w : World) (B : Nat) (sp : Option Addr) (ms : List MD) : Prop := ∃ b o, (0 < ms.length → b < B ∧ sp = some ⟨b, o, none⟩) ∧ ∀ i, i < ms.length → ∃ tp tc, w.rangeAt b (o + i * 2) (mdL (ms.getD i dM) tp tc) ∧ Src w tp tc (ms.getD i dM).load ∧ (0 < (ms.getD i dM).load.length → ∀ a, tp = some a → a.block < B)
theorem SrcB {w w1 : World} {B : Nat} {sp : Option Addr} {cap : Nat} {zs : List Int} (h : Src w sp cap zs) (hb : Below B w w1) (hB : 0 < zs.length → ∀ a, sp = some a → a.block < B) : Src w1 sp cap zs := by
  obtain ⟨h1, h2, b, o, h3, h4, h5⟩ := h
  refine ⟨h1, h2, b, o, fun hp => Nat.lt_of_lt_of_le (h3 hp) hb.size, h4, fun j hj => ?_⟩
  have : b < B := hB (by omega) _ (h4 (by omega))
  exact (hb.cell (p := ⟨b, o + j, none⟩) this).trans (h5 j hj)
theorem Mds.at {w w1 : World} {B : Nat} {sp : Option Addr} {ms : List MD} (h : Mds w B sp ms) (hb : Below B w w1) (i : Nat) (hi : i < ms.length) : ∃ b o tp tc, sp = some ⟨b, o, none⟩ ∧ b < B ∧ w1.cell? ⟨b, o + i * 2, none⟩ = some (.int .i64 (ms.getD i dM).kind) ∧ w1.cell? ⟨b, o + i * 2 + 1, none⟩ = some (.slice tp (ms.getD i dM).load.length tc) ∧ Src w1 tp tc (ms.getD i dM).load ∧ (0 < (ms.getD i dM).load.length → ∀ a, tp = some a → a.block < B) := by
  obtain ⟨b, o, h1, h2⟩ := h
  obtain ⟨q1, q2⟩ := h1 (by omega)
  obtain ⟨tp, tc, q3, q4, q5⟩ := h2 i hi
  exact ⟨b, o, tp, tc, q2, q1, (hb.cell (p := ⟨b, o + i * 2, none⟩) q1).trans (q3 0 _ rfl), (hb.cell (p := ⟨b, o + i * 2 + 1, none⟩) q1).trans (q3 1 _ rfl), SrcB q4 hb q5, q5⟩
/-- The same store, on other pages staged. -/
structure Sam (S S' : Sto) : Prop where
  p : S'.p = S.p
  g : S'.g = S.g
  st : S'.st = S.st
  pc : S'.pc = S.pc
  D : S'.D = S.D
  s : S'.s = S.s
  nx : S'.nx = S.nx
  ep : S'.ep = S.ep
theorem Sam.refl (S : Sto) : Sam S S := ⟨rfl, rfl, rfl, rfl, rfl, rfl, rfl, rfl⟩
theorem Sam.trans {S S' S'' : Sto} (h : Sam S S') (k : Sam S' S'') : Sam S S'' := ⟨k.p.trans h.p, k.g.trans h.g, k.st.trans h.st, k.pc.trans h.pc, k.D.trans h.D, k.s.trans h.s, k.nx.trans h.nx, k.ep.trans h.ep⟩
theorem SK.fp_lo {w : World} {base : Nat} {S : Sto} (h : SK w base S) {k : Nat} (hk : k ∈ S.fp) : base ≤ k := (h.in_lt (by rcases (Sto.mem S k).1 hk with e | e | e | e | e | e <;> simp [e])).1
set_option maxRecDepth 100000 in
set_option maxHeartbeats 2000000 in
theorem stages_any (w : World) (base : Nat) (S : Sto) (h : SK w base S) (hlv : liveF S.D S.ep = 0) (sp : Option Addr) (cap : Nat) (ms : List MD) (hM : Mds w base sp ms) (hok : ∀ i, i < ms.length → MdOk (ms.getD i dM)) (fr : Nat) (hfr : S.s.ma + S.cts.length = fr) (hml : ms.length ≤ 60) (hma : 2 ≤ S.s.ma) (hf1 : fr ≤ 1000) (hN : S.N < 1000000) (hnp : fr + ms.length ≤ S.D.np) :
    Calls Tryd.prog 11 #[.pointer (some ⟨S.st, 0, none⟩), .slice sp ms.length cap, .int .i64 fr] w fun e w' => e = .returned (.bool true) ∧ ∃ S', Sam S S' ∧ S'.N = S.N + ms.length ∧ S'.vs = S.vs ++ ms.map mdV ∧ SK w' base S' ∧ Below base w w' ∧ Fr S.fp w w' ∧ Gr w S.fp S'.fp := by
  have hbw := h.base
  have hl0 : (S.cts.length : Int) ≤ 1000 := by omega
  replace h := hid h
  replace hM := hid hM
  replace hok := hid hok
  generalize hst : S.st = st at *
  have HST := hid hst
  clear hst
  generalize hn : ms.length = n at *
  have HN := hid hn
  clear hn
  have hni : (n : Int) ≤ 60 := by omega
  have hfi : (fr : Int) ≤ 1000 := by omega
  go_enter Tryd.func11, Tryd.ntmps11
  go_wp2
  go_loopw [7] (fun i w' => ∃ (k : Nat) (S' : Sto), k ≤ n ∧ i = .int .i64 k ∧ Sam S S' ∧ S'.N = S.N + (ms.take k).length ∧ S'.vs = S.vs ++ (ms.take k).map mdV ∧ SK w' base S' ∧ Below base w w' ∧ Fr S.fp w w' ∧ Gr w S.fp S'.fp) (fun i _ => n - (intOf i).toNat)
  case atStart => exact ⟨0, S, by omega, rfl, Sam.refl S, by simp, by simp, h.out, Below.refl _ _, Fr.refl _ _, Gr.refl _ _⟩
  case round =>
    obtain ⟨k, S', hk, rfl, hsam, hnn, hvs, hSK, hbl, hfr, hgr⟩ := hrel
    have HFG := hid (And.intro hfr hgr)
    clear hfr hgr
    by_cases hk2 : k < n
    · obtain ⟨b, o, tp, tc, rfl, hbl1, q0, q1, hsrc, hsb⟩ := hM.out.at hbl k (by rw [HN.out]; exact hk2)
      obtain ⟨hby, hle⟩ := hok.out k hk2
      have HTK := hid (show S.vs ++ (ms.take (k + 1)).map mdV = S.vs ++ (ms.take k).map mdV ++ [mdV (ms.getD k dM)] by
        rw [List.take_succ_eq_append_getElem (by rw [HN.out]; exact hk2), List.map_append, List.append_assoc, List.getD_eq_getElem?_getD, List.getElem?_eq_getElem (by rw [HN.out]; exact hk2)]; rfl)
      have hkl : (ms.take k).length = k := by rw [List.length_take, HN.out]; omega
      have hct : S'.cts.length = S.cts.length + k := by
        have e1 := hSK.cl
        have e2 := h.out.cl
        rw [e1, hvs, List.length_append, List.length_map, hkl, ← e2]
      generalize ms.getD k dM = md at *
      have hbl : b < base := hbl1
      have HSAM := hid hsam
      have HNN := hid (And.intro hnn hkl)
      have HVS := hid hvs
      have HBL := hid ‹Below base w wr›
      have HBW := hid (Nat.le_trans hbw HBL.out.size)
      have KW := hid (fun w' => hwhole_any w' md.kind 1 3 (by omega) (by omega) (by omega))
      have hwb := wholeF_bd md.kind 1 3 (by omega)
      have HMV := hid (show mdV md = (wholeF md.kind 1 3, md.load.take 246) from rfl)
      have KSH := hid (fun w' (hb : Below base wr w') => hshort_any w' md.load tp tc (SrcB hsrc hb hsb) (by omega) 246 (by omega))
      have h8 : Byts (md.load.take 246) := fun x hx => hby x (List.mem_of_mem_take hx)
      have hz : (md.load.take 246).length ≤ 246 := by rw [List.length_take]; omega
      generalize wholeF md.kind 1 3 = kd at *
      generalize md.load.take 246 = zs at *
      have KST := hid (fun (w5 : World) (hb : Below wr.heap.size wr w5) (sp5 : Option Addr) (cap5 : Nat) (hs5 : Src w5 sp5 cap5 zs) (hn5 : sp5 = none → cap5 = 0) => (show Calls Tryd.prog 25 #[.pointer (some ⟨st, 0, none⟩), .int .i64 kd, .slice sp5 zs.length cap5] w5 fun e w' => ∃ S2, e = .returned (.tuple #[.int .i64 (fr + k), .int .i64 0]) ∧ (Sam S' S2 ∧ S2.N = S'.N + 1 ∧ S2.vs = S'.vs ++ [mdV md]) ∧ SK w' base S2 ∧ Below base wr w' ∧ Fr S'.fp wr w' ∧ Gr wr S'.fp S2.fp from by
        have := oStage_any w5 base S' (hSK.below hb) (by rw [hsam.D, hsam.ep]; exact hlv) (by omega) (by rw [hsam.s]; omega) (by rw [hnn, hkl]; omega) (by rw [hsam.s, hsam.D, hct]; push_cast; omega) kd ⟨hwb.1, hwb.2⟩ zs h8 hz sp5 cap5 hs5 hn5
        rw [hsam.st, HST.out, hsam.s, hct, show S.s.ma + ((S.cts.length + k : Nat) : Int) = (fr : Int) + k by push_cast; omega] at this
        refine this.mono fun e w' ⟨FC, lb, a, sv, c, he, hK, hF, hG⟩ => ⟨⟨S'.p, S'.g, st, S'.pc, S'.F, FC, lb, S'.D, S.s, S'.nx, S'.ep, S'.N + 1, a, sv, S'.cts ++ [c], S'.vs ++ [(kd, zs)]⟩, he, ⟨⟨rfl, rfl, (hsam.st.trans HST.out).symm, rfl, rfl, hsam.s.symm, rfl, rfl⟩, rfl, by rw [HMV.out]⟩, hK, ?_, (Fr.of_below (F := S'.fp) hb).trans hF (Gr.refl _ _), fun k q => (hG k q).imp id (fun z => Nat.le_trans hb.size z)⟩
        exact (hb.mono (by have := HBL.out.size; omega)).trans (hF.below (fun k hk => hSK.fp_lo hk) (by have := HBL.out.size; have := hb.size; omega))))
      clear hsam hnn hvs hSK hsrc hsb hby hle h8 hz hwb hct hkl hbl1
      have i1 : (k : Int) < (n : Int) := by omega
      go_wp2_with fail
      refine wp_region_noPanic ?_
      refine wp_region_held_drew (S := fun w' => Below base wr w') (by kernel_rfl) (Below.refl _ _).drew (fun hHeld => ?_)
      refine wpAnyH_take (i := 0) (oi := { dst := some 17, op := Op.move (Operand.tmp 0), type := 26, pos := "law.go:380", after := #[], guard := none }) (v := .pointer (some ⟨st, 0, none⟩)) rfl (by kernel_rfl) (by kernel_rfl) (by kernel_rfl) (fun _ _ _ h => h) (Or.inl ⟨by rfl, by intro w hS; go_simp⟩) hHeld ?_
      try simp only [Act.put, List.setIfInBounds_toArray, List.set_cons_zero, List.set_cons_succ]
      refine wpAnyH_take (i := 1) (oi := { dst := some 18, op := Op.move (Operand.tmp 1), type := 35, pos := "law.go:380", after := #[], guard := none }) (v := .slice (some ⟨b, o, none⟩) n cap) rfl (by kernel_rfl) (by kernel_rfl) (by kernel_rfl) (fun _ _ _ h => h) (Or.inl ⟨by rfl, by intro w hS; go_simp⟩) hHeld ?_
      try simp only [Act.put, List.setIfInBounds_toArray, List.set_cons_zero, List.set_cons_succ]
      refine wpAnyH_take (i := 2) (oi := { dst := some 19, op := Op.move (Operand.tmp 7), type := 3, pos := "law.go:380", after := #[], guard := none }) (v := .int .i64 k) rfl (by kernel_rfl) (by kernel_rfl) (by kernel_rfl) (fun _ _ _ h => h) (Or.inl ⟨by rfl, by intro w hS; go_simp⟩) hHeld ?_
      try simp only [Act.put, List.setIfInBounds_toArray, List.set_cons_zero, List.set_cons_succ]
      refine wpAnyH_take (i := 7) (oi := { dst := some 24, op := Op.move (Operand.tmp 1), type := 35, pos := "law.go:380", after := #[], guard := none }) (v := .slice (some ⟨b, o, none⟩) n cap) rfl (by kernel_rfl) (by kernel_rfl) (by kernel_rfl) (fun _ _ _ h => h) (Or.inl ⟨by rfl, by intro w hS; go_simp⟩) hHeld ?_
      try simp only [Act.put, List.setIfInBounds_toArray, List.set_cons_zero, List.set_cons_succ]
      refine wpAnyH_take (i := 8) (oi := { dst := some 25, op := Op.move (Operand.tmp 7), type := 3, pos := "law.go:380", after := #[], guard := none }) (v := .int .i64 k) rfl (by kernel_rfl) (by kernel_rfl) (by kernel_rfl) (fun _ _ _ h => h) (Or.inl ⟨by rfl, by intro w hS; go_simp⟩) hHeld ?_
      try simp only [Act.put, List.setIfInBounds_toArray, List.set_cons_zero, List.set_cons_succ]
      refine wpAnyH_take (i := 3) (oi := { dst := some 20, op := Op.indexAddr 35 (Operand.tmp 18) (Operand.tmp 19), type := 0, pos := "law.go:380", after := #[{ on := 1, ground := Ground.data }, { on := 2, ground := Ground.data }], guard := none }) (v := .pointer (some ⟨b, o + k * 2, none⟩)) rfl (by kernel_rfl) (by kernel_rfl) (by kernel_rfl) (fun _ _ _ h => h) (Or.inl ⟨by rfl, by intro w hS; go_simp⟩) hHeld ?_
      try simp only [Act.put, List.setIfInBounds_toArray, List.set_cons_zero, List.set_cons_succ]
      refine wpAnyH_take (i := 9) (oi := { dst := some 26, op := Op.indexAddr 35 (Operand.tmp 24) (Operand.tmp 25), type := 0, pos := "law.go:380", after := #[{ on := 7, ground := Ground.data }, { on := 8, ground := Ground.data }], guard := none }) (v := .pointer (some ⟨b, o + k * 2, none⟩)) rfl (by kernel_rfl) (by kernel_rfl) (by kernel_rfl) (fun _ _ _ h => h) (Or.inl ⟨by rfl, by intro w hS; go_simp⟩) hHeld ?_
      try simp only [Act.put, List.setIfInBounds_toArray, List.set_cons_zero, List.set_cons_succ]
      refine wpAnyH_take (i := 4) (oi := { dst := some 21, op := Op.fieldAddr 40 (Operand.tmp 20) 0, type := 0, pos := "law.go:380", after := #[{ on := 3, ground := Ground.data }], guard := none }) (v := .pointer (some ⟨b, o + k * 2, none⟩)) rfl (by kernel_rfl) (by kernel_rfl) (by kernel_rfl) (fun _ _ _ h => h) (Or.inl ⟨by rfl, by intro w hS; go_simp⟩) hHeld ?_
      try simp only [Act.put, List.setIfInBounds_toArray, List.set_cons_zero, List.set_cons_succ]
      refine wpAnyH_take (i := 10) (oi := { dst := some 27, op := Op.fieldAddr 40 (Operand.tmp 26) 1, type := 0, pos := "law.go:380", after := #[{ on := 9, ground := Ground.data }], guard := none }) (v := .pointer (some ⟨b, o + k * 2 + 1, none⟩)) rfl (by kernel_rfl) (by kernel_rfl) (by kernel_rfl) (fun _ _ _ h => h) (Or.inl ⟨by rfl, by intro w hS; go_simp⟩) hHeld ?_
      try simp only [Act.put, List.setIfInBounds_toArray, List.set_cons_zero, List.set_cons_succ]
      refine wpAnyH_take (i := 5) (oi := { dst := some 22, op := Op.load 3 (Operand.tmp 21), type := 3, pos := "law.go:380", after := #[{ on := 4, ground := Ground.data }], guard := none }) (v := .int .i64 md.kind) rfl (by kernel_rfl) (by kernel_rfl) (by kernel_rfl) (fun _ _ _ h => h) (Or.inl ⟨by rfl, by intro w hS; have hc := ((hS.cell (p := ⟨b, o + k * 2, none⟩) hbl).trans q0); go_simp⟩) hHeld ?_
      try simp only [Act.put, List.setIfInBounds_toArray, List.set_cons_zero, List.set_cons_succ]
      refine wpAnyH_take (i := 11) (oi := { dst := some 28, op := Op.load 29 (Operand.tmp 27), type := 29, pos := "law.go:380", after := #[{ on := 10, ground := Ground.data }], guard := none }) (v := .slice tp md.load.length tc) rfl (by kernel_rfl) (by kernel_rfl) (by kernel_rfl) (fun _ _ _ h => h) (Or.inl ⟨by rfl, by intro w hS; have hc := ((hS.cell (p := ⟨b, o + k * 2 + 1, none⟩) hbl).trans q1); go_simp⟩) hHeld ?_
      try simp only [Act.put, List.setIfInBounds_toArray, List.set_cons_zero, List.set_cons_succ]
      refine wpAnyH_ready (rs := [6]) (by kernel_rfl) (by simp) ?_
      refine (AllReadyH.cons (o := { dst := some 23, op := Op.call { callee := Callee.value (Operand.func 4), args := #[Operand.tmp 22, Operand.const (Value.int IntKind.i64 1), Operand.const (Value.int IntKind.i64 3)], argTypes := #[3, 3, 3] }, type := 3, pos := "law.go:380", after := #[{ on := 5, ground := Ground.data }], guard := none }) rfl (fun K hK => ?_) AllReadyH.nil)
      go_simp
      go_at_call 4
      refine (KW.out _).mono ?_
      rintro e w4 ⟨rfl, rfl⟩
      go_wp2_with fail
      refine hK.out _ _ (hHeld) (fun hHeld2 => ?_)
      clear hK K hHeld
      have hHeld := hHeld2
      clear hHeld2
      try simp only [Act.put, List.setIfInBounds_toArray, List.set_cons_zero, List.set_cons_succ]
      refine wpAnyH_ready (rs := [12]) (by kernel_rfl) (by simp) ?_
      refine (AllReadyH.cons (o := { dst := some 29, op := Op.call { callee := Callee.value (Operand.func 13), args := #[Operand.tmp 28, Operand.const (Value.int IntKind.i64 246)], argTypes := #[29, 3] }, type := 29, pos := "law.go:380", after := #[{ on := 11, ground := Ground.data }, { on := 6, ground := Ground.chain }], guard := none }) rfl (fun K hK => ?_) AllReadyH.nil)
      go_simp
      go_at_call 13
      refine (KSH.out _ hHeld).mono ?_
      rintro e w5 ⟨v5, rfl, hO5, hb5⟩
      obtain ⟨sp5, cap5, rfl, hs5, hn5⟩ := hO5.form
      have HB5 := hid (⟨hb5.os, hb5.tape, hb5.output, hb5.size, hb5.block⟩ : Below wr.heap.size wr w5)
      go_wp2_with fail
      refine hK.out _ _ (hHeld.trans (hb5.mono (Nat.le_trans HBW.out hHeld.size))) (fun hHeld2 => ?_)
      clear hK K hHeld
      have hHeld := hHeld2
      clear hHeld2
      try simp only [Act.put, List.setIfInBounds_toArray, List.set_cons_zero, List.set_cons_succ]
      refine wpAnyH_ready (rs := [13]) (by kernel_rfl) (by simp) ?_
      refine (AllReadyH.cons (o := { dst := some 30, op := Op.call { callee := Callee.value (Operand.func 25), args := #[Operand.tmp 17, Operand.tmp 23, Operand.tmp 29], argTypes := #[26, 3, 29] }, type := 65, pos := "law.go:380", after := #[{ on := 0, ground := Ground.data }, { on := 6, ground := Ground.data }, { on := 12, ground := Ground.data }, { on := 12, ground := Ground.chain }], guard := none }) rfl (fun K hK => ?_) AllReadyH.nil)
      go_simp
      go_at_call 25
      refine (KST.out w5 HB5.out sp5 cap5 hs5 hn5).mono ?_
      rintro e w6 ⟨S2, rfl, hS2, hK2, hB6, hF6, hG6⟩
      have HFG6 := hid (And.intro hF6 hG6)
      clear hF6 hG6
      go_wp2_with fail
      refine hK.out _ _ (hB6) (fun hHeld2 => ?_)
      clear hK K hHeld
      have hHeld := hHeld2
      clear hHeld2
      try simp only [Act.put, List.setIfInBounds_toArray, List.set_cons_zero, List.set_cons_succ]
      refine wpAnyH_take (i := 14) (oi := { dst := some 16, op := Op.move (Operand.tmp 30), type := 65, pos := "law.go:380", after := #[{ on := 13, ground := Ground.data }], guard := none }) (v := .tuple #[.int .i64 (fr + k), .int .i64 0]) rfl (by kernel_rfl) (by kernel_rfl) (by kernel_rfl) (fun _ _ _ h => h) (Or.inl ⟨by rfl, by intro w hS; go_simp⟩) hHeld ?_
      try simp only [Act.put, List.setIfInBounds_toArray, List.set_cons_zero, List.set_cons_succ]
      refine wpAnyH_take (i := 15) (oi := { dst := some 31, op := Op.extract (Operand.tmp 16) 0, type := 3, pos := "law.go:380", after := #[{ on := 14, ground := Ground.data }], guard := none }) (v := .int .i64 (fr + k)) rfl (by kernel_rfl) (by kernel_rfl) (by kernel_rfl) (fun _ _ _ h => h) (Or.inl ⟨by rfl, by intro w hS; go_simp⟩) hHeld ?_
      try simp only [Act.put, List.setIfInBounds_toArray, List.set_cons_zero, List.set_cons_succ]
      refine wpAnyH_take (i := 16) (oi := { dst := some 32, op := Op.extract (Operand.tmp 16) 1, type := 42, pos := "law.go:380", after := #[{ on := 14, ground := Ground.data }, { on := 17, ground := Ground.gcOnly Departure.lateStores }], guard := none }) (v := .int .i64 0) rfl (by kernel_rfl) (by kernel_rfl) (by kernel_rfl) (fun _ _ _ h => h) (Or.inl ⟨by rfl, by intro w hS; go_simp⟩) hHeld ?_
      try simp only [Act.put, List.setIfInBounds_toArray, List.set_cons_zero, List.set_cons_succ]
      refine wpAnyH_take (i := 17) (oi := { dst := some 8, op := Op.assign (Operand.tmp 31), type := 3, pos := "law.go:380", after := #[{ on := 15, ground := Ground.data }, { on := 13, ground := Ground.chain }, { on := 0, ground := Ground.phase }, { on := 1, ground := Ground.phase }, { on := 2, ground := Ground.phase }, { on := 3, ground := Ground.phase }, { on := 4, ground := Ground.phase }, { on := 5, ground := Ground.phase }, { on := 6, ground := Ground.phase }, { on := 7, ground := Ground.phase }, { on := 8, ground := Ground.phase }, { on := 9, ground := Ground.phase }, { on := 10, ground := Ground.phase }, { on := 11, ground := Ground.phase }, { on := 12, ground := Ground.phase }, { on := 13, ground := Ground.phase }, { on := 14, ground := Ground.phase }, { on := 15, ground := Ground.phase }, { on := 16, ground := Ground.textOnly Departure.lateStores }], guard := none }) (v := .int .i64 (fr + k)) rfl (by kernel_rfl) (by kernel_rfl) (by kernel_rfl) (fun _ _ _ h => h) (Or.inl ⟨by rfl, by intro w hS; go_simp⟩) hHeld ?_
      try simp only [Act.put, List.setIfInBounds_toArray, List.set_cons_zero, List.set_cons_succ]
      refine wpAnyH_take (i := 18) (oi := { dst := some 9, op := Op.assign (Operand.tmp 32), type := 42, pos := "law.go:380", after := #[{ on := 16, ground := Ground.data }, { on := 17, ground := Ground.chain }, { on := 0, ground := Ground.phase }, { on := 1, ground := Ground.phase }, { on := 2, ground := Ground.phase }, { on := 3, ground := Ground.phase }, { on := 4, ground := Ground.phase }, { on := 5, ground := Ground.phase }, { on := 6, ground := Ground.phase }, { on := 7, ground := Ground.phase }, { on := 8, ground := Ground.phase }, { on := 9, ground := Ground.phase }, { on := 10, ground := Ground.phase }, { on := 11, ground := Ground.phase }, { on := 12, ground := Ground.phase }, { on := 13, ground := Ground.phase }, { on := 14, ground := Ground.phase }, { on := 15, ground := Ground.phase }, { on := 16, ground := Ground.phase }, { on := 17, ground := Ground.phase }], guard := none }) (v := .int .i64 0) rfl (by kernel_rfl) (by kernel_rfl) (by kernel_rfl) (fun _ _ _ h => h) (Or.inl ⟨by rfl, by intro w hS; go_simp⟩) hHeld ?_
      try simp only [Act.put, List.setIfInBounds_toArray, List.set_cons_zero, List.set_cons_succ]
      refine wpAnyH_done (by kernel_rfl) ?_ _
      refine NoPanic.normal ?_
      have HBZ := hid hHeld
      clear hHeld
      have HS2 := hid hS2
      have HK2 := hid hK2
      clear hS2 hK2 hB6
      go_wp2
      go_roundw
      case rel => exact ⟨k + 1, S2, by omega, by go_num, HSAM.out.trans HS2.out.1, by (have e9 := HN.out; rw [HS2.out.2.1, HNN.out.1, HNN.out.2, List.length_take]; omega), by rw [HS2.out.2.2, HVS.out]; exact (HTK.out).symm, HK2.out, HBL.out.trans HBZ.out, HFG.out.1.trans HFG6.out.1 HFG.out.2, HFG.out.2.trans HFG6.out.2 HFG.out.1.size⟩
      case measure => simp [intOf]; omega
    · obtain rfl : k = n := by omega
      have HT := hid (show ms.take k = ms by rw [← HN.out, List.take_length])
      replace hsam := hid hsam
      replace hnn := hid hnn
      replace hvs := hid hvs
      replace hSK := hid hSK
      replace hbl := hid hbl
      go_wp2
      go_ret
      exact ⟨rfl, S', hsam.out, by rw [hnn.out, HT.out, HN.out], by rw [hvs.out, HT.out], hSK.out, hbl.out, HFG.out.1, HFG.out.2⟩
end Go.Proofs.YtaefjlbonflmdaaDoor
namespace Go.Proofs.YtaefjlbonflmdaaDoor
set_option linter.unusedVariables false
set_option linter.unusedSimpArgs false
open Go.RowKit
open Go.Proofs.YtaefjlbonflmdaaDoor.Ca (Ct ct0 ctC argV AS)
attribute [local go_sem ↓] Go.wp_at_zero Go.wp_at_succ

end Go.Proofs.YtaefjlbonflmdaaDoor
namespace Go.Proofs.YtaefjlbonflmdaaDoor
set_option linter.unusedVariables false
set_option linter.unusedSimpArgs false
open Go.RowKit
open Go.Proofs.YtaefjlbonflmdaaDoor.Ca (Ct ct0 ctC argV AS)
attribute [local go_sem ↓] Go.wp_at_zero Go.wp_at_succ

theorem Mds.take {w : World} {B : Nat} {sp : Option Addr} {ms : List MD} (h : Mds w B sp ms) (n : Nat) : Mds w B sp (ms.take n) := by
  obtain ⟨b, o, h1, h2⟩ := h
  refine ⟨b, o, fun hp => h1 (by rw [List.length_take] at hp; omega), fun i hi => ?_⟩
  rw [List.length_take] at hi
  have e : (ms.take n).getD i dM = ms.getD i dM := by
    rw [List.getD_eq_getElem?_getD, List.getD_eq_getElem?_getD, List.getElem?_take, if_pos (by omega)]
  rw [e]; exact h2 i (by omega)
set_option maxRecDepth 100000 in
set_option maxHeartbeats 2000000 in
theorem cut_any (w : World) (sp : Option Addr) (cap : Nat) (ms : List MD) (hM : Mds w w.heap.size sp ms) (hc : ms.length ≤ cap) (hcl : cap ≤ 9223372036854775807) :
    Calls Tryd.prog 10 #[.slice sp ms.length cap, .int .i64 12] w fun e w' => e = .returned (.slice sp (ms.take 12).length cap) ∧ w' = w := by
  rw [List.length_take]
  by_cases h : 12 < ms.length
  · obtain ⟨b, o, h1, _⟩ := hM
    obtain ⟨-, rfl⟩ := h1 (by omega)
    rw [show min 12 ms.length = 12 by omega]
    have i0 : (12 : Int) < (ms.length : Int) := by omega
    have i1 : (12 : Int) ≤ (cap : Int) := by omega
    have i2 : (ms.length : Int) ≤ (cap : Int) := by omega
    have i3 : (cap : Int) ≤ 9223372036854775807 := by omega
    generalize ms.length = n at *
    go_enter Tryd.func10, Tryd.ntmps10
    go_wp2
    go_ret
    exact ⟨rfl, rfl⟩
  · rw [show min 12 ms.length = ms.length by omega]
    have i0 : (ms.length : Int) ≤ 12 := by omega
    generalize ms.length = n at *
    go_enter Tryd.func10, Tryd.ntmps10
    go_wp2
    go_ret
    exact ⟨rfl, rfl⟩
/-- A disk that was just laid, opened. -/
def opD (D : DS) : DS := { D with reads := D.reads + 2, epoch := D.epoch + 1 }
theorem Born.live {D : DS} {n : Nat} {wd : Int} (h : Born D n wd) : liveF (opD D) 1 = 0 := by
  unfold liveF opD
  rw [if_neg (by show ¬ (D.epoch + 1 ≠ 1); rw [h.epoch]; decide), if_pos h.pw]
theorem open_born (w : World) (base : Nat) (F : List Nat) (p : Nat) (D : DS) (h : DA w base F p D) (n : Nat) (wd : Int) (hB : Born D n wd) :
    Calls Tryd.prog 18 #[.pointer (some ⟨p, 0, none⟩)] w fun e w' => ∃ g, e = .returned (.tuple #[.pointer (some ⟨g, 0, none⟩), .int .i64 0]) ∧ w.heap.size ≤ g ∧ FK w' g p (fS n wd 1) 2 1 ∧ DA w' base F p (opD D) ∧ Fr F w w' := by
  have := Open_ok w base F p D h hB.pw (by rw [hB.reads]; decide) (by rw [hB.epoch]; decide) (fS n wd 1) hB.chs (by rw [hB.np]; rfl)
  refine this.mono fun e w' ⟨g, h1, h2, h3, h4, h5⟩ => ⟨g, h1, h2, ?_, h4, h5⟩
  rw [show (fS n wd 1).ma = 2 from rfl, hB.epoch] at h3
  exact h3
/-- A store over it. -/
def bornS (p g st pc : Nat) (F FC : List Nat) (D : DS) (n : Nat) (wd room : Int) : Sto := ⟨p, g, st, pc, F, FC, [], opD D, fS n wd 1, 2, 1, 0, Ca.newA room, .slice none 0 0, [], []⟩
theorem new_born (w : World) (base : Nat) (F : List Nat) (p : Nat) (D : DS) (h : DA w base F p (opD D)) (n : Nat) (wd : Int) (hB : Born D n wd) (g : Nat) (hf : FK w g p (fS n wd 1) 2 1) (hbg : base ≤ g) (room : Int) (hr : 0 ≤ room ∧ room ≤ 4096) :
    Calls Tryd.prog 19 #[.pointer (some ⟨g, 0, none⟩), .int .i64 room] w fun e w' => ∃ st pc FC, e = .returned (.tuple #[.pointer (some ⟨st, 0, none⟩), .int .i64 0]) ∧ SK w' base (bornS p g st pc F FC D n wd room) ∧ Below base w w' := by
  have := oNew_any w base F p (opD D) h g (fS n wd 1) 2 1 hf hbg hB.live room hr 2 rfl
  refine this.mono fun e w' ⟨st, pc, FC, he, hK, _, _, hF⟩ => ⟨st, pc, FC, he, hK, hF.below (fun k hk => ?_) ?_⟩
  · rcases List.mem_cons.1 hk with e | e
    · rw [e]; exact hbg
    · exact (h.lt k e).1
  · have := hlt_ hf; omega
theorem build97 (w : World) : (Instr.buildSlice 29 1 #[(0, .int .u8 97)]).run Tryd.prog w = .ok (.slice (some ⟨w.heap.size, 0, none⟩) 1 1) (w.alloc (.cells #[.int .u8 97] 5)) := by kernel_rfl
/-- The bytes of a constant text: what lies behind them is marked. -/
def w97 (w : World) : World := w.alloc (.cells #[.int .u8 97] 5 (1, 2))
theorem push_modify (a : Array Obj) (x : Obj) (f : Obj → Obj) : (a.push x).modify a.size f = a.push (f x) := by
  apply Array.ext
  · simp
  · intro i h1 h2
    simp only [Array.getElem_modify, Array.getElem_push]
    by_cases h : a.size = i
    · subst h; simp
    · have hi : i < a.size := by simp at h1; omega
      simp [h, hi]
theorem conv97 (w : World) : (convert 29 29 (.slice (some ⟨w.heap.size, 0, none⟩) 1 1)).run Tryd.prog (w.alloc (.cells #[.int .u8 97] 5)) = .ok (.slice (some ⟨w.heap.size, 0, none⟩) 1 1) (w97 w) := by
  have hsh : (w.alloc (.cells #[.int .u8 97] 5)).shape? w.heap.size = some (5, 1) := by
    unfold World.shape?
    rw [hnew w (.cells #[.int .u8 97] 5)]; rfl
  have hfr : (w.alloc (.cells #[.int .u8 97] 5)).freeze ⟨w.heap.size, 1, none⟩ 1 = w97 w := by
    unfold World.freeze
    rw [if_neg (by decide)]
    show ({ w.alloc (.cells #[.int .u8 97] 5) with heap := (w.heap.push (.cells #[.int .u8 97] 5)).modify w.heap.size _ } : World) = _
    rw [push_modify]; rfl
  simp [convert, run_underlying Tryd.underlying29, run_underlying Tryd.underlying5, markStringish, hsh, hfr]
theorem src97 (w : World) : Src (w97 w) (some ⟨w.heap.size, 0, none⟩) 1 [97] :=
  ⟨Nat.le_refl _, by decide, w.heap.size, 0, fun _ => by show w.heap.size < (w97 w).heap.size; simp [w97], fun _ => rfl, fun j hj => by
    obtain rfl : j = 0 := by simpa using hj
    show (w97 w).cell? ⟨w.heap.size, 0, none⟩ = _
    unfold w97 World.cell?
    rw [hnew w (.cells #[.int .u8 97] 5 (1, 2))]; rfl⟩
theorem bel97 (w : World) : Below w.heap.size w (w97 w) := below_new w _
end Go.Proofs.YtaefjlbonflmdaaDoor
namespace Go.Proofs.YtaefjlbonflmdaaDoor
set_option linter.unusedVariables false
set_option linter.unusedSimpArgs false
open Go.RowKit
open Go.Proofs.YtaefjlbonflmdaaDoor.Ca (Ct ct0 ctC argV AS)
attribute [local go_sem ↓] Go.wp_at_zero Go.wp_at_succ

theorem acted_off {D : DS} (h : D.power = false) : D.acted.power = false := by
  unfold DS.acted
  split
  · exact h
  · split
    · rfl
    · exact h
theorem wr_off {D : DS} {o : OW} (h : D.power = false) : (D.wr o).power = false := acted_off (D := ({ D.pushed o with writes := D.writes + 1 } : DS)) h
theorem appD_off : ∀ (l : List (Int × List Int)) (D : DS) (m : Nat), D.power = false → (appD D m l).power = false
  | [], D, m, h => h
  | v :: r, D, m, h => appD_off r _ _ (wr_off h)
/-- Power goes within the appends. -/
theorem appD_dead : ∀ (l : List (Int × List Int)) (D : DS) (m : Nat), 1 ≤ D.armed → D.armed ≤ l.length → (appD D m l).power = false
  | [], D, m, h1, h2 => by simp at h2; omega
  | v :: r, D, m, h1, h2 => by
    obtain ⟨a1, a2, a3⟩ := wr_arm D ⟨m, pageP v.1 m v.2⟩ (by omega)
    by_cases e : D.armed = 1
    · exact appD_off r _ _ (a3 e)
    · rw [if_neg (by omega)] at a1
      simp only [List.length_cons] at h2
      exact appD_dead r _ _ (by rw [a1]; omega) (by rw [a1]; push_cast at h2 ⊢; omega)
/-- .. or behind them. -/
theorem appD_arm : ∀ (l : List (Int × List Int)) (D : DS) (m : Nat), (l.length : Int) < D.armed →
    (appD D m l).armed = D.armed - l.length ∧ (appD D m l).power = D.power ∧ (appD D m l).epoch = D.epoch ∧ (appD D m l).ops.length = D.ops.length + l.length ∧ (appD D m l).writes = D.writes + l.length ∧ (appD D m l).syncs = D.syncs
  | [], D, m, h => by simp [appD]
  | v :: r, D, m, h => by
    simp only [List.length_cons] at h
    obtain ⟨a1, a2, a3⟩ := wr_arm D ⟨m, pageP v.1 m v.2⟩ (by push_cast at h; omega)
    obtain ⟨e1, e2, e3, e4, e5, e6⟩ := wr_img D ⟨m, pageP v.1 m v.2⟩
    rw [if_neg (by push_cast at h; omega)] at a1
    obtain ⟨q1, q2, q3, q4, q5, q6⟩ := appD_arm r (D.wr ⟨m, pageP v.1 m v.2⟩) (m + 1) (by rw [a1]; push_cast at h; omega)
    simp only [appD, List.length_cons]
    refine ⟨by rw [q1, a1]; push_cast; omega, by rw [q2, a2 (by push_cast at h; omega)], by rw [q3, e3], by rw [q4, e2, List.length_append, List.length_singleton]; omega, by rw [q5, e5]; push_cast; omega, by rw [q6, e6]⟩
theorem runS_arm (D : DS) (s2 : Sup) (h : 1 ≤ D.armed) : (runS D [.sync, .lay s2 0 0, .sync]).2 = if D.armed ≤ 3 then 2 else 0 := by
  have hz : ∀ X : DS, X.armed = 1 → St.go .sync X = (X.acted, 2) := fun X hX => by show sy X = _; unfold sy; rw [if_pos hX]
  have hy : ∀ X : DS, X.armed ≠ 1 → St.go .sync X = (X.synced, 0) := fun X hX => by show sy X = _; unfold sy; rw [if_neg hX]
  by_cases e1 : D.armed = 1
  · rw [runS, hz D e1, if_neg (show ¬ ((2 : Int) = 0) by decide), if_pos (by omega)]
  · have s1 := (sync_arm D (by omega) e1).1
    rw [if_neg (by omega)] at s1
    rw [runS, hy D e1, if_pos rfl, runS]
    show (if D.synced.actE = 0 then runS (D.synced.wr _) [.sync] else (D.synced.wr _, D.synced.actE)).2 = _
    by_cases e2 : D.synced.armed = 1
    · rw [actE_2 e2, if_neg (by decide), if_pos (by omega)]
    · rw [actE_0 e2, if_pos rfl, runS]
      have w1 := (wr_arm D.synced ⟨(s2.ge % 2).toNat, secP s2⟩ (by omega)).1
      rw [if_neg (by omega)] at w1
      by_cases e3 : (D.synced.wr ⟨(s2.ge % 2).toNat, secP s2⟩).armed = 1
      · rw [hz _ e3, if_neg (show ¬ ((2 : Int) = 0) by decide), if_pos (by omega)]
      · rw [hy _ e3, if_pos rfl, runS, if_neg (by omega)]
theorem live_pw {D : DS} {ep : Int} (h : liveF D ep = 0) : D.power = true := by
  unfold liveF at h
  by_cases e : D.epoch ≠ ep
  · rw [if_pos e] at h; cases h
  · rw [if_neg e] at h
    by_cases p : D.power = true
    · exact p
    · rw [if_neg p] at h; cases h
/-- How a publish with an armed disk ends. -/
theorem pubEnd_arm {S : Sto} {m : Nat} {hd c : Int} {D' : DS} {s' : Sup} (h : PubEnd S m hd c D' s') (ha : 1 ≤ S.D.armed) :
    (S.D.armed ≤ S.vs.length + 3 → c = 2 ∧ s' = S.s) ∧ (S.vs.length + 3 < S.D.armed → c = 0 ∧ s' = ⟨S.s.wd, S.s.ge + 1, (m + S.vs.length : Nat), hd, S.s.pg⟩) := by
  rcases h with ⟨i, hi, h1, h2, h3, h4, h5⟩ | ⟨h1, h2, h3, h4⟩
  · refine ⟨fun _ => ⟨h3, h5⟩, fun q => ?_⟩
    have hl : (S.vs.take i).length = i := by rw [List.length_take]; omega
    have := (appD_arm (S.vs.take i) S.D m (by rw [hl]; omega)).1
    rw [h1, hl] at this
    omega
  · have hp := live_pw h1
    have hk : (S.vs.length : Int) < S.D.armed := by
      rcases Int.lt_or_le (S.vs.length : Int) S.D.armed with q | q
      · exact q
      · have := appD_dead S.vs S.D m ha q
        rw [this] at hp; cases hp
    obtain ⟨a1, _⟩ := appD_arm S.vs S.D m hk
    rw [runS_arm _ _ (by rw [a1]; omega), a1] at h2
    refine ⟨fun q => ?_, fun q => ?_⟩
    · rw [if_pos (by omega)] at h2
      exact ⟨h2, by rw [h4, h2]; rfl⟩
    · rw [if_neg (by omega)] at h2
      exact ⟨h2, by rw [h4, h2]; rfl⟩
set_option maxRecDepth 100000 in
set_option maxHeartbeats 2000000 in
theorem omark_min (w : World) (st g p : Nat) (s : Sup) (nx ep : Int) (c0 : w.cell? ⟨st, 0, none⟩ = some (.pointer (some ⟨g, 0, none⟩))) (hf : FK w g p s nx ep) :
    Calls Tryd.prog 67 #[.pointer (some ⟨st, 0, none⟩)] w fun e w' => e = .returned (.int .i64 s.ma) ∧ Below w.heap.size w w' := by
  have HL := hid (FSuper_any w g p s nx ep hf)
  clear hf
  go_enter Tryd.func67, Tryd.ntmps67
  go_wp2_with fail
  refine HL.out.mono ?_
  rintro e w1 ⟨rfl, hb⟩
  go_wp2_with (first | refine wpList_fieldS2 rfl _ rfl s s.ma rfl rfl ?_)
  go_ret
  exact ⟨rfl, hb⟩
set_option maxRecDepth 100000 in
set_option maxHeartbeats 2000000 in
theorem oNext_min (w : World) (st g p : Nat) (s : Sup) (nx ep : Int) (c0 : w.cell? ⟨st, 0, none⟩ = some (.pointer (some ⟨g, 0, none⟩))) (hf : FK w g p s nx ep) (sp : Option Addr) (n cap : Nat) (c3 : w.cell? ⟨st, 3, none⟩ = some (.slice sp n cap)) (hl : n ≤ 100000) (hm : 0 ≤ s.ma ∧ s.ma ≤ 100000) :
    Calls Tryd.prog 45 #[.pointer (some ⟨st, 0, none⟩)] w fun e w' => e = .returned (.int .i64 (s.ma + n)) ∧ Below w.heap.size w w' := by
  have hst : st < w.heap.size := block_lt_of_cell c0
  have HM := hid (fun w1 (q : Below w.heap.size w w1) => omark_min w1 st g p s nx ep ((q.cell (p := ⟨st, 0, none⟩) hst).trans c0) (hf.below q))
  clear hf c0
  generalize s.ma = ma at *
  obtain ⟨m0, m1⟩ := hm
  have i0 : (n : Int) ≤ 100000 := by omega
  go_enter Tryd.func45, Tryd.ntmps45
  go_wp2
  refine wp_region_noPanic ?_
  refine wp_region_held_drew (S := fun w' => Below w.heap.size w w') (by kernel_rfl) (Below.refl _ _).drew (fun hHeld => ?_)
  refine wpAnyH_take (i := 0) (oi := { dst := some 3, op := Op.move (Operand.tmp 0), type := 26, pos := "store.go:52", after := #[], guard := none }) (v := .pointer (some ⟨st, 0, none⟩)) rfl (by kernel_rfl) (by kernel_rfl) (by kernel_rfl) (fun _ _ _ h => h) (Or.inl ⟨by rfl, by intro w hS; go_simp⟩) hHeld ?_
  try simp only [Act.put, List.setIfInBounds_toArray, List.set_cons_zero, List.set_cons_succ]
  refine wpAnyH_take (i := 2) (oi := { dst := some 5, op := Op.move (Operand.tmp 0), type := 26, pos := "store.go:52", after := #[], guard := none }) (v := .pointer (some ⟨st, 0, none⟩)) rfl (by kernel_rfl) (by kernel_rfl) (by kernel_rfl) (fun _ _ _ h => h) (Or.inl ⟨by rfl, by intro w hS; go_simp⟩) hHeld ?_
  try simp only [Act.put, List.setIfInBounds_toArray, List.set_cons_zero, List.set_cons_succ]
  refine wpAnyH_take (i := 3) (oi := { dst := some 6, op := Op.nilCheck (Operand.tmp 5), type := 0, pos := "store.go:52", after := #[{ on := 2, ground := Ground.data }], guard := none }) (v := .pointer (some ⟨st, 0, none⟩)) rfl (by kernel_rfl) (by kernel_rfl) (by kernel_rfl) (fun _ _ _ h => h) (Or.inl ⟨by rfl, by intro w hS; go_simp⟩) hHeld ?_
  try simp only [Act.put, List.setIfInBounds_toArray, List.set_cons_zero, List.set_cons_succ]
  refine wpAnyH_take (i := 4) (oi := { dst := some 7, op := Op.fieldAddr 73 (Operand.tmp 6) 3, type := 0, pos := "store.go:52", after := #[{ on := 3, ground := Ground.data }], guard := none }) (v := .pointer (some ⟨st, 3, none⟩)) rfl (by kernel_rfl) (by kernel_rfl) (by kernel_rfl) (fun _ _ _ h => h) (Or.inl ⟨by rfl, by intro w hS; go_simp⟩) hHeld ?_
  try simp only [Act.put, List.setIfInBounds_toArray, List.set_cons_zero, List.set_cons_succ]
  refine wpAnyH_take (i := 5) (oi := { dst := some 8, op := Op.load 71 (Operand.tmp 7), type := 71, pos := "store.go:52", after := #[{ on := 4, ground := Ground.data }], guard := none }) (v := .slice sp n cap) rfl (by kernel_rfl) (by kernel_rfl) (by kernel_rfl) (fun _ _ _ h => h) (Or.inl ⟨by rfl, by intro w hS; have hc := (hS.cell (p := ⟨st, 3, none⟩) hst).trans c3; go_simp⟩) hHeld ?_
  try simp only [Act.put, List.setIfInBounds_toArray, List.set_cons_zero, List.set_cons_succ]
  refine wpAnyH_take (i := 6) (oi := { dst := some 9, op := Op.call { callee := Callee.builtin Builtin.len, args := #[Operand.tmp 8], argTypes := #[71] }, type := 3, pos := "store.go:52", after := #[{ on := 5, ground := Ground.data }], guard := none }) (v := .int .i64 n) rfl (by kernel_rfl) (by kernel_rfl) (by kernel_rfl) (fun _ _ _ h => h) (Or.inl ⟨by rfl, by intro w hS; go_simp⟩) hHeld ?_
  try simp only [Act.put, List.setIfInBounds_toArray, List.set_cons_zero, List.set_cons_succ]
  refine wpAnyH_ready (rs := [1]) (by kernel_rfl) (by simp) ?_
  refine (AllReadyH.cons (o := { dst := some 4, op := Op.call { callee := Callee.value (Operand.func 67), args := #[Operand.tmp 3], argTypes := #[26] }, type := 3, pos := "store.go:52", after := #[{ on := 0, ground := Ground.data }], guard := none }) rfl (fun K hK => ?_) AllReadyH.nil)
  go_simp
  go_at_call 67
  refine (HM.out _ hHeld).mono ?_
  rintro e w4 ⟨rfl, hb4⟩
  go_wp2_with fail
  refine hK.out _ _ (hHeld.trans (hb4.mono hHeld.size)) (fun hHeld2 => ?_)
  clear hK K hHeld
  have hHeld := hHeld2
  clear hHeld2
  clear hb4
  try simp only [Act.put, List.setIfInBounds_toArray, List.set_cons_zero, List.set_cons_succ]
  refine wpAnyH_take (i := 7) (oi := { dst := some 10, op := Op.binOp BinOp.add 3 (Operand.tmp 4) (Operand.tmp 9) 3, type := 3, pos := "store.go:52", after := #[{ on := 1, ground := Ground.data }, { on := 6, ground := Ground.data }], guard := none }) (v := .int .i64 (ma + n)) rfl (by kernel_rfl) (by kernel_rfl) (by kernel_rfl) (fun _ _ _ h => h) (Or.inl ⟨by rfl, by intro w hS; (go_simp; all_goals exact wrap_i64_id _ (by omega) (by omega))⟩) hHeld ?_
  try simp only [Act.put, List.setIfInBounds_toArray, List.set_cons_zero, List.set_cons_succ]
  refine wpAnyH_take (i := 8) (oi := { dst := some 2, op := Op.assign (Operand.tmp 10), type := 3, pos := "store.go:52", after := #[{ on := 7, ground := Ground.data }, { on := 1, ground := Ground.chain }, { on := 0, ground := Ground.phase }, { on := 1, ground := Ground.phase }, { on := 2, ground := Ground.phase }, { on := 3, ground := Ground.phase }, { on := 4, ground := Ground.phase }, { on := 5, ground := Ground.phase }, { on := 6, ground := Ground.phase }, { on := 7, ground := Ground.phase }], guard := none }) (v := .int .i64 (ma + n)) rfl (by kernel_rfl) (by kernel_rfl) (by kernel_rfl) (fun _ _ _ h => h) (Or.inl ⟨by rfl, by intro w hS; go_simp⟩) hHeld ?_
  try simp only [Act.put, List.setIfInBounds_toArray, List.set_cons_zero, List.set_cons_succ]
  refine wpAnyH_done (by kernel_rfl) ?_ _
  refine NoPanic.normal ?_
  go_wp2
  go_ret
  exact ⟨rfl, hHeld⟩
end Go.Proofs.YtaefjlbonflmdaaDoor
