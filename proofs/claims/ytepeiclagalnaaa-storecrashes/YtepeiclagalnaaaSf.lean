import Derived.Test.YtepeiclagalnaaaSe
namespace Go.Proofs.Ytepeiclagalnaaa
set_option linter.unusedVariables false
set_option linter.unusedSimpArgs false
open Go.RowKit
open Go.Proofs.Ytepeiclagalnaaa.Ca (Ct ct0 ctC argV AS)
attribute [local go_sem ↓] Go.wp_at_zero Go.wp_at_succ

/-- The same store behind at most k reads. -/
structure Rd (k : Nat) (S S' : Sto) : Prop where
  p : S'.p = S.p
  g : S'.g = S.g
  st : S'.st = S.st
  pc : S'.pc = S.pc
  s : S'.s = S.s
  nx : S'.nx = S.nx
  ep : S'.ep = S.ep
  vs : S'.vs = S.vs
  cts : S'.cts = S.cts
  D : S'.D = { S.D with reads := S'.D.reads }
  rd : S.D.reads ≤ S'.D.reads ∧ S'.D.reads ≤ S.D.reads + k
  N : S'.N ≤ S.N + 2 * k
theorem Rd.refl (S : Sto) : Rd 0 S S := ⟨rfl, rfl, rfl, rfl, rfl, rfl, rfl, rfl, rfl, rfl, ⟨by omega, by omega⟩, by omega⟩
theorem Rd.trans {k l : Nat} {S S' S'' : Sto} (h : Rd k S S') (q : Rd l S' S'') : Rd (k + l) S S'' :=
  ⟨q.p.trans h.p, q.g.trans h.g, q.st.trans h.st, q.pc.trans h.pc, q.s.trans h.s, q.nx.trans h.nx, q.ep.trans h.ep, q.vs.trans h.vs, q.cts.trans h.cts, by rw [q.D, h.D], ⟨by have := h.rd; have := q.rd; omega, by have := h.rd; have := q.rd; push_cast; omega⟩, by have := h.N; have := q.N; omega⟩
theorem Rd.live {k : Nat} {S S' : Sto} (h : Rd k S S') : liveF S'.D S'.ep = liveF S.D S.ep := by rw [h.D, h.ep]; rfl
/-- What a store knows of a page. -/
def Kn (S : Sto) (q : Nat) (v : Int × List Int) : Prop :=
  (2 ≤ q ∧ (q : Int) < S.s.ma ∧ q < S.D.np ∧ unpackF q (S.D.readOf q) = (v.1, v.2, 0) ∧ (1 ≤ v.1 ∧ v.1 ≤ 3) ∧ v.2.length ≤ 246 ∧ Byts v.2) ∨ (∃ j : Nat, j < S.cts.length ∧ (q : Int) = S.s.ma + j ∧ S.vs.getD j (0, []) = v)
theorem Kn.rd {k : Nat} {S S' : Sto} {q : Nat} {v : Int × List Int} (h : Kn S q v) (r : Rd k S S') : Kn S' q v := by
  unfold Kn
  rw [r.D, r.s, r.cts, r.vs]
  exact h
theorem findL_memC {l : List (Int × Ct)} {k : Int} {c : Ct} (h : Ca.findL l k = some c) : (k, c) ∈ l := by
  unfold Ca.findL at h
  obtain ⟨x, h1, h2⟩ := Option.map_eq_some_iff.1 h
  have := List.mem_of_find?_eq_some h1
  have e := List.find?_some h1
  have e2 : x.1 = k := by simpa using e
  rw [← e2, ← h2]; exact this
set_option maxHeartbeats 1000000 in
theorem oLoad_kn (w : World) (base : Nat) (S : Sto) (h : SK w base S) (hlv : liveF S.D S.ep = 0) (hl : S.cts.length ≤ 100000) (m : Nat) (hm : S.s.ma = m) (hnx : S.nx = m) (hm2 : 2 ≤ m ∧ m ≤ 100000) (hN : S.N < 2000000000000000000) (hr : S.D.reads < 3000000000000000000) (q : Nat) (v : Int × List Int) (hk : Kn S q v) :
    Calls Try.prog 27 #[.pointer (some ⟨S.st, 0, none⟩), .int .i64 q] w fun e w' => ∃ S' u, e = .returned (.tuple #[.int .i64 v.1, u, .int .i64 0]) ∧ Own w' w.heap.size u v.2 ∧ (SK w' base S' ∧ Rd 1 S S') ∧ Below base w w' := by
  have hbw := h.base
  have HIT : ∀ c, 2 ≤ (q : Int) ∧ (q : Int) < S.s.ma + S.cts.length → S.a.val (q : Int) = some c → CtIs w base S.lb c v → Calls Try.prog 27 #[.pointer (some ⟨S.st, 0, none⟩), .int .i64 q] w fun e w' => ∃ S' u, e = .returned (.tuple #[.int .i64 v.1, u, .int .i64 0]) ∧ Own w' w.heap.size u v.2 ∧ (SK w' base S' ∧ Rd 1 S S') ∧ Below base w w' := fun c hq hv hc => by
    refine (oLoad_hit w base S h hlv hl ⟨by omega, by omega⟩ (by omega) q hq c hv v.1 v.2 hc).mono fun e w' ⟨FC, u, he, hO, hK, hF, hG⟩ => ⟨_, u, he, hO, ⟨hK, ⟨rfl, rfl, rfl, rfl, rfl, rfl, rfl, rfl, rfl, rfl, ⟨Int.le_refl _, ?_⟩, ?_⟩⟩, ?_⟩
    · show S.D.reads ≤ S.D.reads + 1; omega
    · show S.N + 1 ≤ S.N + 2 * 1; omega
    · exact hF.below (fun k hk => (h.in_lt (by simp [hk])).1) hbw
  rcases hk with ⟨h1, h2, h3, h4, h5, h6, h7⟩ | ⟨j, hj, e, hv⟩
  · by_cases hn : S.a.val (q : Int) = none
    · refine (oLoad_miss w base S h hlv hl m hm hnx hm2 hN q ⟨h1, by omega, h3⟩ hn hr v.1 v.2 h4 h5 h6 h7).mono fun e w' ⟨S', u, he, hO, ⟨hK, hS, k1, k2, k3⟩, hB⟩ => ⟨S', u, he, hO, ⟨hK, ⟨hS.p, hS.g, hS.st, hS.pc, hS.s, hS.nx, hS.ep, k2, k3, ?_, ⟨?_, ?_⟩, ?_⟩⟩, hB⟩
      · rw [show S'.D = _ from hS.D]
      · rw [show S'.D = _ from hS.D]; show S.D.reads ≤ S.D.reads + 1; omega
      · rw [show S'.D = _ from hS.D]; show S.D.reads + 1 ≤ S.D.reads + ((1 : Nat) : Int); omega
      · rw [k1]; omega
    · obtain ⟨c, hc⟩ := Option.ne_none_iff_exists'.1 hn
      refine HIT c ⟨by omega, by omega⟩ hc ?_
      unfold Ca.AS.val at hc
      rw [h.hd, heldL_no _ _ _ (Or.inl h2)] at hc
      have hc2 : Ca.findL S.a.clean (q : Int) = some c := by simpa using hc
      obtain ⟨v', c1, c2, c3, c4⟩ := h.ck _ (findL_memC hc2)
      have e4 : (v'.1, v'.2, (0 : Int)) = (v.1, v.2, 0) := c4.symm.trans (by show unpackF (q : Int) (S.D.readOf ((q : Int)).toNat) = _; rw [Int.toNat_natCast]; exact h4)
      obtain ⟨e5, e6⟩ := Prod.mk.inj e4
      obtain ⟨e7, _⟩ := Prod.mk.inj e6
      have : v' = v := Prod.ext e5 e7
      exact this ▸ c1
  · have hval := h.held_key j hj
    rw [← e] at hval
    exact HIT _ ⟨by omega, by omega⟩ hval (hv ▸ h.cv j hj)
set_option maxRecDepth 100000 in
set_option maxHeartbeats 2000000 in
theorem loads_kn (w : World) (base : Nat) (S : Sto) (h : SK w base S) (hlv : liveF S.D S.ep = 0) (sp : Option Addr) (cap : Nat) (ms : List MD) (hM : Mds w base sp ms) (hok : ∀ i, i < ms.length → MdOk (ms.getD i dM)) (fr m : Nat) (hml : ms.length ≤ 60) (hm : S.s.ma = m) (hnx : S.nx = m) (hm2 : 2 ≤ m ∧ m ≤ 1000) (hf1 : fr ≤ 1000) (hcl : S.cts.length ≤ 1000) (hN : S.N < 1000000) (hr : S.D.reads < 2000000000000000000) (hkn : ∀ i, i < ms.length → Kn S (fr + i) (mdV (ms.getD i dM))) :
    Calls Try.prog 11 #[.pointer (some ⟨S.st, 0, none⟩), .slice sp ms.length cap, .int .i64 fr] w fun e w' => e = .returned (.bool true) ∧ ∃ S', Rd ms.length S S' ∧ SK w' base S' ∧ Below base w w' := by
  have hbw := h.base
  replace h := hid h
  replace hM := hid hM
  replace hok := hid hok
  replace hkn := hid hkn
  generalize hst : S.st = st at *
  have HST := hid hst
  clear hst
  generalize hn : ms.length = n at *
  have HN := hid hn
  clear hn
  have hni : (n : Int) ≤ 60 := by omega
  have hfi : (fr : Int) ≤ 1000 := by omega
  go_enter Try.func11, Try.ntmps11
  go_wp2
  go_loopw [7] (fun i w' => ∃ (k : Nat) (S' : Sto), k ≤ n ∧ i = .int .i64 k ∧ Rd k S S' ∧ SK w' base S' ∧ Below base w w') (fun i _ => n - (intOf i).toNat)
  case atStart => exact ⟨0, S, by omega, rfl, Rd.refl S, h.out, Below.refl _ _⟩
  case round =>
    obtain ⟨k, S', hk, rfl, hrd, hSK, hbl⟩ := hrel
    by_cases hk2 : k < n
    · obtain ⟨b, o, tp, tc, rfl, hbl1, q0, q1, hsrc, hsb⟩ := hM.out.at hbl k (by rw [HN.out]; exact hk2)
      obtain ⟨hby, hle⟩ := hok.out k hk2
      have hkk := (hkn.out k hk2).rd hrd
      generalize ms.getD k dM = md at *
      have HLD := hid (show Calls Try.prog 27 #[.pointer (some ⟨st, 0, none⟩), .int .i64 ((fr : Int) + k)] wr fun e w' => ∃ S2 v, e = .returned (.tuple #[.int .i64 (wholeF md.kind 1 3), v, .int .i64 0]) ∧ Own w' wr.heap.size v (md.load.take 246) ∧ (SK w' base S2 ∧ Rd 1 S' S2) ∧ Below base wr w' from by
        have := oLoad_kn wr base S' hSK (by rw [hrd.live]; exact hlv) (by rw [hrd.cts]; omega) m (by rw [hrd.s]; exact hm) (by rw [hrd.nx]; exact hnx) ⟨hm2.1, by omega⟩ (by have := hrd.N; omega) (by have := hrd.rd; omega) (fr + k) _ hkk
        rw [hrd.st, HST.out, show ((fr + k : Nat) : Int) = (fr : Int) + k by push_cast; rfl] at this
        exact this)
      have HRD := hid hrd
      have HBL := hid hbl
      have HBW := hid (Nat.le_trans hbw hbl.size)
      have KW := hid (fun w' => hwhole_any w' md.kind 1 3 (by omega) (by omega) (by omega))
      have KSH := hid (fun w' (hb : Below base wr w') => hshort_any w' md.load tp tc (SrcB hsrc hb hsb) (by omega) 246 (by omega))
      have Q0 := hid q0
      have Q1 := hid q1
      have HBB := hid hbl1
      generalize wholeF md.kind 1 3 = kd at *
      generalize md.load.take 246 = zs at *
      clear hrd hSK hbl hsrc hsb hby hle hkk q0 q1
      have i1 : (k : Int) < (n : Int) := by omega
      go_wp2_with fail
      refine HLD.out.mono ?_
      rintro _ w2 ⟨S2, v2, rfl, hO2, hS2, hb2⟩
      obtain ⟨sp2, cap2, rfl, hs2, hn2⟩ := hO2.form
      have HB2 := hid hb2
      have HS2 := hid hS2
      have HSR := hid hs2
      have r0 := (hb2.cell (p := ⟨b, o + k * 2, none⟩) hbl1).trans Q0.out
      have r1 := (hb2.cell (p := ⟨b, o + k * 2 + 1, none⟩) hbl1).trans Q1.out
      clear hb2 hS2 hs2 hO2 hn2 HLD
      go_wp2_with fail
      refine (KW.out w2).mono ?_
      rintro _ wx ⟨rfl, hw⟩
      obtain rfl := hw.symm
      go_wp2_with fail
      refine (KSH.out w2 HB2.out).mono ?_
      rintro _ w3 ⟨v3, rfl, hO3, hb3⟩
      obtain ⟨sp3, cap3, rfl, hs3, hn3⟩ := hO3.form
      have HB3 := hid hb3
      have HSA := hid (same_any w3 zs zs sp2 sp3 cap2 cap3 (HSR.out.below hb3 (Nat.le_refl _)) hs3)
      rw [show decide (zs = zs) = true from decide_eq_true rfl] at HSA
      clear hb3 hs3 hn3 hO3 r0 r1
      go_wp2_with fail
      refine HSA.out.mono ?_
      rintro _ w4 ⟨rfl, hb4⟩
      have HB4 := hid hb4
      clear hb4
      go_wp2
      go_roundw
      case rel => exact ⟨k + 1, S2, by omega, by go_num, HRD.out.trans HS2.out.2, (HS2.out.1.below HB3.out).below HB4.out, (HBL.out.trans HB2.out).trans ((HB3.out.trans (HB4.out.mono HB3.out.size)).mono (by have := HB2.out.size; have := HBW.out; omega))⟩
      case measure => simp [intOf]; omega
    · obtain rfl : k = n := by omega
      replace hrd := hid hrd
      replace hSK := hid hSK
      replace hbl := hid hbl
      go_wp2
      go_ret
      exact ⟨rfl, S', hrd.out, hSK.out, hbl.out⟩
end Go.Proofs.Ytepeiclagalnaaa
namespace Go.Proofs.Ytepeiclagalnaaa
set_option linter.unusedVariables false
set_option linter.unusedSimpArgs false
open Go.RowKit
open Go.Proofs.Ytepeiclagalnaaa.Ca (Ct ct0 ctC argV AS)
attribute [local go_sem ↓] Go.wp_at_zero Go.wp_at_succ

/-- One open write: its first sector is there or is not, as the first fate says. -/
theorem crash_oneX {D : DS} (hok : DsOk D) (fs : List Int) (q : Nat) (hq : q < D.np) (d : List Int) (h1 : D.ops = [⟨q, d⟩]) : ∃ (T : List Int), T.length = 192 ∧ Byts T ∧ pgO (crashTo D.img D.ops fs D.ops.length) q = (if 0 < fs.length ∧ (fateOf fs 0).testBit 0 = true then d else pgO D.img q).take 64 ++ T := by
  obtain ⟨_, _, hn, hop⟩ := hok.np
  have ho := hop ⟨q, d⟩ (by rw [h1]; exact List.mem_singleton.2 rfl)
  have hcl := crashTo_len fs hn hop _ (Nat.le_refl _)
  have hb8 := crashTo_bts fs hok.bts hop _ (Nat.le_refl _)
  have hP := pgO_len hcl hq
  have hd : d.length = 256 := ho.2.1
  have key : ∀ X : List Int, X.length = 256 → (∀ j, j < 64 → (pgO (crashTo D.img D.ops fs D.ops.length) q).getD j 0 = X.getD j 0) → pgO (crashTo D.img D.ops fs D.ops.length) q = X.take 64 ++ (pgO (crashTo D.img D.ops fs D.ops.length) q).drop 64 := by
    intro X hX hj
    refine list_ext0 (by simp [hP, hX]) fun j hj2 => ?_
    rw [hP] at hj2
    by_cases c : j < 64
    · rw [List.getD_eq_getElem?_getD (l := X.take 64 ++ _), List.getElem?_append_left (by rw [List.length_take]; omega), List.getElem?_take, if_pos c, ← List.getD_eq_getElem?_getD]; exact hj j c
    · rw [List.getD_eq_getElem?_getD (l := X.take 64 ++ _), List.getElem?_append_right (by rw [List.length_take]; omega), List.getElem?_drop, ← List.getD_eq_getElem?_getD]
      congr 1; rw [List.length_take]; omega
  have hT : ((pgO (crashTo D.img D.ops fs D.ops.length) q).drop 64).length = 192 := by rw [List.length_drop, hP]
  have hT8 : Byts ((pgO (crashTo D.img D.ops fs D.ops.length) q).drop 64) := fun x hx => pgO_byts hb8 q x (List.mem_of_mem_drop hx)
  have hval : ∀ j, j < 64 → (pgO (crashTo D.img D.ops fs D.ops.length) q).getD j 0 = if 0 < fs.length ∧ (fateOf fs 0).testBit 0 = true then d.getD j 0 else (pgO D.img q).getD j 0 := by
    intro j hj
    rw [pgO_get _ _ _ (by omega), pgO_get _ _ _ (by omega), h1]
    show (if 0 < fs.length then tornTo D.img ⟨q, d⟩ (fateOf fs 0) 4 else D.img).getD (q * 256 + j) 0 = _
    by_cases c : 0 < fs.length
    · rw [if_pos c, tornTo_get _ hn ho 4 (Nat.le_refl _)]
      have e : (q * 256 + j - q * 256) / 64 = 0 := by omega
      have e2 : q * 256 + j - q * 256 = j := by omega
      by_cases b : (fateOf fs 0).testBit 0 = true
      · rw [if_pos (by refine ⟨?_, ?_, ?_⟩ <;> first | (show (fateOf fs 0).testBit ((q * 256 + j - q * 256) / 64) = true; rw [e]; exact b) | (show _ ≤ _; simp only; omega) | (show _ < _; simp only; omega)), if_pos ⟨c, b⟩]
        exact congrArg (fun i => d.getD i 0) e2
      · rw [if_neg (fun x => by have x2 := x.2.2; change (fateOf fs 0).testBit ((q * 256 + j - q * 256) / 64) = true at x2; rw [e] at x2; exact b x2), if_neg (fun x => b x.2)]
    · rw [if_neg c, if_neg (fun x => c x.1)]
  by_cases c : 0 < fs.length ∧ (fateOf fs 0).testBit 0 = true
  · exact ⟨_, hT, hT8, by rw [if_pos c]; exact key d hd fun j hj => by rw [hval j hj, if_pos c]⟩
  · exact ⟨_, hT, hT8, by rw [if_neg c]; exact key (pgO D.img q) (pgO_len hn hq) fun j hj => by rw [hval j hj, if_neg c]⟩
/-- What a disk holds: s under o, and the pages L. -/
structure Hs (D : DS) (n : Nat) (s o : Sup) (L : List (Int × List Int)) : Prop where
  ok : DsOk D
  np : D.np = n
  ops : D.ops = []
  pw : D.power = true
  gd : Good s o (pgO D.img 0) (pgO D.img 1)
  ma : s.ma = (2 + L.length : Nat)
  pg : s.pg = n
  pgs : ∀ j, j < L.length → pgO D.img (2 + j) = pageP (L.getD j (0, [])).1 ((2 + j : Nat) : Int) (L.getD j (0, [])).2
  lv : ∀ v ∈ L, (1 ≤ v.1 ∧ v.1 ≤ 3) ∧ v.2.length ≤ 246 ∧ Byts v.2
  le : 2 + L.length ≤ n
theorem Hs.n4 {D : DS} {n : Nat} {s o : Sup} {L : List (Int × List Int)} (h : Hs D n s o L) : 3 ≤ n ∧ n ≤ 4096 := by
  obtain ⟨h3, h4, _, _⟩ := h.ok.np
  rw [h.np] at h3 h4
  exact ⟨h3, h4⟩
theorem Hs.chs {D : DS} {n : Nat} {s o : Sup} {L : List (Int × List Int)} (h : Hs D n s o L) : chooseF (D.readOf 0) (D.readOf 1) = (s, 0) := h.gd.chooses h.ops
theorem mem_getD {L : List (Int × List Int)} {j : Nat} (hj : j < L.length) : L.getD j (0, []) ∈ L := by
  rw [List.getD_eq_getElem?_getD, List.getElem?_eq_getElem hj]; exact List.getElem_mem hj
theorem Hs.kn {S : Sto} {n : Nat} {o : Sup} {L : List (Int × List Int)} (h : Hs S.D n S.s o L) (j : Nat) (hj : j < L.length) : Kn S (2 + j) (L.getD j (0, [])) := by
  have h4 := h.n4
  have hle := h.le
  obtain ⟨v1, v2, v3⟩ := h.lv _ (mem_getD hj)
  refine Or.inl ⟨by omega, by rw [h.ma]; push_cast; omega, by rw [h.np]; omega, ?_, v1, v2, v3⟩
  rw [readOf_nil h.ops, h.pgs j hj, unpack_page _ _ _ _ ((kindOk_iff _).2 v1) ((placeOk_iff _).2 ⟨by omega, by omega⟩) v2 v3, if_pos rfl]
theorem Hs.reads {D D' : DS} {n : Nat} {s o : Sup} {L : List (Int × List Int)} (h : Hs D n s o L) (hok : DsOk D') (h1 : D'.img = D.img) (h2 : D'.ops = D.ops) (h3 : D'.power = true) : Hs D' n s o L :=
  ⟨hok, (np_img (by rw [h1])).trans h.np, h2.trans h.ops, h3, by rw [h1]; exact h.gd, h.ma, h.pg, fun j hj => by rw [h1]; exact h.pgs j hj, h.lv, h.le⟩
/-- The superblock's own slot, and the other. -/
theorem Good.own {s o : Sup} {L0 L1 : List Int} (h : Good s o L0 L1) : ∃ Y : List Int, Y.length = 192 ∧ Byts Y ∧ (s.ge % 2 = 0 → L0 = secS s ++ Y) ∧ (s.ge % 2 = 1 → L1 = secS s ++ Y) := by
  obtain ⟨hv, ho, hf, Y, Z, hY, hZ, y8, z8, ⟨h1, h2, h3⟩ | ⟨h1, h2, h3⟩⟩ := h
  · exact ⟨Y, hY, y8, fun _ => h2, fun q => by omega⟩
  · exact ⟨Z, hZ, z8, fun q => by omega, fun _ => h3⟩
theorem good_next {s o s2 : Sup} {L0 L1 M0 M1 : List Int} (h : Good s o L0 L1) (hv : validS s2 = true) (hf : Fol s2 s) (Y : List Int) (hY : Y.length = 192) (y8 : Byts Y) (h0 : s2.ge % 2 = 0 → M0 = secS s2 ++ Y ∧ M1 = L1) (h1 : s2.ge % 2 = 1 → M1 = secS s2 ++ Y ∧ M0 = L0) : Good s2 s M0 M1 := by
  obtain ⟨Z, hZ, z8, q0, q1⟩ := h.own
  have hg := hf.1
  refine ⟨hv, h.1, hf, ?_⟩
  by_cases c : s2.ge % 2 = 0
  · obtain ⟨a, b⟩ := h0 c
    exact ⟨Y, Z, hY, hZ, y8, z8, Or.inl ⟨c, a, by rw [b]; exact q1 (by omega)⟩⟩
  · obtain ⟨a, b⟩ := h1 (by omega)
    exact ⟨Z, Y, hZ, hY, z8, y8, Or.inr ⟨by omega, by rw [b]; exact q0 (by omega), a⟩⟩
/-- Behind a Flush that goes well. -/
theorem Hs.flush {S : Sto} {n : Nat} {o s2 : Sup} {L : List (Int × List Int)} {D' : DS} {hd : Int} (h : Hs S.D n S.s o L) (hv : ∀ v ∈ S.vs, (1 ≤ v.1 ∧ v.1 ≤ 3) ∧ v.2.length ≤ 246 ∧ Byts v.2) (hle : 2 + L.length + S.vs.length ≤ n) (hs2 : s2 = ⟨S.s.wd, S.s.ge + 1, (2 + L.length + S.vs.length : Nat), hd, S.s.pg⟩) (hval : validS s2 = true) (hB : Pbd S (2 + L.length) s2 D') : Hs D' n s2 S.s (L ++ S.vs) := by
  have hge : s2.ge = S.s.ge + 1 := by rw [hs2]
  have hge0 : 0 ≤ S.s.ge := ((validS_iff _).1 h.gd.1).2.2.1
  have h4 := h.n4
  refine ⟨hB.ok, hB.np.trans h.np, hB.ops, hB.pw, ?_, by rw [hs2, List.length_append, Nat.add_assoc], by rw [hs2]; exact h.pg, fun j hj => ?_, fun v hv2 => ?_, by rw [List.length_append]; omega⟩
  · refine good_next h.gd hval ⟨by rw [hs2], by rw [hs2], by rw [hs2], by rw [hs2, h.ma]; push_cast; omega⟩ (List.replicate 192 0) List.length_replicate (rep_byts _) (fun q => ?_) (fun q => ?_)
    · have := hB.slot
      rw [q] at this
      exact ⟨this, by rw [hB.other 1 (by omega) (by rw [q]; decide), readOf_nil h.ops]⟩
    · have := hB.slot
      rw [q] at this
      exact ⟨this, by rw [hB.other 0 (by omega) (by rw [q]; decide), readOf_nil h.ops]⟩
  · rw [List.length_append] at hj
    rw [← readOf_nil hB.ops]
    by_cases c : j < L.length
    · rw [hB.old (2 + j) (by omega) (by omega), readOf_nil h.ops, h.pgs j c]
      rw [List.getD_eq_getElem?_getD (l := L ++ S.vs), List.getElem?_append_left c, ← List.getD_eq_getElem?_getD]
    · have e : 2 + j = 2 + L.length + (j - L.length) := by omega
      rw [e, hB.new (j - L.length) (by omega)]
      rw [List.getD_eq_getElem?_getD (l := L ++ S.vs), List.getElem?_append_right (by omega), ← List.getD_eq_getElem?_getD]
  · rcases List.mem_append.1 hv2 with z | z
    · exact h.lv v z
    · exact hv v z
/-- A crash while just pages above the mark are open. -/
theorem Hs.crashA {D D' : DS} {n : Nat} {s o : Sup} {L : List (Int × List Int)} (h : Hs D n s o L) (hok : DsOk D') (hep : D'.epoch < 4000000000000000000) (h1 : D'.img = D.img) (h2 : ∀ x ∈ D'.ops, 2 + L.length ≤ x.page) (fs : List Int) : Hs (D'.crashed fs) n s o L := by
  have h4 := h.n4
  have hle := h.le
  have np : D'.np = n := (np_img (by rw [h1])).trans h.np
  have key : ∀ q, q < 2 + L.length → pgO (D'.crashed fs).img q = pgO D.img q := fun q hq => by
    have := crash_page hok fs q (by omega) (fun x hx => by have := h2 x hx; omega)
    rw [h1] at this
    rw [← this, ← h1]; rfl
  exact ⟨crashed_ok hok hep fs, (crashed_np hok fs).trans np, rfl, rfl, by rw [key 0 (by omega), key 1 (by omega)]; exact h.gd, h.ma, h.pg, fun j hj => by rw [key (2 + j) (by omega)]; exact h.pgs j hj, h.lv, h.le⟩
theorem take64 (s : Sup) (Y : List Int) : (secS s ++ Y).take 64 = secS s := by rw [List.take_left' (secS_len s)]
/-- A crash while just the superblock is open. -/
theorem Hs.crashB {D D' : DS} {n : Nat} {s o s2 : Sup} {L V : List (Int × List Int)} {hd : Int} (h : Hs D n s o L) (hv : ∀ v ∈ V, (1 ≤ v.1 ∧ v.1 ≤ 3) ∧ v.2.length ≤ 246 ∧ Byts v.2) (hle : 2 + L.length + V.length ≤ n) (hs2 : s2 = ⟨s.wd, s.ge + 1, (2 + L.length + V.length : Nat), hd, s.pg⟩) (hval : validS s2 = true) (hok : DsOk D') (hep : D'.epoch < 4000000000000000000) (np : D'.np = n) (hops : D'.ops = [⟨(s2.ge % 2).toNat, secP s2⟩]) (h0 : ∀ q, q < 2 + L.length → pgO D'.img q = pgO D.img q) (h1 : ∀ j, j < V.length → pgO D'.img (2 + L.length + j) = pageP (V.getD j (0, [])).1 ((2 + L.length + j : Nat) : Int) (V.getD j (0, [])).2) (fs : List Int) :
    (0 < fs.length ∧ (fateOf fs 0).testBit 0 = true → Hs (D'.crashed fs) n s2 s (L ++ V)) ∧ (¬ (0 < fs.length ∧ (fateOf fs 0).testBit 0 = true) → Hs (D'.crashed fs) n s o L) := by
  have hge : s2.ge = s.ge + 1 := by rw [hs2]
  have h4 := h.n4
  obtain ⟨k, hk⟩ : ∃ k : Nat, k = (s2.ge % 2).toNat := ⟨_, rfl⟩
  have hk2 : s2.ge % 2 = (k : Int) := by omega
  have hk3 : k < 2 := by omega
  rw [← hk] at hops
  have key : ∀ q, q < n → q ≠ k → pgO (D'.crashed fs).img q = pgO D'.img q := fun q hq hne => crash_page hok fs q (by omega) (fun x hx => by rw [hops] at hx; rw [List.mem_singleton.1 hx]; exact fun e => hne e.symm)
  obtain ⟨T, hT, t8, hp⟩ := crash_oneX hok fs k (by omega) (secP s2) hops
  have hp2 : pgO (D'.crashed fs).img k = (if 0 < fs.length ∧ (fateOf fs 0).testBit 0 = true then secP s2 else pgO D'.img k).take 64 ++ T := hp
  have PG : ∀ j, j < (L ++ V).length → pgO (D'.crashed fs).img (2 + j) = pageP ((L ++ V).getD j (0, [])).1 ((2 + j : Nat) : Int) ((L ++ V).getD j (0, [])).2 := fun j hj => by
    rw [List.length_append] at hj
    rw [key (2 + j) (by omega) (by omega)]
    by_cases c : j < L.length
    · rw [h0 (2 + j) (by omega), h.pgs j c, List.getD_eq_getElem?_getD (l := L ++ V), List.getElem?_append_left c, ← List.getD_eq_getElem?_getD]
    · have e : 2 + j = 2 + L.length + (j - L.length) := by omega
      rw [e, h1 (j - L.length) (by omega), List.getD_eq_getElem?_getD (l := L ++ V), List.getElem?_append_right (by omega), ← List.getD_eq_getElem?_getD]
  refine ⟨fun c => ?_, fun c => ?_⟩
  · rw [if_pos c] at hp2
    rw [secP, take64] at hp2
    refine ⟨crashed_ok hok hep fs, (crashed_np hok fs).trans np, rfl, rfl, ?_, by rw [hs2, List.length_append, Nat.add_assoc], by rw [hs2]; exact h.pg, PG, fun v hv2 => ?_, by rw [List.length_append]; omega⟩
    · refine good_next h.gd hval ⟨by rw [hs2], by rw [hs2], by rw [hs2], by rw [hs2, h.ma]; push_cast; omega⟩ T hT t8 (fun q => ?_) (fun q => ?_)
      · have e : k = 0 := by omega
        rw [e] at hp2
        exact ⟨hp2, by rw [key 1 (by omega) (by omega), h0 1 (by omega)]⟩
      · have e : k = 1 := by omega
        rw [e] at hp2
        exact ⟨hp2, by rw [key 0 (by omega) (by omega), h0 0 (by omega)]⟩
    · rcases List.mem_append.1 hv2 with z | z
      · exact h.lv v z
      · exact hv v z
  · rw [if_neg c, h0 k (by omega)] at hp2
    refine ⟨crashed_ok hok hep fs, (crashed_np hok fs).trans np, rfl, rfl, ?_, h.ma, h.pg, fun j hj => ?_, h.lv, h.le⟩
    · obtain ⟨g1, g2, g3, Y, Z, hY, hZ, y8, z8, ⟨q1, q2, q3⟩ | ⟨q1, q2, q3⟩⟩ := h.gd
      · have e : k = 1 := by omega
        rw [e, q3, take64] at hp2
        exact ⟨g1, g2, g3, Y, T, hY, hT, y8, t8, Or.inl ⟨q1, by rw [key 0 (by omega) (by omega), h0 0 (by omega)]; exact q2, hp2⟩⟩
      · have e : k = 0 := by omega
        rw [e, q2, take64] at hp2
        exact ⟨g1, g2, g3, T, Z, hT, hZ, t8, z8, Or.inr ⟨q1, hp2, by rw [key 1 (by omega) (by omega), h0 1 (by omega)]; exact q3⟩⟩
    · rw [key (2 + j) (by have := h.le; omega) (by omega), h0 (2 + j) (by omega)]; exact h.pgs j hj
end Go.Proofs.Ytepeiclagalnaaa
namespace Go.Proofs.Ytepeiclagalnaaa
set_option linter.unusedVariables false
set_option linter.unusedSimpArgs false
open Go.RowKit
open Go.Proofs.Ytepeiclagalnaaa.Ca (Ct ct0 ctC argV AS)
attribute [local go_sem ↓] Go.wp_at_zero Go.wp_at_succ

theorem readOf_two {D D' : DS} (h1 : D'.img = D.img) (h2 : D'.ops = D.ops) (q : Nat) : D'.readOf q = D.readOf q := by
  unfold DS.readOf; rw [h1, h2]
theorem appD_img : ∀ (l : List (Int × List Int)) (D : DS) (m : Nat), (appD D m l).img = D.img ∧ ∀ x ∈ (appD D m l).ops, x ∈ D.ops ∨ m ≤ x.page
  | [], D, m => ⟨rfl, fun x hx => Or.inl hx⟩
  | v :: r, D, m => by
    obtain ⟨h1, h2⟩ := appD_img r (D.wr ⟨m, pageP v.1 m v.2⟩) (m + 1)
    obtain ⟨e1, e2, _⟩ := wr_img D ⟨m, pageP v.1 m v.2⟩
    refine ⟨h1.trans e1, fun x hx => ?_⟩
    rcases h2 x hx with z | z
    · rw [e2] at z
      rcases List.mem_append.1 z with y | y
      · exact Or.inl y
      · rw [List.mem_singleton.1 y]; exact Or.inr (Nat.le_refl _)
    · exact Or.inr (by omega)
theorem runS_1 (D : DS) (s2 : Sup) (h : D.armed = 1) : runS D [.sync, .lay s2 0 0, .sync] = (D.acted, 2) := by
  rw [runS, show St.go .sync D = (D.acted, 2) by show sy D = _; unfold sy; rw [if_pos h]]; rfl
theorem runS_23 (D : DS) (s2 : Sup) (h : D.armed = 2 ∨ D.armed = 3) : (runS D [.sync, .lay s2 0 0, .sync]).1.img = D.synced.img ∧ (runS D [.sync, .lay s2 0 0, .sync]).1.ops = [⟨(s2.ge % 2).toNat, secP s2⟩] := by
  have hz : ∀ X : DS, X.armed = 1 → St.go .sync X = (X.acted, 2) := fun X hX => by show sy X = _; unfold sy; rw [if_pos hX]
  have hy : ∀ X : DS, X.armed ≠ 1 → St.go .sync X = (X.synced, 0) := fun X hX => by show sy X = _; unfold sy; rw [if_neg hX]
  have s1 := (sync_arm D (by omega) (by omega)).1
  rw [if_neg (by omega)] at s1
  obtain ⟨e1, e2, _⟩ := wr_img D.synced ⟨(s2.ge % 2).toNat, secP s2⟩
  have e2' : (D.synced.wr ⟨(s2.ge % 2).toNat, secP s2⟩).ops = [⟨(s2.ge % 2).toNat, secP s2⟩] := e2
  have r0 : runS D [.sync, .lay s2 0 0, .sync] = if D.synced.actE = 0 then runS (D.synced.wr ⟨(s2.ge % 2).toNat, secP s2⟩) [.sync] else (D.synced.wr ⟨(s2.ge % 2).toNat, secP s2⟩, D.synced.actE) := by
    rw [runS, hy D (by omega), if_pos rfl, runS]; rfl
  rcases h with q | q
  · rw [r0, actE_2 (by omega), if_neg (by decide)]
    exact ⟨e1, e2'⟩
  · have w1 := (wr_arm D.synced ⟨(s2.ge % 2).toNat, secP s2⟩ (by omega)).1
    rw [if_neg (by omega)] at w1
    rw [r0, actE_0 (by omega), if_pos rfl, runS, hz _ (by omega)]
    obtain ⟨c1, c2, _⟩ := acted_same (D.synced.wr ⟨(s2.ge % 2).toNat, secP s2⟩)
    exact ⟨c1.trans e1, c2.trans e2'⟩
/-- The disk where power went in a Flush. -/
structure Dd (S : Sto) (m : Nat) (s2 : Sup) (D' : DS) : Prop where
  ok : DsOk D'
  np : D'.np = S.D.np
  epoch : D'.epoch = S.D.epoch
  reads : D'.reads = S.D.reads
  writes : D'.writes ≤ S.D.writes + S.vs.length + 1
  syncs : D'.syncs ≤ S.D.syncs + 2
  rd : ∀ q, 2 ≤ q → q < m → D'.readOf q = S.D.readOf q
  lo : S.D.armed ≤ S.vs.length + 1 → D'.img = S.D.img ∧ ∀ x ∈ D'.ops, m ≤ x.page
  hi : S.vs.length + 2 ≤ S.D.armed → D'.ops = [⟨(s2.ge % 2).toNat, secP s2⟩] ∧ (∀ q, q < m → pgO D'.img q = S.D.readOf q) ∧ ∀ j, j < S.vs.length → pgO D'.img (m + j) = pageP (S.vs.getD j (0, [])).1 ((m + j : Nat) : Int) (S.vs.getD j (0, [])).2
theorem pubEnd_dead {S : Sto} {m : Nat} {hd c : Int} {D' : DS} {s' s2 : Sup} (h : PubEnd S m hd c D' s') (hok : DsOk S.D) (ho : S.D.ops = []) (hv : ∀ v ∈ S.vs, (1 ≤ v.1 ∧ v.1 ≤ 3) ∧ v.2.length ≤ 246 ∧ Byts v.2) (hm : 2 ≤ m) (hnp : m + S.vs.length ≤ S.D.np) (hw : S.D.writes + S.vs.length < 3000000000000000000) (hs : S.D.syncs < 3000000000000000000) (hvl : S.vs.length ≤ 100000) (hge : 0 ≤ S.s.ge) (hs2 : s2 = ⟨S.s.wd, S.s.ge + 1, (m + S.vs.length : Nat), hd, S.s.pg⟩) (hval : validS s2 = true) (ha : 1 ≤ S.D.armed) (hdd : S.D.armed ≤ S.vs.length + 3) : Dd S m s2 D' := by
  rw [hs2] at hval
  rcases h with ⟨i, hi, h1, h2, h3, h4, h5⟩ | ⟨h1, h2, h3, h4⟩
  · have hl : (S.vs.take i).length = i := by rw [List.length_take]; omega
    have hl2 : (S.vs.take (i + 1)).length = i + 1 := by rw [List.length_take]; omega
    have hk : (i : Int) < S.D.armed := by
      rcases Int.lt_or_le (i : Int) S.D.armed with q | q
      · exact q
      · have := appD_dead (S.vs.take i) S.D m ha (by rw [hl]; exact q)
        have p := live_pw h2
        rw [this] at p; cases p
    have hA := (appD_arm (S.vs.take i) S.D m (by rw [hl]; exact hk)).1
    rw [h1, hl] at hA
    obtain ⟨q1, q2⟩ := appD_ok (S.vs.take (i + 1)) S.D m hok (fun v hv2 => hv v (List.mem_of_mem_take hv2)) (by rw [hl2]; omega) (by rw [hl2, ho]; simp; omega) (by rw [hl2]; omega)
    obtain ⟨a1, a2, a3, a4, a5⟩ := appD_same (S.vs.take (i + 1)) S.D m
    obtain ⟨r1, r2⟩ := appD_read (S.vs.take (i + 1)) S.D m
    obtain ⟨g1, g2⟩ := appD_img (S.vs.take (i + 1)) S.D m
    rw [← h4] at q1 q2 a1 a2 a3 a4 a5 r1 r2 g1 g2
    rw [hl2] at a4
    refine ⟨q1, q2, a1, a2, by rw [a4]; push_cast; omega, by rw [a3]; omega, fun q _ hq => r1 q hq, fun _ => ⟨g1, fun x hx => ?_⟩, fun q => by omega⟩
    rcases g2 x hx with z | z
    · rw [ho] at z; cases z
    · exact z
  · have hp := live_pw h1
    have hk : (S.vs.length : Int) < S.D.armed := by
      rcases Int.lt_or_le (S.vs.length : Int) S.D.armed with q | q
      · exact q
      · have := appD_dead S.vs S.D m ha q
        rw [this] at hp; cases hp
    obtain ⟨b1, _⟩ := appD_arm S.vs S.D m hk
    obtain ⟨q1, q2⟩ := appD_ok S.vs S.D m hok hv hnp (by rw [ho]; simp; omega) (by omega)
    obtain ⟨a1, a2, a3, a4, a5⟩ := appD_same S.vs S.D m
    obtain ⟨r1, r2⟩ := appD_read S.vs S.D m
    obtain ⟨g1, g2⟩ := appD_img S.vs S.D m
    have hP := pub_all q1 hp ⟨hp, by rw [a5, ho]; simp; omega, by rw [a4]; omega, by rw [a3]; omega⟩ ⟨S.s.wd, S.s.ge + 1, (m + S.vs.length : Nat), hd, S.s.pg⟩ hval ((S.s.ge + 1) % 2).toNat (by show (S.s.ge + 1) % 2 = _; omega)
    rw [← hs2] at h3 hP
    have hw2 := hP.writes
    have hs3 := hP.syncs
    rw [← h3] at hw2 hs3
    have hX : S.D.armed ≤ S.vs.length + 1 → D' = (appD S.D m S.vs).acted := fun q => by rw [h3, runS_1 _ _ (by rw [b1]; omega)]
    have hY : S.vs.length + 2 ≤ S.D.armed → D'.img = (appD S.D m S.vs).synced.img ∧ D'.ops = [⟨(s2.ge % 2).toNat, secP s2⟩] := fun q => by rw [h3]; exact runS_23 _ _ (by rw [b1]; omega)
    obtain ⟨c1, c2, _⟩ := acted_same (appD S.D m S.vs)
    refine ⟨by rw [h3]; exact hP.ok, by rw [h3]; exact hP.np.trans q2, by rw [h3]; exact hP.epoch.trans a1, by rw [h3]; exact hP.reads.trans a2, by omega, by omega, fun q hq2 hq => ?_, fun q => ⟨?_, fun x hx => ?_⟩, fun q => ?_⟩
    · rcases Int.lt_or_le S.D.armed (S.vs.length + 2) with z | z
      · rw [hX (by omega), readOf_two c1 c2, r1 q hq]
      · obtain ⟨y1, y2⟩ := hY z
        have e := readOf_snoc (D := { D' with ops := [] }) (D' := D') (o := ⟨(s2.ge % 2).toNat, secP s2⟩) rfl y2 q
        rw [e, if_neg (by show ¬ ((s2.ge % 2).toNat = q); omega), readOf_nil rfl]
        show pgO D'.img q = _
        rw [y1, show pgO (appD S.D m S.vs).synced.img q = (appD S.D m S.vs).readOf q from sync_read q1 q (by rw [q2]; omega), r1 q hq]
    · rw [hX q, c1, g1]
    · rw [hX q, c2] at hx
      rcases g2 x hx with z | z
      · rw [ho] at z; cases z
      · exact z
    · obtain ⟨y1, y2⟩ := hY q
      refine ⟨y2, fun k hk => ?_, fun j hj => ?_⟩
      · rw [y1, show pgO (appD S.D m S.vs).synced.img k = (appD S.D m S.vs).readOf k from sync_read q1 k (by rw [q2]; omega), r1 k hk]
      · rw [y1, show pgO (appD S.D m S.vs).synced.img (m + j) = (appD S.D m S.vs).readOf (m + j) from sync_read q1 (m + j) (by rw [q2]; omega), r2 j hj]
end Go.Proofs.Ytepeiclagalnaaa
namespace Go.Proofs.Ytepeiclagalnaaa
set_option linter.unusedVariables false
set_option linter.unusedSimpArgs false
open Go.RowKit
open Go.Proofs.Ytepeiclagalnaaa.Ca (Ct ct0 ctC argV AS)
attribute [local go_sem ↓] Go.wp_at_zero Go.wp_at_succ

theorem pubEnd_cnt {S : Sto} {m : Nat} {hd : Int} {D' : DS} {s' : Sup} (h : PubEnd S m hd 0 D' s') (hok : DsOk S.D) (hv : ∀ v ∈ S.vs, (1 ≤ v.1 ∧ v.1 ≤ 3) ∧ v.2.length ≤ 246 ∧ Byts v.2) (hnp : m + S.vs.length ≤ S.D.np) (ho : S.D.ops.length + S.vs.length < 300000000000) (hw : S.D.writes + S.vs.length < 3000000000000000000) (hs : S.D.syncs < 3000000000000000000) (hge : 0 ≤ S.s.ge) (hval : validS ⟨S.s.wd, S.s.ge + 1, (m + S.vs.length : Nat), hd, S.s.pg⟩ = true) : D'.writes ≤ S.D.writes + S.vs.length + 1 ∧ D'.syncs ≤ S.D.syncs + 2 := by
  rcases h with ⟨i, hi, h1, h2, h3, h4, h5⟩ | ⟨h1, h2, h3, h4⟩
  · cases h3
  · obtain ⟨q1, q2⟩ := appD_ok S.vs S.D m hok hv hnp (by omega) (by omega)
    obtain ⟨a1, a2, a3, a4, a5⟩ := appD_same S.vs S.D m
    have hP := pub_all q1 (live_pw h1) ⟨live_pw h1, by rw [a5]; omega, by rw [a4]; omega, by rw [a3]; omega⟩ ⟨S.s.wd, S.s.ge + 1, (m + S.vs.length : Nat), hd, S.s.pg⟩ hval ((S.s.ge + 1) % 2).toNat (by show (S.s.ge + 1) % 2 = _; omega)
    have hw2 := hP.writes
    have hs3 := hP.syncs
    rw [← h3] at hw2 hs3
    exact ⟨by omega, by omega⟩
set_option maxRecDepth 100000 in
set_option maxHeartbeats 1000000 in
/-- Flush with any good head, on an armed disk. -/
theorem flush_arm2 (w : World) (base : Nat) (S : Sto) (h : SK w base S) (hlv : liveF S.D S.ep = 0) (hcl : S.cts.length ≤ 4096) (m : Nat) (hm : S.s.ma = m) (hnx : S.nx = m) (hm2 : 2 ≤ m ∧ m + S.vs.length ≤ 4096) (hnp : m + S.vs.length ≤ S.D.np) (hge : 0 ≤ S.s.ge ∧ S.s.ge < 1099511627776) (hd : Int) (hh : hd = 0 ∨ (2 ≤ hd ∧ hd < (m + S.vs.length : Nat))) (hval : validS ⟨S.s.wd, S.s.ge + 1, (m + S.vs.length : Nat), hd, S.s.pg⟩ = true) (ha : 1 ≤ S.D.armed) (hops : S.D.ops = []) (hwr : S.D.writes ≤ 2000000000000000000) (hsy : S.D.syncs ≤ 2000000000000000000) (hN : S.N < 3000000000000000000) :
    Calls Try.prog 9 #[.pointer (some ⟨S.st, 0, none⟩), .int .i64 hd] w fun e w' => ((S.vs.length + 3 < S.D.armed ∧ (∃ F' F2 D' s2, e = .returned (.int .i64 0) ∧ s2 = ⟨S.s.wd, S.s.ge + 1, (m + S.vs.length : Nat), hd, S.s.pg⟩ ∧ Pbd S m s2 D' ∧ (D'.writes ≤ S.D.writes + S.vs.length + 1 ∧ D'.syncs ≤ S.D.syncs + 2) ∧ SK w' base { S with F := F', FC := F2, D := D', s := s2, nx := m + S.vs.length, N := S.N + 1, a := S.a.settle, sv := .slice none 0 0, cts := [], vs := [] })) ∨ (S.D.armed ≤ S.vs.length + 3 ∧ ∃ F' D' s2, e = .returned (.int .i64 2) ∧ s2 = ⟨S.s.wd, S.s.ge + 1, (m + S.vs.length : Nat), hd, S.s.pg⟩ ∧ Dd S m s2 D' ∧ SK w' base { S with F := F', D := D', nx := m })) ∧ Below base w w' := by
  have hvl := h.cl
  have hbw := h.base
  have hok := h.da.ok
  have ho0 : S.D.ops.length = 0 := by rw [hops]; rfl
  have hv : ∀ v ∈ S.vs, (1 ≤ v.1 ∧ v.1 ≤ 3) ∧ v.2.length ≤ 246 ∧ Byts v.2 := fun v hv => by
    obtain ⟨j, hj, e⟩ := List.getElem_of_mem hv
    have c := h.cv j (by omega)
    rw [show S.vs.getD j (0, []) = v by rw [← e]; simp [List.getD, hj]] at c
    exact ⟨c.kk, c.le, c.by8⟩
  obtain ⟨a1, a2, a3, a4, a5⟩ := appD_same S.vs S.D m
  have PUB := fun (w1 : World) (hb : Below w.heap.size w w1) => opublish_any w1 base S (h.below hb) hlv (by omega) m hm hnx hm2.1 hnp hd hh hge hval (fun hl => ⟨live_pw hl, by rw [a5]; omega, by rw [a4]; omega, by rw [a3]; omega⟩) (by omega) (by omega)
  obtain ⟨s2, hs2⟩ : ∃ s2 : Sup, s2 = ⟨S.s.wd, S.s.ge + 1, (m + S.vs.length : Nat), hd, S.s.pg⟩ := ⟨_, rfl⟩
  have hgF : ∀ k ∈ S.g :: S.F, base ≤ k := fun k hk => (h.in_lt (by rcases List.mem_cons.1 hk with z | z <;> simp [z])).1
  have hH : hd ≠ 0 → 2 ≤ hd ∧ hd < S.s.ma + S.cts.length := fun q => by
    rcases hh with z | z
    · exact absurd z q
    · exact ⟨z.1, by rw [hm, hvl]; have := z.2; push_cast at this; exact this⟩
  by_cases hc : S.D.armed ≤ S.vs.length + 3
  · obtain ⟨R, hR⟩ : ∃ R : Ending → World → Prop, R = (fun e w' => (∃ F' D' s2, e = Ending.returned (.int .i64 2) ∧ s2 = ⟨S.s.wd, S.s.ge + 1, (m + S.vs.length : Nat), hd, S.s.pg⟩ ∧ Dd S m s2 D' ∧ SK w' base { S with F := F', D := D', nx := m }) ∧ Below base w w') := ⟨_, rfl⟩
    have PB2 : ∀ w1, Below w.heap.size w w1 → Calls Try.prog 24 #[.pointer (some ⟨S.st, 0, none⟩), .int .i64 hd] w1 fun e w' => ∃ c, c ≠ 0 ∧ e = .returned (.int .i64 c) ∧ R (.returned (.int .i64 c)) w' := fun w1 hb => by
      refine (PUB w1 hb).mono fun e w' ⟨c, D', s', F', he, hP, hD, hf, hF, hG⟩ => ?_
      have hDd := pubEnd_dead hP hok hops hv hm2.1 hnp (by omega) (by omega) (by omega) hge.1 hs2 (by rw [hs2]; exact hval) ha hc
      obtain ⟨rfl, rfl⟩ := (pubEnd_arm hP ha).1 hc
      have h1 := h.below hb
      rw [hR]
      refine ⟨2, by decide, he, ⟨F', D', s2, rfl, hs2, hDd, h1.disked hD m hm hf hF hG (fun x hx => ?_)⟩, (hb.mono hbw).trans (hF.below hgF (Nat.le_trans hbw hb.size))⟩
      obtain ⟨v, _, k1, k2, _⟩ := h1.ck x hx
      exact hDd.rd _ (by omega) (by omega)
    by_cases q : hd = 0
    · subst q
      exact (oFlush_bad w base S h hlv (by omega) R PB2).mono fun e w' z => by rw [hR] at z; exact ⟨Or.inr ⟨hc, z.1⟩, z.2⟩
    · exact (oFlush_badH w base S h hlv (by omega) (by omega) ⟨by omega, by omega⟩ hd q (hH q) R PB2).mono fun e w' z => by rw [hR] at z; exact ⟨Or.inr ⟨hc, z.1⟩, z.2⟩
  · have PB2 : ∀ w1, Below w.heap.size w w1 → Calls Try.prog 24 #[.pointer (some ⟨S.st, 0, none⟩), .int .i64 hd] w1 fun e w' => e = .returned (.int .i64 0) ∧ w'.heap[S.st]? = some (.cells (stC S.g S.pc S.sv).toArray 61 (0, 0)) ∧ Ca.CA w' base S.FC S.pc S.N S.a ∧ (∃ w1 D' F', Below w.heap.size w w1 ∧ Pbd S m s2 D' ∧ (D'.writes ≤ S.D.writes + S.vs.length + 1 ∧ D'.syncs ≤ S.D.syncs + 2) ∧ DA w' base F' S.p D' ∧ FK w' S.g S.p s2 s2.ma S.ep ∧ Fr (S.g :: S.F) w1 w' ∧ Gr w1 S.F F') := fun w1 hb => by
      refine (PUB w1 hb).mono fun e w' ⟨c, D', s', F', he, hP, hD, hf, hF, hG⟩ => ?_
      obtain ⟨rfl, _⟩ := (pubEnd_arm hP ha).2 (by omega)
      have hc2 := pubEnd_cnt hP hok hv hnp (by omega) (by omega) (by omega) hge.1 hval
      obtain ⟨hs', hB⟩ := pubEnd_go hP hok hv hm2.1 hnp (by omega) (by omega) (by omega) hge.1 hval
      rw [← hs2] at hs'
      subst hs'
      have h1 := h.below hb
      obtain ⟨o1, o2, o3, o4⟩ := h1.off hF
      refine ⟨he, o1.trans h1.sk, ?_, w1, D', F', hb, hB, hc2, hD, hf, hF, hG⟩
      obtain ⟨mm, n, s, L, e, c, r⟩ := h1.ca
      exact ⟨mm, n, s, L, e, c.of_heap fun k hk => o4 k (by rw [e]; exact hk), r⟩
    have END : ∀ e w', (∃ w3, e = Ending.returned (.int .i64 0) ∧ (∃ w1 D' F', Below w.heap.size w w1 ∧ Pbd S m s2 D' ∧ (D'.writes ≤ S.D.writes + S.vs.length + 1 ∧ D'.syncs ≤ S.D.syncs + 2) ∧ DA w3 base F' S.p D' ∧ FK w3 S.g S.p s2 s2.ma S.ep ∧ Fr (S.g :: S.F) w1 w3 ∧ Gr w1 S.F F') ∧ Ca.Nx base S.FC S.pc S.N (w3.setCell ⟨S.st, 3, none⟩ (.slice none 0 0)) S.a.settle w') → (∃ F' F2 D' s2, e = .returned (.int .i64 0) ∧ s2 = ⟨S.s.wd, S.s.ge + 1, (m + S.vs.length : Nat), hd, S.s.pg⟩ ∧ Pbd S m s2 D' ∧ (D'.writes ≤ S.D.writes + S.vs.length + 1 ∧ D'.syncs ≤ S.D.syncs + 2) ∧ SK w' base { S with F := F', FC := F2, D := D', s := s2, nx := m + S.vs.length, N := S.N + 1, a := S.a.settle, sv := .slice none 0 0, cts := [], vs := [] }) ∧ Below base w w' := fun e w' ⟨w3, he, ⟨w1, D', F', hb, hB, hc2, hD, hf, hF, hG⟩, hX⟩ => by
      obtain ⟨F2, hK, hZ⟩ := (h.below hb).flushed m hm hm2.1 (by rw [hs2]) hm2.2 hD hf hF hG hB hX
      exact ⟨⟨F', F2, D', s2, he, hs2, hB, hc2, hK⟩, (hb.mono hbw).trans hZ⟩
    by_cases q : hd = 0
    · subst q
      exact (oFlush_ok w base S h hlv (by omega) hN _ PB2).mono fun e w' z => ⟨Or.inl ⟨by omega, (END e w' z).1⟩, (END e w' z).2⟩
    · exact (oFlush_okH w base S h hlv (by omega) (by omega) ⟨by omega, by omega⟩ hd q (hH q) hN _ PB2).mono fun e w' z => ⟨Or.inl ⟨by omega, (END e w' z).1⟩, (END e w' z).2⟩
end Go.Proofs.Ytepeiclagalnaaa
namespace Go.Proofs.Ytepeiclagalnaaa
set_option linter.unusedVariables false
set_option linter.unusedSimpArgs false
open Go.RowKit
open Go.Proofs.Ytepeiclagalnaaa.Ca (Ct ct0 ctC argV AS)
attribute [local go_sem ↓] Go.wp_at_zero Go.wp_at_succ

/-- A store over a disk that holds the pages L; b bounds what is counted, at is how the disk is armed. -/
structure Sx (w : World) (base : Nat) (S : Sto) (n : Nat) (o : Sup) (L : List (Int × List Int)) (b : Nat) (at_ : Int) : Prop where
  sk : SK w base S
  hs : Hs S.D n S.s o L
  nx : S.nx = 2 + L.length
  lv : liveF S.D S.ep = 0
  ar : S.D.armed = at_
  N : S.N ≤ b
  rd : S.D.reads ≤ b
  wr : S.D.writes ≤ b
  sy : S.D.syncs ≤ b
  ge : S.s.ge ≤ b
  ep : S.D.epoch ≤ b
theorem Sx.below {w w1 : World} {base : Nat} {S : Sto} {n : Nat} {o : Sup} {L : List (Int × List Int)} {b : Nat} {a : Int} (h : Sx w base S n o L b a) (hb : Below w.heap.size w w1) : Sx w1 base S n o L b a := ⟨h.sk.below hb, h.hs, h.nx, h.lv, h.ar, h.N, h.rd, h.wr, h.sy, h.ge, h.ep⟩
theorem Sx.more {w : World} {base : Nat} {S : Sto} {n : Nat} {o : Sup} {L : List (Int × List Int)} {b : Nat} {a : Int} (h : Sx w base S n o L b a) (c : Nat) (hc : b ≤ c) : Sx w base S n o L c a := ⟨h.sk, h.hs, h.nx, h.lv, h.ar, by have := h.N; omega, by have := h.rd; omega, by have := h.wr; omega, by have := h.sy; omega, by have := h.ge; omega, by have := h.ep; omega⟩
theorem Sx.bd {w : World} {base : Nat} {S : Sto} {n : Nat} {o : Sup} {L : List (Int × List Int)} {b : Nat} {a : Int} (h : Sx w base S n o L b a) : S.s.ma = (2 + L.length : Nat) ∧ 2 + L.length ≤ n ∧ n ≤ 4096 ∧ S.cts.length = S.vs.length ∧ 0 ≤ S.s.ge := ⟨h.hs.ma, h.hs.le, h.hs.n4.2, h.sk.cl, ((validS_iff _).1 h.hs.gd.1).2.2.1⟩
theorem kn_staged {w : World} {base : Nat} {S : Sto} (h : SK w base S) (ms : List MD) (hv : S.vs = ms.map mdV) (m : Nat) (hm : S.s.ma = m) (i : Nat) (hi : i < ms.length) : Kn S (m + i) (mdV (ms.getD i dM)) := by
  have hl : S.cts.length = ms.length := by rw [h.cl, hv, List.length_map]
  refine Or.inr ⟨i, by omega, by rw [hm]; push_cast; rfl, ?_⟩
  rw [hv, List.getD_eq_getElem?_getD, List.getElem?_map, List.getElem?_eq_getElem hi, List.getD_eq_getElem?_getD, List.getElem?_eq_getElem hi]; rfl
/-- Pages are staged. -/
theorem Sx.stages {w : World} {base : Nat} {S : Sto} {n : Nat} {o : Sup} {L : List (Int × List Int)} {b : Nat} {a : Int} (h : Sx w base S n o L b a) (hb : b ≤ 100000) (hn : n ≤ 64) (hv : S.vs = []) (sp : Option Addr) (cap : Nat) (ms : List MD) (hM : Mds w base sp ms) (hok : ∀ i, i < ms.length → MdOk (ms.getD i dM)) (fr : Nat) (hfr : fr = 2 + L.length) (hml : ms.length ≤ 60) (hfit : fr + ms.length ≤ n) :
    Calls Try.prog 8 #[.pointer (some ⟨S.st, 0, none⟩), .slice sp ms.length cap, .int .i64 fr] w fun e w' => e = .returned (.bool true) ∧ ∃ S', Sx w' base S' n o L (b + 200) a ∧ S'.vs = ms.map mdV ∧ (S'.st = S.st ∧ S'.p = S.p ∧ S'.g = S.g ∧ S'.s = S.s ∧ S'.D = S.D ∧ S'.ep = S.ep) ∧ Below base w w' := by
  obtain ⟨b1, b2, b3, b4, b5⟩ := h.bd
  have hc0 : S.cts.length = 0 := by rw [b4, hv]; rfl
  have hN := h.N
  refine (stages_any w base S h.sk h.lv sp cap ms hM hok fr (by rw [b1, hc0, hfr]; push_cast; omega) hml (by rw [b1]; push_cast; omega) (by omega) (by omega) (by rw [h.hs.np]; omega)).mono fun e w' ⟨he, S', hS, hN2, hv2, hK, hB⟩ => ⟨he, S', ?_, by rw [hv2, hv]; rfl, ⟨hS.st, hS.p, hS.g, hS.s, hS.D, hS.ep⟩, hB⟩
  have e1 := h.rd
  have e2 := h.wr
  have e3 := h.sy
  have e4 := h.ge
  have e5 := h.ep
  exact ⟨hK, by rw [hS.D, hS.s]; exact h.hs, hS.nx.trans h.nx, by rw [hS.D, hS.ep]; exact h.lv, by rw [hS.D]; exact h.ar, by omega, by rw [hS.D]; omega, by rw [hS.D]; omega, by rw [hS.D]; omega, by rw [hS.s]; omega, by rw [hS.D]; omega⟩
/-- Pages that are known are loaded. -/
theorem Sx.loads {w : World} {base : Nat} {S : Sto} {n : Nat} {o : Sup} {L : List (Int × List Int)} {b : Nat} {a : Int} (h : Sx w base S n o L b a) (hb : b ≤ 100000) (hn : n ≤ 64) (hvl : S.vs.length ≤ 64) (sp : Option Addr) (cap : Nat) (ms : List MD) (hM : Mds w base sp ms) (hok : ∀ i, i < ms.length → MdOk (ms.getD i dM)) (fr : Nat) (hf1 : fr ≤ 1000) (hml : ms.length ≤ 60) (hkn : ∀ i, i < ms.length → Kn S (fr + i) (mdV (ms.getD i dM))) :
    Calls Try.prog 11 #[.pointer (some ⟨S.st, 0, none⟩), .slice sp ms.length cap, .int .i64 fr] w fun e w' => e = .returned (.bool true) ∧ ∃ S', Sx w' base S' n o L (b + 200) a ∧ S'.vs = S.vs ∧ (S'.st = S.st ∧ S'.p = S.p ∧ S'.g = S.g ∧ S'.s = S.s ∧ S'.ep = S.ep) ∧ (∀ q v, Kn S q v → Kn S' q v) ∧ Below base w w' := by
  obtain ⟨b1, b2, b3, b4, b5⟩ := h.bd
  have hN := h.N
  have e1 := h.rd
  have e2 := h.wr
  have e3 := h.sy
  have e4 := h.ge
  have e5 := h.ep
  refine (loads_kn w base S h.sk h.lv sp cap ms hM hok fr (2 + L.length) hml b1 h.nx (by omega) hf1 (by omega) (by omega) (by omega) hkn).mono fun e w' ⟨he, S', hR, hK, hB⟩ => ⟨he, S', ?_, hR.vs, ⟨hR.st, hR.p, hR.g, hR.s, hR.ep⟩, fun q v k => k.rd hR, hB⟩
  have r1 := hR.rd
  have r2 := hR.N
  refine ⟨hK, ?_, hR.nx.trans h.nx, hR.live.trans h.lv, by rw [hR.D]; exact h.ar, by omega, by omega, by rw [hR.D]; show S.D.writes ≤ _; omega, by rw [hR.D]; show S.D.syncs ≤ _; omega, by rw [hR.s]; omega, by rw [hR.D]; show S.D.epoch ≤ _; omega⟩
  rw [hR.s]
  exact h.hs.reads hK.da.ok (by rw [hR.D]) (by rw [hR.D]) (by rw [hR.D]; exact h.hs.pw)
theorem Sx.val {w : World} {base : Nat} {S : Sto} {n : Nat} {o : Sup} {L : List (Int × List Int)} {b : Nat} {a : Int} (h : Sx w base S n o L b a) (hb : b ≤ 100000) (hfit : 2 + L.length + S.vs.length ≤ n) (hd : Int) (hh : hd = 0 ∨ (2 ≤ hd ∧ hd < (2 + L.length + S.vs.length : Nat))) : validS ⟨S.s.wd, S.s.ge + 1, (2 + L.length + S.vs.length : Nat), hd, S.s.pg⟩ = true := by
  obtain ⟨v1, v2, v3, v4, v5, v6, v7, v8, v9⟩ := (validS_iff _).1 h.hs.gd.1
  have e4 := h.ge
  have e6 := h.hs.pg
  rw [validS_iff]; dsimp only
  exact ⟨v1, v2, by omega, by omega, v5, v6, by push_cast; omega, by rw [e6]; push_cast; omega, hh⟩
/-- What is staged is flushed. -/
theorem Sx.flush {w : World} {base : Nat} {S : Sto} {n : Nat} {o : Sup} {L : List (Int × List Int)} {b : Nat} (h : Sx w base S n o L b 0) (hb : b ≤ 100000) (hfit : 2 + L.length + S.vs.length ≤ n) (hd : Int) (hh : hd = 0 ∨ (2 ≤ hd ∧ hd < (2 + L.length + S.vs.length : Nat))) (hvl : S.vs.length ≤ 64) :
    Calls Try.prog 9 #[.pointer (some ⟨S.st, 0, none⟩), .int .i64 hd] w fun e w' => e = .returned (.int .i64 0) ∧ ∃ S', Sx w' base S' n S.s (L ++ S.vs) (b + 200) 0 ∧ S'.vs = [] ∧ (S'.st = S.st ∧ S'.p = S.p ∧ S'.g = S.g ∧ S'.s = ⟨S.s.wd, S.s.ge + 1, (2 + L.length + S.vs.length : Nat), hd, S.s.pg⟩ ∧ S'.ep = S.ep) ∧ Below base w w' := by
  obtain ⟨b1, b2, b3, b4, b5⟩ := h.bd
  have hN := h.N
  have e1 := h.rd
  have e2 := h.wr
  have e3 := h.sy
  have e4 := h.ge
  have e5 := h.ep
  have hval := h.val hb hfit hd hh
  have hv : ∀ v ∈ S.vs, (1 ≤ v.1 ∧ v.1 ≤ 3) ∧ v.2.length ≤ 246 ∧ Byts v.2 := fun v hv => by
    obtain ⟨j, hj, e⟩ := List.getElem_of_mem hv
    have c := h.sk.cv j (by omega)
    rw [show S.vs.getD j (0, []) = v by rw [← e]; simp [List.getD, hj]] at c
    exact ⟨c.kk, c.le, c.by8⟩
  refine (flush_un w base S h.sk h.lv (by omega) (2 + L.length) b1 h.nx ⟨by omega, by omega⟩ (by rw [h.hs.np]; omega) ⟨b5, by omega⟩ hd hh hval h.ar (by rw [h.hs.ops]; simp) (by omega) (by omega) (by omega)).mono fun e w' ⟨F', F2, D', s2, he, hs2, hB, ⟨c1, c2, c3⟩, hK, hZ⟩ => ⟨he, _, ⟨hK, h.hs.flush hv hfit hs2 (by rw [hs2]; exact hval) hB, ?_, ?_, c1, ?_, ?_, ?_, ?_, ?_, ?_⟩, rfl, ⟨rfl, rfl, rfl, hs2, rfl⟩, hZ⟩
  · show 2 + L.length + S.vs.length = 2 + (L ++ S.vs).length; rw [List.length_append]; omega
  · have := live_0 h.lv
    show liveF D' S.ep = 0
    unfold liveF
    rw [if_neg (by rw [hB.epoch, this.1]; simp), if_pos hB.pw]
  · show S.N + 1 ≤ b + 200; omega
  · show D'.reads ≤ _; rw [hB.reads]; omega
  · show D'.writes ≤ _; omega
  · show D'.syncs ≤ _; omega
  · show s2.ge ≤ _; rw [hs2]; show S.s.ge + 1 ≤ _; omega
  · show D'.epoch ≤ _; rw [hB.epoch]; omega
/-- Does the second lot stand? -/
def Kp (at_ : Int) (l : Nat) (fs : List Int) : Prop := (l : Int) + 3 < at_ ∨ ((l : Int) + 2 ≤ at_ ∧ 0 < fs.length ∧ (fateOf fs 0).testBit 0 = true)
/-- What is staged is flushed, on an armed disk. -/
theorem Sx.flushA {w : World} {base : Nat} {S : Sto} {n : Nat} {o : Sup} {L : List (Int × List Int)} {b : Nat} {a : Int} (h : Sx w base S n o L b a) (ha : 1 ≤ a) (hb : b ≤ 100000) (hfit : 2 + L.length + S.vs.length ≤ n) (hd : Int) (hh : hd = 0 ∨ (2 ≤ hd ∧ hd < (2 + L.length + S.vs.length : Nat))) (hvl : S.vs.length ≤ 64) :
    Calls Try.prog 9 #[.pointer (some ⟨S.st, 0, none⟩), .int .i64 hd] w fun e w' => ∃ S' s2, e = .returned (.int .i64 (if a ≤ S.vs.length + 3 then 2 else 0)) ∧ s2 = ⟨S.s.wd, S.s.ge + 1, (2 + L.length + S.vs.length : Nat), hd, S.s.pg⟩ ∧ SK w' base S' ∧ (S'.st = S.st ∧ S'.p = S.p ∧ S'.g = S.g ∧ S'.ep = S.ep) ∧ (a ≤ S.vs.length + 3 → S'.s = S.s ∧ S'.vs = S.vs ∧ S'.cts = S.cts) ∧ (S'.D.epoch = S.D.epoch ∧ S'.D.reads ≤ b + 200 ∧ S'.D.writes ≤ b + 200 ∧ S'.D.syncs ≤ b + 200) ∧ (∀ fs, (Kp a S.vs.length fs → Hs (S'.D.crashed fs) n s2 S.s (L ++ S.vs)) ∧ (¬ Kp a S.vs.length fs → Hs (S'.D.crashed fs) n S.s o L)) ∧ Below base w w' := by
  obtain ⟨b1, b2, b3, b4, b5⟩ := h.bd
  have hN := h.N
  have e1 := h.rd
  have e2 := h.wr
  have e3 := h.sy
  have e4 := h.ge
  have e5 := h.ep
  have hval := h.val hb hfit hd hh
  have hv : ∀ v ∈ S.vs, (1 ≤ v.1 ∧ v.1 ≤ 3) ∧ v.2.length ≤ 246 ∧ Byts v.2 := fun v hv => by
    obtain ⟨j, hj, e⟩ := List.getElem_of_mem hv
    have c := h.sk.cv j (by omega)
    rw [show S.vs.getD j (0, []) = v by rw [← e]; simp [List.getD, hj]] at c
    exact ⟨c.kk, c.le, c.by8⟩
  refine (flush_arm2 w base S h.sk h.lv (by omega) (2 + L.length) b1 h.nx ⟨by omega, by omega⟩ (by rw [h.hs.np]; omega) ⟨b5, by omega⟩ hd hh hval (by rw [h.ar]; exact ha) h.hs.ops (by omega) (by omega) (by omega)).mono ?_
  rintro e w' ⟨⟨hc, F', F2, D', s2, he, hs2, hB, ⟨c2, c3⟩, hK⟩ | ⟨hc, F', D', s2, he, hs2, hD, hK⟩, hZ⟩
  · rw [h.ar] at hc
    refine ⟨_, s2, by rw [he, if_neg (by omega)], hs2, hK, ⟨rfl, rfl, rfl, rfl⟩, fun q => by omega, ⟨hB.epoch, ?_, ?_, ?_⟩, fun fs => ⟨fun _ => ?_, fun q => absurd (Or.inl hc) q⟩, hZ⟩
    · show D'.reads ≤ _; rw [hB.reads]; omega
    · show D'.writes ≤ _; omega
    · show D'.syncs ≤ _; omega
    · have hH := h.hs.flush hv hfit hs2 (by rw [hs2]; exact hval) hB
      exact hH.crashA hB.ok (by rw [hB.epoch]; omega) rfl (fun x hx => by rw [hB.ops] at hx; cases hx) fs
  · rw [h.ar] at hc
    refine ⟨_, s2, by rw [he, if_pos hc], hs2, hK, ⟨rfl, rfl, rfl, rfl⟩, fun _ => ⟨rfl, rfl, rfl⟩, ⟨hD.epoch, ?_, ?_, ?_⟩, fun fs => ?_, hZ⟩
    · show D'.reads ≤ _; rw [hD.reads]; omega
    · show D'.writes ≤ _; have := hD.writes; omega
    · show D'.syncs ≤ _; have := hD.syncs; omega
    · show (_ → Hs (D'.crashed fs) _ _ _ _) ∧ (_ → Hs (D'.crashed fs) _ _ _ _)
      by_cases c : a ≤ S.vs.length + 1
      · obtain ⟨l1, l2⟩ := hD.lo (by rw [h.ar]; exact c)
        refine ⟨fun q => ?_, fun _ => h.hs.crashA hD.ok (by rw [hD.epoch]; omega) l1 l2 fs⟩
        rcases q with z | z
        · omega
        · have := z.1; omega
      · obtain ⟨l1, l2, l3⟩ := hD.hi (by rw [h.ar]; omega)
        obtain ⟨k1, k2⟩ := h.hs.crashB hv hfit hs2 (by rw [hs2]; exact hval) hD.ok (by rw [hD.epoch]; omega) (hD.np.trans h.hs.np) l1 (fun q hq => by rw [l2 q hq, readOf_nil h.hs.ops]) l3 fs
        refine ⟨fun q => k1 ?_, fun q => k2 fun z => q (Or.inr ⟨by omega, z⟩)⟩
        rcases q with z | z
        · omega
        · exact z.2
end Go.Proofs.Ytepeiclagalnaaa
namespace Go.Proofs.Ytepeiclagalnaaa
set_option linter.unusedVariables false
set_option linter.unusedSimpArgs false
open Go.RowKit
open Go.Proofs.Ytepeiclagalnaaa.Ca (Ct ct0 ctC argV AS)
attribute [local go_sem ↓] Go.wp_at_zero Go.wp_at_succ

set_option maxRecDepth 100000 in
set_option maxHeartbeats 1000000 in
theorem begun_hs (w : World) (n : Nat) (wd : Int) (hn : 3 ≤ n ∧ n ≤ 64) (hw : 1 ≤ wd ∧ wd ≤ 32) :
    Calls Try.prog 5 #[.int .i64 n, .int .i64 wd] w fun e w' => ∃ p F D, e = .returned (.pointer (some ⟨p, 0, none⟩)) ∧ DA w' w.heap.size F p D ∧ (Born D n wd ∧ Hs D n (fS n wd 1) (fS n wd 0) []) ∧ Below w.heap.size w w' := by
  have HNW := hid (New_ok w n hn.1 (by omega))
  obtain ⟨Z, hZ⟩ : ∃ Z : List Int, Z = List.replicate (256 * n) 0 := ⟨_, rfl⟩
  rw [← hZ] at HNW
  have okN : DsOk (newD Z) := by rw [hZ]; exact newD_ok hn.1 (by omega) List.length_replicate (bts_rep _)
  have npN : (newD Z).np = n := by
    show Z.length / 256 = n
    rw [hZ, List.length_replicate]; omega
  have pz : ∀ q, q < n → pgO Z q = zz 256 := fun q hq => by rw [hZ]; exact pgO_zero n q hq
  have RN := hid (show Rest (newD Z) n 0 from ⟨okN, npN, rfl, rfl, rfl, rfl, (by decide : (0 : Int) ≤ 1000), (by decide : (0 : Int) ≤ 1000), (by decide : (0 : Int) ≤ 1000)⟩)
  have BN := hid (show Blank (pgO (newD Z).img 0) (pgO (newD Z).img 1) from by show Blank (pgO Z 0) (pgO Z 1); rw [pz 0 (by omega), pz 1 (by omega)]; exact zz_blank)
  have j0 : (n : Int) ≤ 64 := by omega
  have HW := hid hw
  have HN := hid hn
  obtain ⟨B, hBB⟩ : ∃ B, B = w.heap.size := ⟨_, rfl⟩
  rw [← hBB] at HNW ⊢
  have B0 := hid (show B ≤ w.heap.size by omega)
  have NPN := hid npN
  clear hw hn hZ hBB okN npN pz
  go_enter Try.func5, Try.ntmps5
  go_wp2_with fail
  refine HNW.out.mono ?_
  rintro e w1 ⟨p, F, rfl, hD1, hB1⟩
  have HD1 := hid hD1
  have HB1 := hid hB1
  have HFT := hid (Format_rest w1 B F p (newD Z) hD1 (Nat.le_trans B0.out hB1.size) n 0 RN.out wd HW.out BN.out)
  clear hD1 hB1 HNW
  go_wp2_with fail
  refine HFT.out.mono ?_
  rintro e w2 ⟨rfl, D2, hFm, hnp2, hN2⟩
  obtain ⟨F2, hDA2, hB2, _⟩ := Nx.go HD1.out HB1.out B0.out hN2
  have hgd := hFm.good HW.out
  rw [show ({ newD Z with reads := (newD Z).reads + 2 } : DS).np = (newD Z).np from rfl, NPN.out] at hgd
  have HBo : Hid (Born D2 n wd ∧ Hs D2 n (fS n wd 1) (fS n wd 0) []) := hid ⟨⟨hFm.ok, hnp2, hFm.ops, hFm.pw, hFm.arm, hFm.epoch, hFm.reads, hFm.writes, hFm.syncs, hgd.chooses hFm.ops⟩, ⟨hFm.ok, hnp2, hFm.ops, hFm.pw, hgd, rfl, rfl, fun j hj => absurd hj (Nat.not_lt_zero j), (fun v hv => by cases hv), (by have := HN.out; show 2 + 0 ≤ n; omega)⟩⟩
  have HDA2 := hid hDA2
  have HB2 := hid hB2
  clear hFm hnp2 hN2 hDA2 hB2 hgd HFT
  go_wp2
  go_ret
  exact ⟨p, F2, D2, rfl, HDA2.out, HBo.out, HB2.out⟩
set_option maxRecDepth 100000 in
set_option maxHeartbeats 1000000 in
/-- A store is opened over a disk that holds pages. -/
theorem opened_hs (w : World) (base : Nat) (F : List Nat) (p : Nat) (D : DS) (h : DA w base F p D) (hbw : base ≤ w.heap.size) (n : Nat) (s o : Sup) (L : List (Int × List Int)) (hs : Hs D n s o L) (b : Nat) (hb : b ≤ 100000) (h1 : D.reads ≤ b) (h2 : D.writes ≤ b) (h3 : D.syncs ≤ b) (h4 : s.ge ≤ b) (h5 : D.epoch ≤ b) (h6 : D.armed = 0) (room : Int) :
    Calls Try.prog 7 #[.pointer (some ⟨p, 0, none⟩), .int .i64 room] w fun e w' => ∃ S', e = .returned (.pointer (some ⟨S'.st, 0, none⟩)) ∧ Sx w' base S' n o L (b + 200) 0 ∧ (S'.vs = [] ∧ S'.p = p ∧ S'.s = s) ∧ Below base w w' := by
  have hrb := wholeF_bd room 0 4096 (by omega)
  have HOP := hid (Open_ok w base F p D h hs.pw (by omega) (by omega) s hs.chs (by rw [hs.pg, hs.np]))
  have KR := hid (fun w3 => hwhole_any w3 room 0 4096 (by omega) (by omega) (by omega))
  have HH := hid h
  have HS := hid hs
  have HBW := hid hbw
  have HB := hid (And.intro h1 (And.intro h2 (And.intro h3 (And.intro h4 (And.intro h5 h6)))))
  generalize wholeF room 0 4096 = rm at *
  clear h hs hbw h1 h2 h3 h4 h5 h6
  go_enter Try.func7, Try.ntmps7
  go_wp2_with fail
  refine HOP.out.mono ?_
  rintro _ w3 ⟨g, rfl, hg, hf, hD3, hF3⟩
  have HBg := hid (show base ≤ g by have := HBW.out; omega)
  have HF := hid hf
  have HD3 := hid hD3
  have HB3 := hid (hF3.below (fun k hk => (HH.out.lt k hk).1) HBW.out)
  clear hg hf hD3 hF3 HOP
  go_wp2_with fail
  refine (KR.out w3).mono ?_
  rintro _ wx ⟨rfl, hw⟩
  obtain rfl := hw.symm
  have HNW := hid (oNew_any w3 base F p { D with reads := D.reads + 2, epoch := D.epoch + 1 } HD3.out g s s.ma (D.epoch + 1) HF.out HBg.out (by
    unfold liveF; rw [if_neg (by simp), if_pos HS.out.pw]) rm (by omega) (2 + L.length) HS.out.ma)
  clear KR
  go_wp2_with fail
  refine HNW.out.mono ?_
  rintro _ w4 ⟨st, pc, FC, rfl, hK4, _, _, hF4⟩
  have HB4 := hid (HB3.out.trans (hF4.below (fun k hk => by
    rcases List.mem_cons.1 hk with e | e
    · rw [e]; exact HBg.out
    · exact (HD3.out.lt k e).1) (Nat.le_trans HBW.out HB3.out.size)))
  have HK4 := hid hK4
  clear hK4 hF4 HNW
  go_wp2
  go_ret
  obtain ⟨h1, h2, h3, h4, h5, h6⟩ := HB.out
  refine ⟨_, rfl, ⟨HK4.out, HS.out.reads HK4.out.da.ok rfl rfl HS.out.pw, rfl, ?_, h6, Nat.zero_le _, ?_, ?_, ?_, ?_, ?_⟩, ⟨rfl, rfl, rfl⟩, HB4.out⟩
  · show liveF { D with reads := D.reads + 2, epoch := D.epoch + 1 } (D.epoch + 1) = 0
    unfold liveF; rw [if_neg (by simp), if_pos HS.out.pw]
  · show D.reads + 2 ≤ _; omega
  · show D.writes ≤ _; omega
  · show D.syncs ≤ _; omega
  · show s.ge ≤ _; omega
  · show D.epoch + 1 ≤ _; omega
/-- The disk is armed. -/
theorem Sx.arm {w : World} {base : Nat} {S : Sto} {n : Nat} {o : Sup} {L : List (Int × List Int)} {b : Nat} (h : Sx w base S n o L b 0) (a : Int) (ha : 1 ≤ a ∧ a ≤ 1000) :
    Calls Try.prog 12 #[.pointer (some ⟨S.p, 0, none⟩), .int .i64 a] w fun e w' => e = .returned (.tuple #[]) ∧ ∃ S', Sx w' base S' n o L b a ∧ S'.vs = S.vs ∧ (S'.st = S.st ∧ S'.p = S.p ∧ S'.g = S.g ∧ S'.s = S.s ∧ S'.ep = S.ep ∧ S'.cts = S.cts) ∧ Below base w w' := by
  have hpw : S.D.power = true := h.hs.pw
  have harm : S.D.arm a = { S.D with armed := max a 0 } := by unfold DS.arm; rw [if_pos hpw]
  refine (Arm_any w base S.F S.p S.D h.sk.da a (by omega)).mono ?_
  rintro e w' ⟨rfl, F7, hD7, hF7, hG7⟩
  have hm := h.bd.1
  refine ⟨rfl, _, ⟨h.sk.disked (F' := F7) (D' := S.D.arm a) hD7 (2 + L.length) hm ?_ (hF7.wide S.g) hG7 (fun x _ => by rw [harm]; rfl), ?_, rfl, ?_, ?_, h.N, ?_, ?_, ?_, h.ge, ?_⟩, rfl, ⟨rfl, rfl, rfl, rfl, rfl, rfl⟩, hF7.below (fun k hk => (h.sk.in_lt (by simp [hk])).1) h.sk.base⟩
  · have := h.sk.fk.other h.sk.da hF7
    rw [h.nx] at this
    rw [hm]; exact this
  · exact h.hs.reads hD7.ok (by rw [harm]) (by rw [harm]) (by rw [harm]; exact hpw)
  · show liveF (S.D.arm a) S.ep = 0; rw [harm]; exact h.lv
  · show (S.D.arm a).armed = a; rw [harm]; show max a 0 = a; omega
  · show (S.D.arm a).reads ≤ _; rw [harm]; exact h.rd
  · show (S.D.arm a).writes ≤ _; rw [harm]; exact h.wr
  · show (S.D.arm a).syncs ≤ _; rw [harm]; exact h.sy
  · show (S.D.arm a).epoch ≤ _; rw [harm]; exact h.ep
set_option maxRecDepth 100000 in
set_option maxHeartbeats 1000000 in
/-- Live, by the store's cells alone. -/
theorem oLive_min (w : World) (base : Nat) (F : List Nat) (st g p : Nat) (s : Sup) (nx ep : Int) (D : DS) (c0 : w.cell? ⟨st, 0, none⟩ = some (.pointer (some ⟨g, 0, none⟩))) (hf : FK w g p s nx ep) (hD : DA w base F p D) :
    Calls Try.prog 17 #[.pointer (some ⟨st, 0, none⟩)] w fun e w' => e = .returned (.int .i64 (liveF D ep)) ∧ Below w.heap.size w w' := by
  have HL := hid (Live_any w base F p D hD g s nx ep hf)
  clear hf hD
  generalize liveF D ep = c at *
  go_enter Try.func17, Try.ntmps17
  go_wp2_with fail
  refine HL.out.mono ?_
  rintro e w1 ⟨rfl, hb⟩
  go_wp2
  go_ret
  exact ⟨rfl, hb⟩
/-- The disk crashes; the old store is stale. -/
theorem SK.crash {w : World} {base : Nat} {S : Sto} (h : SK w base S) (hep : S.D.epoch = S.ep) (he : S.D.epoch < 100000) (fs : List Int) (hfb : Bts fs) (sp : Option Addr) (cap : Nat) (hS : Src w sp cap fs) (hsb : ∀ a, 0 < fs.length → sp = some a → a.block ∉ S.F) :
    Calls Try.prog 15 #[.pointer (some ⟨S.p, 0, none⟩), .slice sp fs.length cap] w fun e w' => ∃ F', e = .returned (.int .i64 S.D.ops.length) ∧ DA w' base F' S.p (S.D.crashed fs) ∧ (∀ w1, Below w'.heap.size w' w1 → Calls Try.prog 17 #[.pointer (some ⟨S.st, 0, none⟩)] w1 fun e w2 => e = .returned (.int .i64 3) ∧ Below w1.heap.size w1 w2) ∧ Below base w w' := by
  refine (Crash_any w base S.F S.p S.D h.da (by omega) fs hfb sp cap hS hsb).mono ?_
  rintro e w' ⟨rfl, F', hD', hF', hG'⟩
  have hb := hF'.below (fun k hk => (h.in_lt (by simp [hk])).1) h.base
  refine ⟨F', rfl, hD', fun w1 hb1 => ?_, hb⟩
  have r0 : w'.heap[S.st]? = some (.cells (stC S.g S.pc S.sv).toArray 61 (0, 0)) := (hF'.block S.st h.lt_st h.st_apart.2.1).trans h.sk
  have r1 : w1.heap[S.st]? = some (.cells (stC S.g S.pc S.sv).toArray 61 (0, 0)) := (hb1.block S.st (hlt_ r0)).trans r0
  have f0 := h.fk.other h.da hF'
  have f1 : FK w1 S.g S.p S.s S.nx S.ep := (hb1.block S.g (hlt_ f0)).trans f0
  have := oLive_min w1 base F' S.st S.g S.p S.s S.nx S.ep (S.D.crashed fs) (by rw [cell_of_row _ _ _ _ _ _ r1]; rfl) f1 (hD'.of_heap fun k hk => hb1.block k (hD'.lt k hk).2)
  rw [show liveF (S.D.crashed fs) S.ep = 3 by unfold liveF; rw [if_pos (by show S.D.epoch + 1 ≠ S.ep; omega)]] at this
  exact this
end Go.Proofs.Ytepeiclagalnaaa
