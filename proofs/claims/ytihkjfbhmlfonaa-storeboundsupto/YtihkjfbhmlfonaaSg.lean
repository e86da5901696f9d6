import Derived.Test.YtihkjfbhmlfonaaSt25
import Derived.Test.YtihkjfbhmlfonaaSe
namespace Go.Proofs.Ytihkjfbhmlfonaa
set_option linter.unusedVariables false
set_option linter.unusedSimpArgs false
open Go.RowKit
open Go.Proofs.Ytihkjfbhmlfonaa.Ca (Ct ct0 ctC argV AS)
attribute [local go_sem ↓] Go.wp_at_zero Go.wp_at_succ

/-- One open write: its first sector is there or is not, as the first fate says. -/
theorem crash_oneX {D : DS} (hok : DsOk D) (fs : List Int) (q : Nat) (hq : q < D.np) (d : List Int) (h1 : D.ops = [⟨q, d⟩]) : ∃ (T : List Int), T.length = 192 ∧ Byts T ∧ pgO (crashTo D.img D.ops fs D.ops.length) q = (if 0 < fs.length ∧ (fateOf fs 0).testBit 0 = true then d else pgO D.img q).take 64 ++ T := by
  obtain ⟨_, _, hn, hop⟩ := hok.np
  have ho := hop ⟨q, d⟩ (by rw [h1]; exact List.mem_singleton.2 rfl)
  have hcl := crashTo_len fs hn hop _ (Nat.le_refl _)
  have hb8 := crashTo_bts fs hok.bts hop _ (Nat.le_refl _)
  have hP := pgO_len hcl hq
  have hd : d.length = 256 := ho.2.1
  have key : ∀ X : List Int, X.length = 256 → (∀ j, j < 64 → (pgO (crashTo D.img D.ops fs D.ops.length) q).getD j 0 = X.getD j 0) → pgO (crashTo D.img D.ops fs D.ops.length) q = X.take 64 ++ (pgO (crashTo D.img D.ops fs D.ops.length) q).drop 64 := by
    intro X hX hj
    refine list_ext0 (by simp [hP, hX]) fun j hj2 => ?_
    rw [hP] at hj2
    by_cases c : j < 64
    · rw [List.getD_eq_getElem?_getD (l := X.take 64 ++ _), List.getElem?_append_left (by rw [List.length_take]; omega), List.getElem?_take, if_pos c, ← List.getD_eq_getElem?_getD]; exact hj j c
    · rw [List.getD_eq_getElem?_getD (l := X.take 64 ++ _), List.getElem?_append_right (by rw [List.length_take]; omega), List.getElem?_drop, ← List.getD_eq_getElem?_getD]
      congr 1; rw [List.length_take]; omega
  have hT : ((pgO (crashTo D.img D.ops fs D.ops.length) q).drop 64).length = 192 := by rw [List.length_drop, hP]
  have hT8 : Byts ((pgO (crashTo D.img D.ops fs D.ops.length) q).drop 64) := fun x hx => pgO_byts hb8 q x (List.mem_of_mem_drop hx)
  have hval : ∀ j, j < 64 → (pgO (crashTo D.img D.ops fs D.ops.length) q).getD j 0 = if 0 < fs.length ∧ (fateOf fs 0).testBit 0 = true then d.getD j 0 else (pgO D.img q).getD j 0 := by
    intro j hj
    rw [pgO_get _ _ _ (by omega), pgO_get _ _ _ (by omega), h1]
    show (if 0 < fs.length then tornTo D.img ⟨q, d⟩ (fateOf fs 0) 4 else D.img).getD (q * 256 + j) 0 = _
    by_cases c : 0 < fs.length
    · rw [if_pos c, tornTo_get _ hn ho 4 (Nat.le_refl _)]
      have e : (q * 256 + j - q * 256) / 64 = 0 := by omega
      have e2 : q * 256 + j - q * 256 = j := by omega
      by_cases b : (fateOf fs 0).testBit 0 = true
      · rw [if_pos (by refine ⟨?_, ?_, ?_⟩ <;> first | (show (fateOf fs 0).testBit ((q * 256 + j - q * 256) / 64) = true; rw [e]; exact b) | (show _ ≤ _; simp only; omega) | (show _ < _; simp only; omega)), if_pos ⟨c, b⟩]
        exact congrArg (fun i => d.getD i 0) e2
      · rw [if_neg (fun x => by have x2 := x.2.2; change (fateOf fs 0).testBit ((q * 256 + j - q * 256) / 64) = true at x2; rw [e] at x2; exact b x2), if_neg (fun x => b x.2)]
    · rw [if_neg c, if_neg (fun x => c x.1)]
  by_cases c : 0 < fs.length ∧ (fateOf fs 0).testBit 0 = true
  · exact ⟨_, hT, hT8, by rw [if_pos c]; exact key d hd fun j hj => by rw [hval j hj, if_pos c]⟩
  · exact ⟨_, hT, hT8, by rw [if_neg c]; exact key (pgO D.img q) (pgO_len hn hq) fun j hj => by rw [hval j hj, if_neg c]⟩
/-- What a disk holds: s under o, and the pages L. -/
structure Hs (D : DS) (n : Nat) (s o : Sup) (L : List (Int × List Int)) : Prop where
  ok : DsOk D
  np : D.np = n
  ops : D.ops = []
  pw : D.power = true
  gd : Good s o (pgO D.img 0) (pgO D.img 1)
  ma : s.ma = (2 + L.length : Nat)
  pg : s.pg = n
  pgs : ∀ j, j < L.length → pgO D.img (2 + j) = pageP (L.getD j (0, [])).1 ((2 + j : Nat) : Int) (L.getD j (0, [])).2
  lv : ∀ v ∈ L, (1 ≤ v.1 ∧ v.1 ≤ 3) ∧ v.2.length ≤ 246 ∧ Byts v.2
  le : 2 + L.length ≤ n
theorem Hs.n4 {D : DS} {n : Nat} {s o : Sup} {L : List (Int × List Int)} (h : Hs D n s o L) : 3 ≤ n ∧ n ≤ 4096 := by
  obtain ⟨h3, h4, _, _⟩ := h.ok.np
  rw [h.np] at h3 h4
  exact ⟨h3, h4⟩
theorem Hs.chs {D : DS} {n : Nat} {s o : Sup} {L : List (Int × List Int)} (h : Hs D n s o L) : chooseF (D.readOf 0) (D.readOf 1) = (s, 0) := h.gd.chooses h.ops
theorem mem_getD {L : List (Int × List Int)} {j : Nat} (hj : j < L.length) : L.getD j (0, []) ∈ L := by
  rw [List.getD_eq_getElem?_getD, List.getElem?_eq_getElem hj]; exact List.getElem_mem hj
theorem Hs.kn {S : Sto} {n : Nat} {o : Sup} {L : List (Int × List Int)} (h : Hs S.D n S.s o L) (j : Nat) (hj : j < L.length) : Kn S (2 + j) (L.getD j (0, [])) := by
  have h4 := h.n4
  have hle := h.le
  obtain ⟨v1, v2, v3⟩ := h.lv _ (mem_getD hj)
  refine Or.inl ⟨by omega, by rw [h.ma]; push_cast; omega, by rw [h.np]; omega, ?_, v1, v2, v3⟩
  rw [readOf_nil h.ops, h.pgs j hj, unpack_page _ _ _ _ ((kindOk_iff _).2 v1) ((placeOk_iff _).2 ⟨by omega, by omega⟩) v2 v3, if_pos rfl]
theorem Hs.reads {D D' : DS} {n : Nat} {s o : Sup} {L : List (Int × List Int)} (h : Hs D n s o L) (hok : DsOk D') (h1 : D'.img = D.img) (h2 : D'.ops = D.ops) (h3 : D'.power = true) : Hs D' n s o L :=
  ⟨hok, (np_img (by rw [h1])).trans h.np, h2.trans h.ops, h3, by rw [h1]; exact h.gd, h.ma, h.pg, fun j hj => by rw [h1]; exact h.pgs j hj, h.lv, h.le⟩
/-- The superblock's own slot, and the other. -/
theorem Good.own {s o : Sup} {L0 L1 : List Int} (h : Good s o L0 L1) : ∃ Y : List Int, Y.length = 192 ∧ Byts Y ∧ (s.ge % 2 = 0 → L0 = secS s ++ Y) ∧ (s.ge % 2 = 1 → L1 = secS s ++ Y) := by
  obtain ⟨hv, ho, hf, Y, Z, hY, hZ, y8, z8, ⟨h1, h2, h3⟩ | ⟨h1, h2, h3⟩⟩ := h
  · exact ⟨Y, hY, y8, fun _ => h2, fun q => by omega⟩
  · exact ⟨Z, hZ, z8, fun q => by omega, fun _ => h3⟩
theorem good_next {s o s2 : Sup} {L0 L1 M0 M1 : List Int} (h : Good s o L0 L1) (hv : validS s2 = true) (hf : Fol s2 s) (Y : List Int) (hY : Y.length = 192) (y8 : Byts Y) (h0 : s2.ge % 2 = 0 → M0 = secS s2 ++ Y ∧ M1 = L1) (h1 : s2.ge % 2 = 1 → M1 = secS s2 ++ Y ∧ M0 = L0) : Good s2 s M0 M1 := by
  obtain ⟨Z, hZ, z8, q0, q1⟩ := h.own
  have hg := hf.1
  refine ⟨hv, h.1, hf, ?_⟩
  by_cases c : s2.ge % 2 = 0
  · obtain ⟨a, b⟩ := h0 c
    exact ⟨Y, Z, hY, hZ, y8, z8, Or.inl ⟨c, a, by rw [b]; exact q1 (by omega)⟩⟩
  · obtain ⟨a, b⟩ := h1 (by omega)
    exact ⟨Z, Y, hZ, hY, z8, y8, Or.inr ⟨by omega, by rw [b]; exact q0 (by omega), a⟩⟩
/-- Behind a Flush that goes well. -/
theorem Hs.flush {S : Sto} {n : Nat} {o s2 : Sup} {L : List (Int × List Int)} {D' : DS} {hd : Int} (h : Hs S.D n S.s o L) (hv : ∀ v ∈ S.vs, (1 ≤ v.1 ∧ v.1 ≤ 3) ∧ v.2.length ≤ 246 ∧ Byts v.2) (hle : 2 + L.length + S.vs.length ≤ n) (hs2 : s2 = ⟨S.s.wd, S.s.ge + 1, (2 + L.length + S.vs.length : Nat), hd, S.s.pg⟩) (hval : validS s2 = true) (hB : Pbd S (2 + L.length) s2 D') : Hs D' n s2 S.s (L ++ S.vs) := by
  have hge : s2.ge = S.s.ge + 1 := by rw [hs2]
  have hge0 : 0 ≤ S.s.ge := ((validS_iff _).1 h.gd.1).2.2.1
  have h4 := h.n4
  refine ⟨hB.ok, hB.np.trans h.np, hB.ops, hB.pw, ?_, by rw [hs2, List.length_append, Nat.add_assoc], by rw [hs2]; exact h.pg, fun j hj => ?_, fun v hv2 => ?_, by rw [List.length_append]; omega⟩
  · refine good_next h.gd hval ⟨by rw [hs2], by rw [hs2], by rw [hs2], by rw [hs2, h.ma]; push_cast; omega⟩ (List.replicate 192 0) List.length_replicate (rep_byts _) (fun q => ?_) (fun q => ?_)
    · have := hB.slot
      rw [q] at this
      exact ⟨this, by rw [hB.other 1 (by omega) (by rw [q]; decide), readOf_nil h.ops]⟩
    · have := hB.slot
      rw [q] at this
      exact ⟨this, by rw [hB.other 0 (by omega) (by rw [q]; decide), readOf_nil h.ops]⟩
  · rw [List.length_append] at hj
    rw [← readOf_nil hB.ops]
    by_cases c : j < L.length
    · rw [hB.old (2 + j) (by omega) (by omega), readOf_nil h.ops, h.pgs j c]
      rw [List.getD_eq_getElem?_getD (l := L ++ S.vs), List.getElem?_append_left c, ← List.getD_eq_getElem?_getD]
    · have e : 2 + j = 2 + L.length + (j - L.length) := by omega
      rw [e, hB.new (j - L.length) (by omega)]
      rw [List.getD_eq_getElem?_getD (l := L ++ S.vs), List.getElem?_append_right (by omega), ← List.getD_eq_getElem?_getD]
  · rcases List.mem_append.1 hv2 with z | z
    · exact h.lv v z
    · exact hv v z
/-- A crash while just pages above the mark are open. -/
theorem Hs.crashA {D D' : DS} {n : Nat} {s o : Sup} {L : List (Int × List Int)} (h : Hs D n s o L) (hok : DsOk D') (hep : D'.epoch < 4000000000000000000) (h1 : D'.img = D.img) (h2 : ∀ x ∈ D'.ops, 2 + L.length ≤ x.page) (fs : List Int) : Hs (D'.crashed fs) n s o L := by
  have h4 := h.n4
  have hle := h.le
  have np : D'.np = n := (np_img (by rw [h1])).trans h.np
  have key : ∀ q, q < 2 + L.length → pgO (D'.crashed fs).img q = pgO D.img q := fun q hq => by
    have := crash_page hok fs q (by omega) (fun x hx => by have := h2 x hx; omega)
    rw [h1] at this
    rw [← this, ← h1]; rfl
  exact ⟨crashed_ok hok hep fs, (crashed_np hok fs).trans np, rfl, rfl, by rw [key 0 (by omega), key 1 (by omega)]; exact h.gd, h.ma, h.pg, fun j hj => by rw [key (2 + j) (by omega)]; exact h.pgs j hj, h.lv, h.le⟩
theorem take64 (s : Sup) (Y : List Int) : (secS s ++ Y).take 64 = secS s := by rw [List.take_left' (secS_len s)]
/-- A crash while just the superblock is open. -/
theorem Hs.crashB {D D' : DS} {n : Nat} {s o s2 : Sup} {L V : List (Int × List Int)} {hd : Int} (h : Hs D n s o L) (hv : ∀ v ∈ V, (1 ≤ v.1 ∧ v.1 ≤ 3) ∧ v.2.length ≤ 246 ∧ Byts v.2) (hle : 2 + L.length + V.length ≤ n) (hs2 : s2 = ⟨s.wd, s.ge + 1, (2 + L.length + V.length : Nat), hd, s.pg⟩) (hval : validS s2 = true) (hok : DsOk D') (hep : D'.epoch < 4000000000000000000) (np : D'.np = n) (hops : D'.ops = [⟨(s2.ge % 2).toNat, secP s2⟩]) (h0 : ∀ q, q < 2 + L.length → pgO D'.img q = pgO D.img q) (h1 : ∀ j, j < V.length → pgO D'.img (2 + L.length + j) = pageP (V.getD j (0, [])).1 ((2 + L.length + j : Nat) : Int) (V.getD j (0, [])).2) (fs : List Int) :
    (0 < fs.length ∧ (fateOf fs 0).testBit 0 = true → Hs (D'.crashed fs) n s2 s (L ++ V)) ∧ (¬ (0 < fs.length ∧ (fateOf fs 0).testBit 0 = true) → Hs (D'.crashed fs) n s o L) := by
  have hge : s2.ge = s.ge + 1 := by rw [hs2]
  have h4 := h.n4
  obtain ⟨k, hk⟩ : ∃ k : Nat, k = (s2.ge % 2).toNat := ⟨_, rfl⟩
  have hk2 : s2.ge % 2 = (k : Int) := by omega
  have hk3 : k < 2 := by omega
  rw [← hk] at hops
  have key : ∀ q, q < n → q ≠ k → pgO (D'.crashed fs).img q = pgO D'.img q := fun q hq hne => crash_page hok fs q (by omega) (fun x hx => by rw [hops] at hx; rw [List.mem_singleton.1 hx]; exact fun e => hne e.symm)
  obtain ⟨T, hT, t8, hp⟩ := crash_oneX hok fs k (by omega) (secP s2) hops
  have hp2 : pgO (D'.crashed fs).img k = (if 0 < fs.length ∧ (fateOf fs 0).testBit 0 = true then secP s2 else pgO D'.img k).take 64 ++ T := hp
  have PG : ∀ j, j < (L ++ V).length → pgO (D'.crashed fs).img (2 + j) = pageP ((L ++ V).getD j (0, [])).1 ((2 + j : Nat) : Int) ((L ++ V).getD j (0, [])).2 := fun j hj => by
    rw [List.length_append] at hj
    rw [key (2 + j) (by omega) (by omega)]
    by_cases c : j < L.length
    · rw [h0 (2 + j) (by omega), h.pgs j c, List.getD_eq_getElem?_getD (l := L ++ V), List.getElem?_append_left c, ← List.getD_eq_getElem?_getD]
    · have e : 2 + j = 2 + L.length + (j - L.length) := by omega
      rw [e, h1 (j - L.length) (by omega), List.getD_eq_getElem?_getD (l := L ++ V), List.getElem?_append_right (by omega), ← List.getD_eq_getElem?_getD]
  refine ⟨fun c => ?_, fun c => ?_⟩
  · rw [if_pos c] at hp2
    rw [secP, take64] at hp2
    refine ⟨crashed_ok hok hep fs, (crashed_np hok fs).trans np, rfl, rfl, ?_, by rw [hs2, List.length_append, Nat.add_assoc], by rw [hs2]; exact h.pg, PG, fun v hv2 => ?_, by rw [List.length_append]; omega⟩
    · refine good_next h.gd hval ⟨by rw [hs2], by rw [hs2], by rw [hs2], by rw [hs2, h.ma]; push_cast; omega⟩ T hT t8 (fun q => ?_) (fun q => ?_)
      · have e : k = 0 := by omega
        rw [e] at hp2
        exact ⟨hp2, by rw [key 1 (by omega) (by omega), h0 1 (by omega)]⟩
      · have e : k = 1 := by omega
        rw [e] at hp2
        exact ⟨hp2, by rw [key 0 (by omega) (by omega), h0 0 (by omega)]⟩
    · rcases List.mem_append.1 hv2 with z | z
      · exact h.lv v z
      · exact hv v z
  · rw [if_neg c, h0 k (by omega)] at hp2
    refine ⟨crashed_ok hok hep fs, (crashed_np hok fs).trans np, rfl, rfl, ?_, h.ma, h.pg, fun j hj => ?_, h.lv, h.le⟩
    · obtain ⟨g1, g2, g3, Y, Z, hY, hZ, y8, z8, ⟨q1, q2, q3⟩ | ⟨q1, q2, q3⟩⟩ := h.gd
      · have e : k = 1 := by omega
        rw [e, q3, take64] at hp2
        exact ⟨g1, g2, g3, Y, T, hY, hT, y8, t8, Or.inl ⟨q1, by rw [key 0 (by omega) (by omega), h0 0 (by omega)]; exact q2, hp2⟩⟩
      · have e : k = 0 := by omega
        rw [e, q2, take64] at hp2
        exact ⟨g1, g2, g3, T, Z, hT, hZ, t8, z8, Or.inr ⟨q1, hp2, by rw [key 1 (by omega) (by omega), h0 1 (by omega)]; exact q3⟩⟩
    · rw [key (2 + j) (by have := h.le; omega) (by omega), h0 (2 + j) (by omega)]; exact h.pgs j hj
end Go.Proofs.Ytihkjfbhmlfonaa
namespace Go.Proofs.Ytihkjfbhmlfonaa
set_option linter.unusedVariables false
set_option linter.unusedSimpArgs false
open Go.RowKit
open Go.Proofs.Ytihkjfbhmlfonaa.Ca (Ct ct0 ctC argV AS)
attribute [local go_sem ↓] Go.wp_at_zero Go.wp_at_succ

/-- A store over a disk that holds the pages L; b bounds what is counted, at is how the disk is armed. -/
structure Sx (w : World) (base : Nat) (S : Sto) (n : Nat) (o : Sup) (L : List (Int × List Int)) (b : Nat) (at_ : Int) : Prop where
  sk : SK w base S
  hs : Hs S.D n S.s o L
  nx : S.nx = 2 + L.length
  lv : liveF S.D S.ep = 0
  ar : S.D.armed = at_
  N : S.N ≤ b
  rd : S.D.reads ≤ b
  wr : S.D.writes ≤ b
  sy : S.D.syncs ≤ b
  ge : S.s.ge ≤ 1099511627776
  ep : S.D.epoch ≤ b
theorem Sx.below {w w1 : World} {base : Nat} {S : Sto} {n : Nat} {o : Sup} {L : List (Int × List Int)} {b : Nat} {a : Int} (h : Sx w base S n o L b a) (hb : Below w.heap.size w w1) : Sx w1 base S n o L b a := ⟨h.sk.below hb, h.hs, h.nx, h.lv, h.ar, h.N, h.rd, h.wr, h.sy, h.ge, h.ep⟩
theorem Sx.more {w : World} {base : Nat} {S : Sto} {n : Nat} {o : Sup} {L : List (Int × List Int)} {b : Nat} {a : Int} (h : Sx w base S n o L b a) (c : Nat) (hc : b ≤ c) : Sx w base S n o L c a := ⟨h.sk, h.hs, h.nx, h.lv, h.ar, by have := h.N; omega, by have := h.rd; omega, by have := h.wr; omega, by have := h.sy; omega, by have := h.ge; omega, by have := h.ep; omega⟩
theorem Sx.bd {w : World} {base : Nat} {S : Sto} {n : Nat} {o : Sup} {L : List (Int × List Int)} {b : Nat} {a : Int} (h : Sx w base S n o L b a) : S.s.ma = (2 + L.length : Nat) ∧ 2 + L.length ≤ n ∧ n ≤ 4096 ∧ S.cts.length = S.vs.length ∧ 0 ≤ S.s.ge := ⟨h.hs.ma, h.hs.le, h.hs.n4.2, h.sk.cl, ((validS_iff _).1 h.hs.gd.1).2.2.1⟩
theorem Sx.val {w : World} {base : Nat} {S : Sto} {n : Nat} {o : Sup} {L : List (Int × List Int)} {b : Nat} {a : Int} (h : Sx w base S n o L b a) (hge : S.s.ge < 1099511627776) (hb : b ≤ 100000) (hfit : 2 + L.length + S.vs.length ≤ n) (hd : Int) (hh : hd = 0 ∨ (2 ≤ hd ∧ hd < (2 + L.length + S.vs.length : Nat))) : validS ⟨S.s.wd, S.s.ge + 1, (2 + L.length + S.vs.length : Nat), hd, S.s.pg⟩ = true := by
  obtain ⟨v1, v2, v3, v4, v5, v6, v7, v8, v9⟩ := (validS_iff _).1 h.hs.gd.1
  have e4 := h.ge
  have e6 := h.hs.pg
  rw [validS_iff]; dsimp only
  exact ⟨v1, v2, by omega, by omega, v5, v6, by push_cast; omega, by rw [e6]; push_cast; omega, hh⟩
/-- What is staged is flushed. -/
theorem Sx.flush {w : World} {base : Nat} {S : Sto} {n : Nat} {o : Sup} {L : List (Int × List Int)} {b : Nat} (h : Sx w base S n o L b 0) (hge : S.s.ge < 1099511627776) (hb : b ≤ 100000) (hfit : 2 + L.length + S.vs.length ≤ n) (hd : Int) (hh : hd = 0 ∨ (2 ≤ hd ∧ hd < (2 + L.length + S.vs.length : Nat))) (hvl : S.vs.length ≤ 64) :
    Calls Try.prog 27 #[.pointer (some ⟨S.st, 0, none⟩), .int .i64 hd] w fun e w' => e = .returned (.int .i64 0) ∧ ∃ S', Sx w' base S' n S.s (L ++ S.vs) (b + 200) 0 ∧ S'.vs = [] ∧ (S'.st = S.st ∧ S'.p = S.p ∧ S'.g = S.g ∧ S'.s = ⟨S.s.wd, S.s.ge + 1, (2 + L.length + S.vs.length : Nat), hd, S.s.pg⟩ ∧ S'.ep = S.ep) ∧ (Below base w w' ∧ Fr S.fp w w' ∧ Gr w S.fp S'.fp) ∧ (∀ q, q < n → pgO S'.D.img q = if (q : Int) = S'.s.ge % 2 then secP S'.s else if 2 + L.length ≤ q ∧ q < 2 + L.length + S.vs.length then pageP (S.vs.getD (q - (2 + L.length)) (0, [])).1 (q : Int) (S.vs.getD (q - (2 + L.length)) (0, [])).2 else pgO S.D.img q) := by
  obtain ⟨b1, b2, b3, b4, b5⟩ := h.bd
  have hN := h.N
  have e1 := h.rd
  have e2 := h.wr
  have e3 := h.sy
  have e4 := h.ge
  have e5 := h.ep
  have hval := h.val hge hb hfit hd hh
  have hv : ∀ v ∈ S.vs, (1 ≤ v.1 ∧ v.1 ≤ 3) ∧ v.2.length ≤ 246 ∧ Byts v.2 := fun v hv => by
    obtain ⟨j, hj, e⟩ := List.getElem_of_mem hv
    have c := h.sk.cv j (by omega)
    rw [show S.vs.getD j (0, []) = v by rw [← e]; simp [List.getD, hj]] at c
    exact ⟨c.kk, c.le, c.by8⟩
  refine (flush_un w base S h.sk h.lv (by omega) (2 + L.length) b1 h.nx ⟨by omega, by omega⟩ (by rw [h.hs.np]; omega) ⟨b5, by omega⟩ hd hh hval h.ar (by rw [h.hs.ops]; simp) (by omega) (by omega) (by omega)).mono fun e w' ⟨F', F2, D', s2, he, hs2, hB, ⟨c1, c2, c3⟩, hK, hZ⟩ => ⟨he, _, ⟨hK, h.hs.flush hv hfit hs2 (by rw [hs2]; exact hval) hB, ?_, ?_, c1, ?_, ?_, ?_, ?_, ?_, ?_⟩, rfl, ⟨rfl, rfl, rfl, hs2, rfl⟩, hZ, fun q hq => ?_⟩
  · show 2 + L.length + S.vs.length = 2 + (L ++ S.vs).length; rw [List.length_append]; omega
  · have := live_0 h.lv
    show liveF D' S.ep = 0
    unfold liveF
    rw [if_neg (by rw [hB.epoch, this.1]; simp), if_pos hB.pw]
  · show S.N + 1 ≤ b + 200; omega
  · show D'.reads ≤ _; rw [hB.reads]; omega
  · show D'.writes ≤ _; omega
  · show D'.syncs ≤ _; omega
  · show s2.ge ≤ _; rw [hs2]; show S.s.ge + 1 ≤ _; omega
  · show D'.epoch ≤ _; rw [hB.epoch]; omega
  · show pgO D'.img q = if (q : Int) = s2.ge % 2 then secP s2 else _
    have hg2 : s2.ge = S.s.ge + 1 := by rw [hs2]
    by_cases c0 : (q : Int) = s2.ge % 2
    · rw [if_pos c0, show q = (s2.ge % 2).toNat by omega]; exact hB.slot
    · rw [if_neg c0]
      by_cases c1 : 2 + L.length ≤ q ∧ q < 2 + L.length + S.vs.length
      · rw [if_pos c1, ← readOf_nil hB.ops]
        have := hB.new (q - (2 + L.length)) (by omega)
        rwa [show 2 + L.length + (q - (2 + L.length)) = q by omega] at this
      · rw [if_neg c1, ← readOf_nil h.hs.ops q]
        by_cases c2 : q < 2
        · exact hB.other q c2 (by omega)
        · rw [← readOf_nil hB.ops q]
          by_cases c3 : q < 2 + L.length
          · exact hB.old q (by omega) c3
          · exact hB.rest q (by omega) (by rw [h.hs.np]; exact hq)
end Go.Proofs.Ytihkjfbhmlfonaa
namespace Go.Proofs.Ytihkjfbhmlfonaa
set_option linter.unusedVariables false
set_option linter.unusedSimpArgs false
open Go.RowKit
open Go.Proofs.Ytihkjfbhmlfonaa.Ca (Ct ct0 ctC argV AS)
attribute [local go_sem ↓] Go.wp_at_zero Go.wp_at_succ

set_option maxRecDepth 100000 in
set_option maxHeartbeats 1000000 in
theorem begun_hs (w : World) (n : Nat) (wd : Int) (hn : 3 ≤ n ∧ n ≤ 64) (hw : 1 ≤ wd ∧ wd ≤ 32) :
    Calls Try.prog 4 #[.int .i64 n, .int .i64 wd] w fun e w' => ∃ p F D, e = .returned (.pointer (some ⟨p, 0, none⟩)) ∧ DA w' w.heap.size F p D ∧ (Born D n wd ∧ Hs D n (fS n wd 1) (fS n wd 0) [] ∧ ∀ q, q < n → pgO D.img q = if q = 0 then secP (fS n wd 0) else if q = 1 then secP (fS n wd 1) else zz 256) ∧ Below w.heap.size w w' := by
  have HNW := hid (New_ok w n hn.1 (by omega))
  obtain ⟨Z, hZ⟩ : ∃ Z : List Int, Z = List.replicate (256 * n) 0 := ⟨_, rfl⟩
  rw [← hZ] at HNW
  have okN : DsOk (newD Z) := by rw [hZ]; exact newD_ok hn.1 (by omega) List.length_replicate (bts_rep _)
  have npN : (newD Z).np = n := by
    show Z.length / 256 = n
    rw [hZ, List.length_replicate]; omega
  have pz : ∀ q, q < n → pgO Z q = zz 256 := fun q hq => by rw [hZ]; exact pgO_zero n q hq
  have RN := hid (show Rest (newD Z) n 0 from ⟨okN, npN, rfl, rfl, rfl, rfl, (by decide : (0 : Int) ≤ 1000), (by decide : (0 : Int) ≤ 1000), (by decide : (0 : Int) ≤ 1000)⟩)
  have BN := hid (show Blank (pgO (newD Z).img 0) (pgO (newD Z).img 1) from by show Blank (pgO Z 0) (pgO Z 1); rw [pz 0 (by omega), pz 1 (by omega)]; exact zz_blank)
  have j0 : (n : Int) ≤ 64 := by omega
  have HW := hid hw
  have HN := hid hn
  obtain ⟨B, hBB⟩ : ∃ B, B = w.heap.size := ⟨_, rfl⟩
  rw [← hBB] at HNW ⊢
  have B0 := hid (show B ≤ w.heap.size by omega)
  have NPN := hid npN
  have PZ := hid (show ∀ q, q < n → pgO (newD Z).img q = zz 256 from pz)
  clear hw hn hZ hBB okN npN pz
  go_enter Try.func4, Try.ntmps4
  go_wp2_with fail
  refine HNW.out.mono ?_
  rintro e w1 ⟨p, F, rfl, hD1, hB1⟩
  have HD1 := hid hD1
  have HB1 := hid hB1
  have HFT := hid (Format_rest w1 B F p (newD Z) hD1 (Nat.le_trans B0.out hB1.size) n 0 RN.out wd HW.out BN.out)
  clear hD1 hB1 HNW
  go_wp2_with fail
  refine HFT.out.mono ?_
  rintro e w2 ⟨rfl, D2, hFm, hnp2, hN2⟩
  obtain ⟨F2, hDA2, hB2, _⟩ := Nx.go HD1.out HB1.out B0.out hN2
  have hgd := hFm.good HW.out
  rw [show ({ newD Z with reads := (newD Z).reads + 2 } : DS).np = (newD Z).np from rfl, NPN.out] at hgd
  have HIM : ∀ q, q < n → pgO D2.img q = if q = 0 then secP (fS n wd 0) else if q = 1 then secP (fS n wd 1) else zz 256 := fun q hq => by
    have npz := NPN.out
    by_cases c0 : q = 0
    · rw [c0, if_pos rfl]; have := hFm.p0; rwa [show ({ newD Z with reads := (newD Z).reads + 2 } : DS).np = (newD Z).np from rfl, npz] at this
    · by_cases c1 : q = 1
      · rw [c1, if_neg (by omega), if_pos rfl]; have := hFm.p1; rwa [show ({ newD Z with reads := (newD Z).reads + 2 } : DS).np = (newD Z).np from rfl, npz] at this
      · rw [if_neg c0, if_neg c1, hFm.rest q (by omega) (by show q < (newD Z).np; rw [npz]; exact hq)]; exact PZ.out q hq
  have HBo : Hid (Born D2 n wd ∧ Hs D2 n (fS n wd 1) (fS n wd 0) [] ∧ ∀ q, q < n → pgO D2.img q = if q = 0 then secP (fS n wd 0) else if q = 1 then secP (fS n wd 1) else zz 256) := hid ⟨⟨hFm.ok, hnp2, hFm.ops, hFm.pw, hFm.arm, hFm.epoch, hFm.reads, hFm.writes, hFm.syncs, hgd.chooses hFm.ops⟩, ⟨hFm.ok, hnp2, hFm.ops, hFm.pw, hgd, rfl, rfl, fun j hj => absurd hj (Nat.not_lt_zero j), (fun v hv => by cases hv), (by have := HN.out; show 2 + 0 ≤ n; omega)⟩, HIM⟩
  have HDA2 := hid hDA2
  have HB2 := hid hB2
  clear hFm hnp2 hN2 hDA2 hB2 hgd HFT HIM
  go_wp2
  go_ret
  exact ⟨p, F2, D2, rfl, HDA2.out, HBo.out, HB2.out⟩
set_option maxRecDepth 100000 in
set_option maxHeartbeats 1000000 in
/-- A store is opened over a disk that holds pages. -/
theorem opened_hs (w : World) (base : Nat) (F : List Nat) (p : Nat) (D : DS) (h : DA w base F p D) (hbw : base ≤ w.heap.size) (n : Nat) (s o : Sup) (L : List (Int × List Int)) (hs : Hs D n s o L) (b : Nat) (hb : b ≤ 100000) (h1 : D.reads ≤ b) (h2 : D.writes ≤ b) (h3 : D.syncs ≤ b) (h4 : s.ge ≤ b) (h5 : D.epoch ≤ b) (h6 : D.armed = 0) (room : Int) :
    Calls Try.prog 7 #[.pointer (some ⟨p, 0, none⟩), .int .i64 room] w fun e w' => ∃ S', e = .returned (.pointer (some ⟨S'.st, 0, none⟩)) ∧ Sx w' base S' n o L (b + 200) 0 ∧ (S'.vs = [] ∧ S'.p = p ∧ S'.s = s ∧ S'.D.img = D.img) ∧ Below base w w' := by
  have hrb := wholeF_bd room 0 4096 (by omega)
  have HOP := hid (Open_ok w base F p D h hs.pw (by omega) (by omega) s hs.chs (by rw [hs.pg, hs.np]))
  have KR := hid (fun w3 => hwhole_any w3 room 0 4096 (by omega) (by omega) (by omega))
  have HH := hid h
  have HS := hid hs
  have HBW := hid hbw
  have HB := hid (And.intro h1 (And.intro h2 (And.intro h3 (And.intro h4 (And.intro h5 h6)))))
  generalize wholeF room 0 4096 = rm at *
  clear h hs hbw h1 h2 h3 h4 h5 h6
  go_enter Try.func7, Try.ntmps7
  go_wp2_with fail
  refine HOP.out.mono ?_
  rintro _ w3 ⟨g, rfl, hg, hf, hD3, hF3⟩
  have HBg := hid (show base ≤ g by have := HBW.out; omega)
  have HF := hid hf
  have HD3 := hid hD3
  have HB3 := hid (hF3.below (fun k hk => (HH.out.lt k hk).1) HBW.out)
  clear hg hf hD3 hF3 HOP
  go_wp2_with fail
  refine (KR.out w3).mono ?_
  rintro _ wx ⟨rfl, hw⟩
  obtain rfl := hw.symm
  have HNW := hid (oNew_any w3 base F p { D with reads := D.reads + 2, epoch := D.epoch + 1 } HD3.out g s s.ma (D.epoch + 1) HF.out HBg.out (by
    unfold liveF; rw [if_neg (by simp), if_pos HS.out.pw]) rm (by omega) (2 + L.length) HS.out.ma)
  clear KR
  go_wp2_with fail
  refine HNW.out.mono ?_
  rintro _ w4 ⟨st, pc, FC, rfl, hK4, _, _, hF4⟩
  have HB4 := hid (HB3.out.trans (hF4.below (fun k hk => by
    rcases List.mem_cons.1 hk with e | e
    · rw [e]; exact HBg.out
    · exact (HD3.out.lt k e).1) (Nat.le_trans HBW.out HB3.out.size)))
  have HK4 := hid hK4
  clear hK4 hF4 HNW
  go_wp2
  go_ret
  obtain ⟨h1, h2, h3, h4, h5, h6⟩ := HB.out
  refine ⟨_, rfl, ⟨HK4.out, HS.out.reads HK4.out.da.ok rfl rfl HS.out.pw, rfl, ?_, h6, Nat.zero_le _, ?_, ?_, ?_, ?_, ?_⟩, ⟨rfl, rfl, rfl, rfl⟩, HB4.out⟩
  · show liveF { D with reads := D.reads + 2, epoch := D.epoch + 1 } (D.epoch + 1) = 0
    unfold liveF; rw [if_neg (by simp), if_pos HS.out.pw]
  · show D.reads + 2 ≤ _; omega
  · show D.writes ≤ _; omega
  · show D.syncs ≤ _; omega
  · show s.ge ≤ _; omega
  · show D.epoch + 1 ≤ _; omega
set_option maxRecDepth 100000 in
set_option maxHeartbeats 1000000 in
/-- Live, by the store's cells alone. -/
theorem oLive_min (w : World) (base : Nat) (F : List Nat) (st g p : Nat) (s : Sup) (nx ep : Int) (D : DS) (c0 : w.cell? ⟨st, 0, none⟩ = some (.pointer (some ⟨g, 0, none⟩))) (hf : FK w g p s nx ep) (hD : DA w base F p D) :
    Calls Try.prog 28 #[.pointer (some ⟨st, 0, none⟩)] w fun e w' => e = .returned (.int .i64 (liveF D ep)) ∧ Below w.heap.size w w' := by
  have HL := hid (Live_any w base F p D hD g s nx ep hf)
  clear hf hD
  generalize liveF D ep = c at *
  go_enter Try.func28, Try.ntmps28
  go_wp2_with fail
  refine HL.out.mono ?_
  rintro e w1 ⟨rfl, hb⟩
  go_wp2
  go_ret
  exact ⟨rfl, hb⟩
end Go.Proofs.Ytihkjfbhmlfonaa
