import Derived.Test.YtbnghhgeoodphaaGreatDoorSe
namespace Go.Proofs.YtbnghhgeoodphaaGreatDoor
set_option maxRecDepth 100000
set_option maxHeartbeats 40000000
set_option linter.unusedVariables false
set_option linter.unusedSimpArgs false
open Go.RowKit
open Go.Proofs.YtbnghhgeoodphaaGreatDoor.Ca (Ct ct0 ctC argV AS)
attribute [local go_sem ↓] Go.wp_at_zero Go.wp_at_succ
theorem crash_oneX {D : DS} (hok : DsOk D) (fs : List Int) (q : Nat) (hq : q < D.np) (d : List Int) (h1 : D.ops = [⟨q, d⟩]) : ∃ (T : List Int), T.length = 192 /\ Byts T /\ pgO (crashTo D.img D.ops fs D.ops.length) q = (if 0 < fs.length /\ (fateOf fs 0).testBit 0 = true then d else pgO D.img q).take 64 ++ T := by
 obtain ⟨_, _, hn, hop⟩ := hok.np
 have ho := hop ⟨q, d⟩ (by rw [h1]; exact List.mem_singleton.2 rfl)
 have hcl := crashTo_len fs hn hop _ (Nat.le_refl _)
 have hb8 := crashTo_bts fs hok.bts hop _ (Nat.le_refl _)
 have hP := pgO_len hcl hq
 have hd : d.length = 256 := ho.2.1
 have key : ∀ X : List Int, X.length = 256 -> (∀ j, j < 64 -> (pgO (crashTo D.img D.ops fs D.ops.length) q).getD j 0 = X.getD j 0) -> pgO (crashTo D.img D.ops fs D.ops.length) q = X.take 64 ++ (pgO (crashTo D.img D.ops fs D.ops.length) q).drop 64 := by
   intro X hX hj
   refine list_ext0 (by simp [hP, hX]) fun j hj2 => ?_
   rw [hP] at hj2
   by_cases c : j < 64
   · rw [List.getD_eq_getElem?_getD (l := X.take 64 ++ _), List.getElem?_append_left (by rw [List.length_take]; omega), List.getElem?_take, if_pos c, <- List.getD_eq_getElem?_getD]; exact hj j c
   · rw [List.getD_eq_getElem?_getD (l := X.take 64 ++ _), List.getElem?_append_right (by rw [List.length_take]; omega), List.getElem?_drop, <- List.getD_eq_getElem?_getD]
     congr 1; rw [List.length_take]; omega
 have hT : ((pgO (crashTo D.img D.ops fs D.ops.length) q).drop 64).length = 192 := by rw [List.length_drop, hP]
 have hT8 : Byts ((pgO (crashTo D.img D.ops fs D.ops.length) q).drop 64) := fun x hx => pgO_byts hb8 q x (List.mem_of_mem_drop hx)
 have hval : ∀ j, j < 64 -> (pgO (crashTo D.img D.ops fs D.ops.length) q).getD j 0 = if 0 < fs.length /\ (fateOf fs 0).testBit 0 = true then d.getD j 0 else (pgO D.img q).getD j 0 := by
   intro j hj
   rw [pgO_get _ _ _ (by omega), pgO_get _ _ _ (by omega), h1]
   show (if 0 < fs.length then tornTo D.img ⟨q, d⟩ (fateOf fs 0) 4 else D.img).getD (q * 256 + j) 0 = _
   by_cases c : 0 < fs.length
   · rw [if_pos c, tornTo_get _ hn ho 4 (Nat.le_refl _)]
     have e : (q * 256 + j - q * 256) / 64 = 0 := by omega
     have e2 : q * 256 + j - q * 256 = j := by omega
     by_cases b : (fateOf fs 0).testBit 0 = true
     · rw [if_pos (by refine ⟨?_, ?_, ?_⟩ <;> first | (show (fateOf fs 0).testBit ((q * 256 + j - q * 256) / 64) = true; rw [e]; exact b) | (show _ <= _; simp only; omega) | (show _ < _; simp only; omega)), if_pos ⟨c, b⟩]
       exact congrArg (fun i => d.getD i 0) e2
     · rw [if_neg (fun x => by have x2 := x.2.2; change (fateOf fs 0).testBit ((q * 256 + j - q * 256) / 64) = true at x2; rw [e] at x2; exact b x2), if_neg (fun x => b x.2)]
   · rw [if_neg c, if_neg (fun x => c x.1)]
 by_cases c : 0 < fs.length /\ (fateOf fs 0).testBit 0 = true
 · exact ⟨_, hT, hT8, by rw [if_pos c]; exact key d hd fun j hj => by rw [hval j hj, if_pos c]⟩
 · exact ⟨_, hT, hT8, by rw [if_neg c]; exact key (pgO D.img q) (pgO_len hn hq) fun j hj => by rw [hval j hj, if_neg c]⟩
structure Hs (D : DS) (n : Nat) (s o : Sup) (L : List (Int × List Int)) : Prop where
 ok : DsOk D
 np : D.np = n
 ops : D.ops = []
 pw : D.power = true
 gd : Good s o (pgO D.img 0) (pgO D.img 1)
 ma : s.ma = (2 + L.length : Nat)
 pg : s.pg = n
 pgs : ∀ j, j < L.length -> pgO D.img (2 + j) = pageP (L.getD j (0, [])).1 ((2 + j : Nat) : Int) (L.getD j (0, [])).2
 lv : ∀ v ∈ L, (1 <= v.1 /\ v.1 <= 3) /\ v.2.length <= 246 /\ Byts v.2
 le : 2 + L.length <= n
theorem Hs.n4 {D : DS} {n : Nat} {s o : Sup} {L : List (Int × List Int)} (h : Hs D n s o L) : 3 <= n /\ n <= 4096 := by
 obtain ⟨h3, h4, _, _⟩ := h.ok.np
 rw [h.np] at h3 h4
 exact ⟨h3, h4⟩
theorem Hs.chs {D : DS} {n : Nat} {s o : Sup} {L : List (Int × List Int)} (h : Hs D n s o L) : chooseF (D.readOf 0) (D.readOf 1) = (s, 0) := h.gd.chooses h.ops
theorem mem_getD {L : List (Int × List Int)} {j : Nat} (hj : j < L.length) : L.getD j (0, []) ∈ L := by
 rw [List.getD_eq_getElem?_getD, List.getElem?_eq_getElem hj]; exact List.getElem_mem hj
theorem Hs.kn {S : Sto} {n : Nat} {o : Sup} {L : List (Int × List Int)} (h : Hs S.D n S.s o L) (j : Nat) (hj : j < L.length) : Kn S (2 + j) (L.getD j (0, [])) := by
 have h4 := h.n4
 have hle := h.le
 obtain ⟨v1, v2, v3⟩ := h.lv _ (mem_getD hj)
 refine Or.inl ⟨by omega, by rw [h.ma]; push_cast; omega, by rw [h.np]; omega, ?_, v1, v2, v3⟩
 rw [readOf_nil h.ops, h.pgs j hj, unpack_page _ _ _ _ ((kindOk_iff _).2 v1) ((placeOk_iff _).2 ⟨by omega, by omega⟩) v2 v3, if_pos rfl]
theorem Hs.reads {D D' : DS} {n : Nat} {s o : Sup} {L : List (Int × List Int)} (h : Hs D n s o L) (hok : DsOk D') (h1 : D'.img = D.img) (h2 : D'.ops = D.ops) (h3 : D'.power = true) : Hs D' n s o L :=
 ⟨hok, (np_img (by rw [h1])).trans h.np, h2.trans h.ops, h3, by rw [h1]; exact h.gd, h.ma, h.pg, fun j hj => by rw [h1]; exact h.pgs j hj, h.lv, h.le⟩
theorem Good.own {s o : Sup} {L0 L1 : List Int} (h : Good s o L0 L1) : ∃ Y : List Int, Y.length = 192 /\ Byts Y /\ (s.ge % 2 = 0 -> L0 = secS s ++ Y) /\ (s.ge % 2 = 1 -> L1 = secS s ++ Y) := by
 obtain ⟨hv, ho, hf, Y, Z, hY, hZ, y8, z8, ⟨h1, h2, h3⟩ | ⟨h1, h2, h3⟩⟩ := h
 · exact ⟨Y, hY, y8, fun _ => h2, fun q => by omega⟩
 · exact ⟨Z, hZ, z8, fun q => by omega, fun _ => h3⟩
theorem good_next {s o s2 : Sup} {L0 L1 M0 M1 : List Int} (h : Good s o L0 L1) (hv : validS s2 = true) (hf : Fol s2 s) (Y : List Int) (hY : Y.length = 192) (y8 : Byts Y) (h0 : s2.ge % 2 = 0 -> M0 = secS s2 ++ Y /\ M1 = L1) (h1 : s2.ge % 2 = 1 -> M1 = secS s2 ++ Y /\ M0 = L0) : Good s2 s M0 M1 := by
 obtain ⟨Z, hZ, z8, q0, q1⟩ := h.own
 have hg := hf.1
 refine ⟨hv, h.1, hf, ?_⟩
 by_cases c : s2.ge % 2 = 0
 · obtain ⟨a, b⟩ := h0 c
   exact ⟨Y, Z, hY, hZ, y8, z8, Or.inl ⟨c, a, by rw [b]; exact q1 (by omega)⟩⟩
 · obtain ⟨a, b⟩ := h1 (by omega)
   exact ⟨Z, Y, hZ, hY, z8, y8, Or.inr ⟨by omega, by rw [b]; exact q0 (by omega), a⟩⟩
theorem Hs.flush {S : Sto} {n : Nat} {o s2 : Sup} {L : List (Int × List Int)} {D' : DS} {hd : Int} (h : Hs S.D n S.s o L) (hv : ∀ v ∈ S.vs, (1 <= v.1 /\ v.1 <= 3) /\ v.2.length <= 246 /\ Byts v.2) (hle : 2 + L.length + S.vs.length <= n) (hs2 : s2 = ⟨S.s.wd, S.s.ge + 1, (2 + L.length + S.vs.length : Nat), hd, S.s.pg⟩) (hval : validS s2 = true) (hB : Pbd S (2 + L.length) s2 D') : Hs D' n s2 S.s (L ++ S.vs) := by
 have hge : s2.ge = S.s.ge + 1 := by rw [hs2]
 have hge0 : 0 <= S.s.ge := ((validS_iff _).1 h.gd.1).2.2.1
 have h4 := h.n4
 refine ⟨hB.ok, hB.np.trans h.np, hB.ops, hB.pw, ?_, by rw [hs2, List.length_append, Nat.add_assoc], by rw [hs2]; exact h.pg, fun j hj => ?_, fun v hv2 => ?_, by rw [List.length_append]; omega⟩
 · refine good_next h.gd hval ⟨by rw [hs2], by rw [hs2], by rw [hs2], by rw [hs2, h.ma]; push_cast; omega⟩ (List.replicate 192 0) List.length_replicate (rep_byts _) (fun q => ?_) (fun q => ?_)
   · have := hB.slot
     rw [q] at this
     exact ⟨this, by rw [hB.other 1 (by omega) (by rw [q]; decide), readOf_nil h.ops]⟩
   · have := hB.slot
     rw [q] at this
     exact ⟨this, by rw [hB.other 0 (by omega) (by rw [q]; decide), readOf_nil h.ops]⟩
 · rw [List.length_append] at hj
   rw [<- readOf_nil hB.ops]
   by_cases c : j < L.length
   · rw [hB.old (2 + j) (by omega) (by omega), readOf_nil h.ops, h.pgs j c]
     rw [List.getD_eq_getElem?_getD (l := L ++ S.vs), List.getElem?_append_left c, <- List.getD_eq_getElem?_getD]
   · have e : 2 + j = 2 + L.length + (j - L.length) := by omega
     rw [e, hB.new (j - L.length) (by omega)]
     rw [List.getD_eq_getElem?_getD (l := L ++ S.vs), List.getElem?_append_right (by omega), <- List.getD_eq_getElem?_getD]
 · rcases List.mem_append.1 hv2 with z | z
   · exact h.lv v z
   · exact hv v z
theorem Hs.crashA {D D' : DS} {n : Nat} {s o : Sup} {L : List (Int × List Int)} (h : Hs D n s o L) (hok : DsOk D') (hep : D'.epoch < 4000000000000000000) (h1 : D'.img = D.img) (h2 : ∀ x ∈ D'.ops, 2 + L.length <= x.page) (fs : List Int) : Hs (D'.crashed fs) n s o L := by
 have h4 := h.n4
 have hle := h.le
 have np : D'.np = n := (np_img (by rw [h1])).trans h.np
 have key : ∀ q, q < 2 + L.length -> pgO (D'.crashed fs).img q = pgO D.img q := fun q hq => by
   have := crash_page hok fs q (by omega) (fun x hx => by have := h2 x hx; omega)
   rw [h1] at this
   rw [<- this, <- h1]; rfl
 exact ⟨crashed_ok hok hep fs, (crashed_np hok fs).trans np, rfl, rfl, by rw [key 0 (by omega), key 1 (by omega)]; exact h.gd, h.ma, h.pg, fun j hj => by rw [key (2 + j) (by omega)]; exact h.pgs j hj, h.lv, h.le⟩
theorem take64 (s : Sup) (Y : List Int) : (secS s ++ Y).take 64 = secS s := by rw [List.take_left' (secS_len s)]
theorem Hs.crashB {D D' : DS} {n : Nat} {s o s2 : Sup} {L V : List (Int × List Int)} {hd : Int} (h : Hs D n s o L) (hv : ∀ v ∈ V, (1 <= v.1 /\ v.1 <= 3) /\ v.2.length <= 246 /\ Byts v.2) (hle : 2 + L.length + V.length <= n) (hs2 : s2 = ⟨s.wd, s.ge + 1, (2 + L.length + V.length : Nat), hd, s.pg⟩) (hval : validS s2 = true) (hok : DsOk D') (hep : D'.epoch < 4000000000000000000) (np : D'.np = n) (hops : D'.ops = [⟨(s2.ge % 2).toNat, secP s2⟩]) (h0 : ∀ q, q < 2 + L.length -> pgO D'.img q = pgO D.img q) (h1 : ∀ j, j < V.length -> pgO D'.img (2 + L.length + j) = pageP (V.getD j (0, [])).1 ((2 + L.length + j : Nat) : Int) (V.getD j (0, [])).2) (fs : List Int) :
   (0 < fs.length /\ (fateOf fs 0).testBit 0 = true -> Hs (D'.crashed fs) n s2 s (L ++ V)) /\ (¬ (0 < fs.length /\ (fateOf fs 0).testBit 0 = true) -> Hs (D'.crashed fs) n s o L) := by
 have hge : s2.ge = s.ge + 1 := by rw [hs2]
 have h4 := h.n4
 obtain ⟨k, hk⟩ : ∃ k : Nat, k = (s2.ge % 2).toNat := ⟨_, rfl⟩
 have hk2 : s2.ge % 2 = (k : Int) := by omega
 have hk3 : k < 2 := by omega
 rw [<- hk] at hops
 have key : ∀ q, q < n -> q ≠ k -> pgO (D'.crashed fs).img q = pgO D'.img q := fun q hq hne => crash_page hok fs q (by omega) (fun x hx => by rw [hops] at hx; rw [List.mem_singleton.1 hx]; exact fun e => hne e.symm)
 obtain ⟨T, hT, t8, hp⟩ := crash_oneX hok fs k (by omega) (secP s2) hops
 have hp2 : pgO (D'.crashed fs).img k = (if 0 < fs.length /\ (fateOf fs 0).testBit 0 = true then secP s2 else pgO D'.img k).take 64 ++ T := hp
 have PG : ∀ j, j < (L ++ V).length -> pgO (D'.crashed fs).img (2 + j) = pageP ((L ++ V).getD j (0, [])).1 ((2 + j : Nat) : Int) ((L ++ V).getD j (0, [])).2 := fun j hj => by
   rw [List.length_append] at hj
   rw [key (2 + j) (by omega) (by omega)]
   by_cases c : j < L.length
   · rw [h0 (2 + j) (by omega), h.pgs j c, List.getD_eq_getElem?_getD (l := L ++ V), List.getElem?_append_left c, <- List.getD_eq_getElem?_getD]
   · have e : 2 + j = 2 + L.length + (j - L.length) := by omega
     rw [e, h1 (j - L.length) (by omega), List.getD_eq_getElem?_getD (l := L ++ V), List.getElem?_append_right (by omega), <- List.getD_eq_getElem?_getD]
 refine ⟨fun c => ?_, fun c => ?_⟩
 · rw [if_pos c] at hp2
   rw [secP, take64] at hp2
   refine ⟨crashed_ok hok hep fs, (crashed_np hok fs).trans np, rfl, rfl, ?_, by rw [hs2, List.length_append, Nat.add_assoc], by rw [hs2]; exact h.pg, PG, fun v hv2 => ?_, by rw [List.length_append]; omega⟩
   · refine good_next h.gd hval ⟨by rw [hs2], by rw [hs2], by rw [hs2], by rw [hs2, h.ma]; push_cast; omega⟩ T hT t8 (fun q => ?_) (fun q => ?_)
     · have e : k = 0 := by omega
       rw [e] at hp2
       exact ⟨hp2, by rw [key 1 (by omega) (by omega), h0 1 (by omega)]⟩
     · have e : k = 1 := by omega
       rw [e] at hp2
       exact ⟨hp2, by rw [key 0 (by omega) (by omega), h0 0 (by omega)]⟩
   · rcases List.mem_append.1 hv2 with z | z
     · exact h.lv v z
     · exact hv v z
 · rw [if_neg c, h0 k (by omega)] at hp2
   refine ⟨crashed_ok hok hep fs, (crashed_np hok fs).trans np, rfl, rfl, ?_, h.ma, h.pg, fun j hj => ?_, h.lv, h.le⟩
   · obtain ⟨g1, g2, g3, Y, Z, hY, hZ, y8, z8, ⟨q1, q2, q3⟩ | ⟨q1, q2, q3⟩⟩ := h.gd
     · have e : k = 1 := by omega
       rw [e, q3, take64] at hp2
       exact ⟨g1, g2, g3, Y, T, hY, hT, y8, t8, Or.inl ⟨q1, by rw [key 0 (by omega) (by omega), h0 0 (by omega)]; exact q2, hp2⟩⟩
     · have e : k = 0 := by omega
       rw [e, q2, take64] at hp2
       exact ⟨g1, g2, g3, T, Z, hT, hZ, t8, z8, Or.inr ⟨q1, hp2, by rw [key 1 (by omega) (by omega), h0 1 (by omega)]; exact q3⟩⟩
   · rw [key (2 + j) (by have := h.le; omega) (by omega), h0 (2 + j) (by omega)]; exact h.pgs j hj
theorem readOf_two {D D' : DS} (h1 : D'.img = D.img) (h2 : D'.ops = D.ops) (q : Nat) : D'.readOf q = D.readOf q := by
 unfold DS.readOf; rw [h1, h2]
theorem appD_img : ∀ (l : List (Int × List Int)) (D : DS) (m : Nat), (appD D m l).img = D.img /\ ∀ x ∈ (appD D m l).ops, x ∈ D.ops \/ m <= x.page
 | [], D, m => ⟨rfl, fun x hx => Or.inl hx⟩
 | v :: r, D, m => by
   obtain ⟨h1, h2⟩ := appD_img r (D.wr ⟨m, pageP v.1 m v.2⟩) (m + 1)
   obtain ⟨e1, e2, _⟩ := wr_img D ⟨m, pageP v.1 m v.2⟩
   refine ⟨h1.trans e1, fun x hx => ?_⟩
   rcases h2 x hx with z | z
   · rw [e2] at z
     rcases List.mem_append.1 z with y | y
     · exact Or.inl y
     · rw [List.mem_singleton.1 y]; exact Or.inr (Nat.le_refl _)
   · exact Or.inr (by omega)
theorem runS_1 (D : DS) (s2 : Sup) (h : D.armed = 1) : runS D [.sync, .lay s2 0 0, .sync] = (D.acted, 2) := by
 rw [runS, show St.go .sync D = (D.acted, 2) by show sy D = _; unfold sy; rw [if_pos h]]; rfl
theorem runS_23 (D : DS) (s2 : Sup) (h : D.armed = 2 \/ D.armed = 3) : (runS D [.sync, .lay s2 0 0, .sync]).1.img = D.synced.img /\ (runS D [.sync, .lay s2 0 0, .sync]).1.ops = [⟨(s2.ge % 2).toNat, secP s2⟩] := by
 have hz : ∀ X : DS, X.armed = 1 -> St.go .sync X = (X.acted, 2) := fun X hX => by show sy X = _; unfold sy; rw [if_pos hX]
 have hy : ∀ X : DS, X.armed ≠ 1 -> St.go .sync X = (X.synced, 0) := fun X hX => by show sy X = _; unfold sy; rw [if_neg hX]
 have s1 := (sync_arm D (by omega) (by omega)).1
 rw [if_neg (by omega)] at s1
 obtain ⟨e1, e2, _⟩ := wr_img D.synced ⟨(s2.ge % 2).toNat, secP s2⟩
 have e2' : (D.synced.wr ⟨(s2.ge % 2).toNat, secP s2⟩).ops = [⟨(s2.ge % 2).toNat, secP s2⟩] := e2
 have r0 : runS D [.sync, .lay s2 0 0, .sync] = if D.synced.actE = 0 then runS (D.synced.wr ⟨(s2.ge % 2).toNat, secP s2⟩) [.sync] else (D.synced.wr ⟨(s2.ge % 2).toNat, secP s2⟩, D.synced.actE) := by
   rw [runS, hy D (by omega), if_pos rfl, runS]; rfl
 rcases h with q | q
 · rw [r0, actE_2 (by omega), if_neg (by decide)]
   exact ⟨e1, e2'⟩
 · have w1 := (wr_arm D.synced ⟨(s2.ge % 2).toNat, secP s2⟩ (by omega)).1
   rw [if_neg (by omega)] at w1
   rw [r0, actE_0 (by omega), if_pos rfl, runS, hz _ (by omega)]
   obtain ⟨c1, c2, _⟩ := acted_same (D.synced.wr ⟨(s2.ge % 2).toNat, secP s2⟩)
   exact ⟨c1.trans e1, c2.trans e2'⟩
structure Dd (S : Sto) (m : Nat) (s2 : Sup) (D' : DS) : Prop where
 ok : DsOk D'
 np : D'.np = S.D.np
 epoch : D'.epoch = S.D.epoch
 reads : D'.reads = S.D.reads
 writes : D'.writes <= S.D.writes + S.vs.length + 1
 syncs : D'.syncs <= S.D.syncs + 2
 rd : ∀ q, 2 <= q -> q < m -> D'.readOf q = S.D.readOf q
 lo : S.D.armed <= S.vs.length + 1 -> D'.img = S.D.img /\ ∀ x ∈ D'.ops, m <= x.page
 hi : S.vs.length + 2 <= S.D.armed -> D'.ops = [⟨(s2.ge % 2).toNat, secP s2⟩] /\ (∀ q, q < m -> pgO D'.img q = S.D.readOf q) /\ ∀ j, j < S.vs.length -> pgO D'.img (m + j) = pageP (S.vs.getD j (0, [])).1 ((m + j : Nat) : Int) (S.vs.getD j (0, [])).2
theorem pubEnd_dead {S : Sto} {m : Nat} {hd c : Int} {D' : DS} {s' s2 : Sup} (h : PubEnd S m hd c D' s') (hok : DsOk S.D) (ho : S.D.ops = []) (hv : ∀ v ∈ S.vs, (1 <= v.1 /\ v.1 <= 3) /\ v.2.length <= 246 /\ Byts v.2) (hm : 2 <= m) (hnp : m + S.vs.length <= S.D.np) (hw : S.D.writes + S.vs.length < 3000000000000000000) (hs : S.D.syncs < 3000000000000000000) (hvl : S.vs.length <= 100000) (hge : 0 <= S.s.ge) (hs2 : s2 = ⟨S.s.wd, S.s.ge + 1, (m + S.vs.length : Nat), hd, S.s.pg⟩) (hval : validS s2 = true) (ha : 1 <= S.D.armed) (hdd : S.D.armed <= S.vs.length + 3) : Dd S m s2 D' := by
 rw [hs2] at hval
 rcases h with ⟨i, hi, h1, h2, h3, h4, h5⟩ | ⟨h1, h2, h3, h4⟩
 · have hl : (S.vs.take i).length = i := by rw [List.length_take]; omega
   have hl2 : (S.vs.take (i + 1)).length = i + 1 := by rw [List.length_take]; omega
   have hk : (i : Int) < S.D.armed := by
     rcases Int.lt_or_le (i : Int) S.D.armed with q | q
     · exact q
     · have := appD_dead (S.vs.take i) S.D m ha (by rw [hl]; exact q)
       have p := live_pw h2
       rw [this] at p; cases p
   have hA := (appD_arm (S.vs.take i) S.D m (by rw [hl]; exact hk)).1
   rw [h1, hl] at hA
   obtain ⟨q1, q2⟩ := appD_ok (S.vs.take (i + 1)) S.D m hok (fun v hv2 => hv v (List.mem_of_mem_take hv2)) (by rw [hl2]; omega) (by rw [hl2, ho]; simp; omega) (by rw [hl2]; omega)
   obtain ⟨a1, a2, a3, a4, a5⟩ := appD_same (S.vs.take (i + 1)) S.D m
   obtain ⟨r1, r2⟩ := appD_read (S.vs.take (i + 1)) S.D m
   obtain ⟨g1, g2⟩ := appD_img (S.vs.take (i + 1)) S.D m
   rw [<- h4] at q1 q2 a1 a2 a3 a4 a5 r1 r2 g1 g2
   rw [hl2] at a4
   refine ⟨q1, q2, a1, a2, by rw [a4]; push_cast; omega, by rw [a3]; omega, fun q _ hq => r1 q hq, fun _ => ⟨g1, fun x hx => ?_⟩, fun q => by omega⟩
   rcases g2 x hx with z | z
   · rw [ho] at z; cases z
   · exact z
 · have hp := live_pw h1
   have hk : (S.vs.length : Int) < S.D.armed := by
     rcases Int.lt_or_le (S.vs.length : Int) S.D.armed with q | q
     · exact q
     · have := appD_dead S.vs S.D m ha q
       rw [this] at hp; cases hp
   obtain ⟨b1, _⟩ := appD_arm S.vs S.D m hk
   obtain ⟨q1, q2⟩ := appD_ok S.vs S.D m hok hv hnp (by rw [ho]; simp; omega) (by omega)
   obtain ⟨a1, a2, a3, a4, a5⟩ := appD_same S.vs S.D m
   obtain ⟨r1, r2⟩ := appD_read S.vs S.D m
   obtain ⟨g1, g2⟩ := appD_img S.vs S.D m
   have hP := pub_all q1 hp ⟨hp, by rw [a5, ho]; simp; omega, by rw [a4]; omega, by rw [a3]; omega⟩ ⟨S.s.wd, S.s.ge + 1, (m + S.vs.length : Nat), hd, S.s.pg⟩ hval ((S.s.ge + 1) % 2).toNat (by show (S.s.ge + 1) % 2 = _; omega)
   rw [<- hs2] at h3 hP
   have hw2 := hP.writes
   have hs3 := hP.syncs
   rw [<- h3] at hw2 hs3
   have hX : S.D.armed <= S.vs.length + 1 -> D' = (appD S.D m S.vs).acted := fun q => by rw [h3, runS_1 _ _ (by rw [b1]; omega)]
   have hY : S.vs.length + 2 <= S.D.armed -> D'.img = (appD S.D m S.vs).synced.img /\ D'.ops = [⟨(s2.ge % 2).toNat, secP s2⟩] := fun q => by rw [h3]; exact runS_23 _ _ (by rw [b1]; omega)
   obtain ⟨c1, c2, _⟩ := acted_same (appD S.D m S.vs)
   refine ⟨by rw [h3]; exact hP.ok, by rw [h3]; exact hP.np.trans q2, by rw [h3]; exact hP.epoch.trans a1, by rw [h3]; exact hP.reads.trans a2, by omega, by omega, fun q hq2 hq => ?_, fun q => ⟨?_, fun x hx => ?_⟩, fun q => ?_⟩
   · rcases Int.lt_or_le S.D.armed (S.vs.length + 2) with z | z
     · rw [hX (by omega), readOf_two c1 c2, r1 q hq]
     · obtain ⟨y1, y2⟩ := hY z
       have e := readOf_snoc (D := { D' with ops := [] }) (D' := D') (o := ⟨(s2.ge % 2).toNat, secP s2⟩) rfl y2 q
       rw [e, if_neg (by show ¬ ((s2.ge % 2).toNat = q); omega), readOf_nil rfl]
       show pgO D'.img q = _
       rw [y1, show pgO (appD S.D m S.vs).synced.img q = (appD S.D m S.vs).readOf q from sync_read q1 q (by rw [q2]; omega), r1 q hq]
   · rw [hX q, c1, g1]
   · rw [hX q, c2] at hx
     rcases g2 x hx with z | z
     · rw [ho] at z; cases z
     · exact z
   · obtain ⟨y1, y2⟩ := hY q
     refine ⟨y2, fun k hk => ?_, fun j hj => ?_⟩
     · rw [y1, show pgO (appD S.D m S.vs).synced.img k = (appD S.D m S.vs).readOf k from sync_read q1 k (by rw [q2]; omega), r1 k hk]
     · rw [y1, show pgO (appD S.D m S.vs).synced.img (m + j) = (appD S.D m S.vs).readOf (m + j) from sync_read q1 (m + j) (by rw [q2]; omega), r2 j hj]
theorem pubEnd_cnt {S : Sto} {m : Nat} {hd : Int} {D' : DS} {s' : Sup} (h : PubEnd S m hd 0 D' s') (hok : DsOk S.D) (hv : ∀ v ∈ S.vs, (1 <= v.1 /\ v.1 <= 3) /\ v.2.length <= 246 /\ Byts v.2) (hnp : m + S.vs.length <= S.D.np) (ho : S.D.ops.length + S.vs.length < 300000000000) (hw : S.D.writes + S.vs.length < 3000000000000000000) (hs : S.D.syncs < 3000000000000000000) (hge : 0 <= S.s.ge) (hval : validS ⟨S.s.wd, S.s.ge + 1, (m + S.vs.length : Nat), hd, S.s.pg⟩ = true) : D'.writes <= S.D.writes + S.vs.length + 1 /\ D'.syncs <= S.D.syncs + 2 := by
 rcases h with ⟨i, hi, h1, h2, h3, h4, h5⟩ | ⟨h1, h2, h3, h4⟩
 · cases h3
 · obtain ⟨q1, q2⟩ := appD_ok S.vs S.D m hok hv hnp (by omega) (by omega)
   obtain ⟨a1, a2, a3, a4, a5⟩ := appD_same S.vs S.D m
   have hP := pub_all q1 (live_pw h1) ⟨live_pw h1, by rw [a5]; omega, by rw [a4]; omega, by rw [a3]; omega⟩ ⟨S.s.wd, S.s.ge + 1, (m + S.vs.length : Nat), hd, S.s.pg⟩ hval ((S.s.ge + 1) % 2).toNat (by show (S.s.ge + 1) % 2 = _; omega)
   have hw2 := hP.writes
   have hs3 := hP.syncs
   rw [<- h3] at hw2 hs3
   exact ⟨by omega, by omega⟩
theorem flush_arm2 (w : World) (base : Nat) (S : Sto) (h : SK w base S) (hlv : liveF S.D S.ep = 0) (hcl : S.cts.length <= 4096) (m : Nat) (hm : S.s.ma = m) (hnx : S.nx = m) (hm2 : 2 <= m /\ m + S.vs.length <= 4096) (hnp : m + S.vs.length <= S.D.np) (hge : 0 <= S.s.ge /\ S.s.ge < 1099511627776) (hd : Int) (hh : hd = 0 \/ (2 <= hd /\ hd < (m + S.vs.length : Nat))) (hval : validS ⟨S.s.wd, S.s.ge + 1, (m + S.vs.length : Nat), hd, S.s.pg⟩ = true) (ha : 1 <= S.D.armed) (hops : S.D.ops = []) (hwr : S.D.writes <= 2000000000000000000) (hsy : S.D.syncs <= 2000000000000000000) (hN : S.N < 3000000000000000000) :
   Calls Tryz.prog 11 #[.pointer (some ⟨S.st, 0, none⟩), .int .i64 hd] w fun e w' => ((S.vs.length + 3 < S.D.armed /\ (∃ F' F2 D' s2, e = .returned (.int .i64 0) /\ s2 = ⟨S.s.wd, S.s.ge + 1, (m + S.vs.length : Nat), hd, S.s.pg⟩ /\ Pbd S m s2 D' /\ (D'.writes <= S.D.writes + S.vs.length + 1 /\ D'.syncs <= S.D.syncs + 2) /\ SK w' base { S with F := F', FC := F2, D := D', s := s2, nx := m + S.vs.length, N := S.N + 1, a := S.a.settle, sv := .slice none 0 0, cts := [], vs := [] } /\ Gr w S.fp (Sto.fp { S with F := F', FC := F2, sv := .slice none 0 0 }))) \/ (S.D.armed <= S.vs.length + 3 /\ ∃ F' D' s2, e = .returned (.int .i64 2) /\ s2 = ⟨S.s.wd, S.s.ge + 1, (m + S.vs.length : Nat), hd, S.s.pg⟩ /\ Dd S m s2 D' /\ SK w' base { S with F := F', D := D', nx := m } /\ Gr w S.fp (Sto.fp { S with F := F' }))) /\ Below base w w' /\ Fr S.fp w w' := by
 have hvl := h.cl
 have hbw := h.base
 have hok := h.da.ok
 have ho0 : S.D.ops.length = 0 := by rw [hops]; rfl
 have hv : ∀ v ∈ S.vs, (1 <= v.1 /\ v.1 <= 3) /\ v.2.length <= 246 /\ Byts v.2 := fun v hv => by
   obtain ⟨j, hj, e⟩ := List.getElem_of_mem hv
   have c := h.cv j (by omega)
   rw [show S.vs.getD j (0, []) = v by rw [<- e]; simp [List.getD, hj]] at c
   exact ⟨c.kk, c.le, c.by8⟩
 obtain ⟨a1, a2, a3, a4, a5⟩ := appD_same S.vs S.D m
 have PUB := fun (w1 : World) (hb : Below w.heap.size w w1) => opublish_any w1 base S (h.below hb) hlv (by omega) m hm hnx hm2.1 hnp hd hh hge hval (fun hl => ⟨live_pw hl, by rw [a5]; omega, by rw [a4]; omega, by rw [a3]; omega⟩) (by omega) (by omega)
 obtain ⟨s2, hs2⟩ : ∃ s2 : Sup, s2 = ⟨S.s.wd, S.s.ge + 1, (m + S.vs.length : Nat), hd, S.s.pg⟩ := ⟨_, rfl⟩
 have hgF : ∀ k ∈ S.g :: S.F, base <= k := fun k hk => (h.in_lt (by rcases List.mem_cons.1 hk with z | z <;> simp [z])).1
 have hH : hd ≠ 0 -> 2 <= hd /\ hd < S.s.ma + S.cts.length := fun q => by
   rcases hh with z | z
   · exact absurd z q
   · exact ⟨z.1, by rw [hm, hvl]; have := z.2; push_cast at this; exact this⟩
 by_cases hc : S.D.armed <= S.vs.length + 3
 · obtain ⟨R, hR⟩ : ∃ R : Ending -> World -> Prop, R = (fun e w' => (∃ F' D' s2, e = Ending.returned (.int .i64 2) /\ s2 = ⟨S.s.wd, S.s.ge + 1, (m + S.vs.length : Nat), hd, S.s.pg⟩ /\ Dd S m s2 D' /\ SK w' base { S with F := F', D := D', nx := m } /\ Gr w S.fp (Sto.fp { S with F := F' })) /\ Below base w w' /\ Fr S.fp w w') := ⟨_, rfl⟩
   have PB2 : ∀ w1, Below w.heap.size w w1 -> Calls Tryz.prog 30 #[.pointer (some ⟨S.st, 0, none⟩), .int .i64 hd] w1 fun e w' => ∃ c, c ≠ 0 /\ e = .returned (.int .i64 c) /\ R (.returned (.int .i64 c)) w' := fun w1 hb => by
     refine (PUB w1 hb).mono fun e w' ⟨c, D', s', F', he, hP, hD, hf, hF, hG⟩ => ?_
     have hDd := pubEnd_dead hP hok hops hv hm2.1 hnp (by omega) (by omega) (by omega) hge.1 hs2 (by rw [hs2]; exact hval) ha hc
     obtain ⟨rfl, rfl⟩ := (pubEnd_arm hP ha).1 hc
     have h1 := h.below hb
     rw [hR]
     refine ⟨2, by decide, he, ⟨F', D', s2, rfl, hs2, hDd, h1.disked hD m hm hf hF hG (fun x hx => ?_), ?_⟩, (hb.mono hbw).trans (hF.below hgF (Nat.le_trans hbw hb.size)), (Fr.of_below (F := S.fp) hb).trans hF (fun k hk => Or.inl ((Sto.mem S k).2 (by rcases List.mem_cons.1 hk with z | z <;> simp [z])))⟩
     rotate_left
     · intro k q
       rcases (Sto.mem _ k).1 q with e | e | e | e | e | e
       · exact Or.inl ((Sto.mem S k).2 (Or.inl e))
       · exact Or.inl ((Sto.mem S k).2 (Or.inr (Or.inl e)))
       · exact (hG k e).imp (fun z => (Sto.mem S k).2 (by simp [z])) (fun z => Nat.le_trans hb.size z)
       · exact Or.inl ((Sto.mem S k).2 (Or.inr (Or.inr (Or.inr (Or.inl e)))))
       · exact Or.inl ((Sto.mem S k).2 (Or.inr (Or.inr (Or.inr (Or.inr (Or.inl e))))))
       · exact Or.inl ((Sto.mem S k).2 (Or.inr (Or.inr (Or.inr (Or.inr (Or.inr e))))))
     obtain ⟨v, _, k1, k2, _⟩ := h1.ck x hx
     exact hDd.rd _ (by omega) (by omega)
   by_cases q : hd = 0
   · subst q
     exact (oFlush_bad w base S h hlv (by omega) R PB2).mono fun e w' z => by rw [hR] at z; exact ⟨Or.inr ⟨hc, z.1⟩, z.2⟩
   · exact (oFlush_badH w base S h hlv (by omega) (by omega) ⟨by omega, by omega⟩ hd q (hH q) R PB2).mono fun e w' z => by rw [hR] at z; exact ⟨Or.inr ⟨hc, z.1⟩, z.2⟩
 · have PB2 : ∀ w1, Below w.heap.size w w1 -> Calls Tryz.prog 30 #[.pointer (some ⟨S.st, 0, none⟩), .int .i64 hd] w1 fun e w' => e = .returned (.int .i64 0) /\ w'.heap[S.st]? = some (.cells (stC S.g S.pc S.sv).toArray 80 (0, 0)) /\ Ca.CA w' base S.FC S.pc S.N S.a /\ (∃ w1 D' F', Below w.heap.size w w1 /\ Pbd S m s2 D' /\ (D'.writes <= S.D.writes + S.vs.length + 1 /\ D'.syncs <= S.D.syncs + 2) /\ DA w' base F' S.p D' /\ FK w' S.g S.p s2 s2.ma S.ep /\ Fr (S.g :: S.F) w1 w' /\ Gr w1 S.F F') := fun w1 hb => by
     refine (PUB w1 hb).mono fun e w' ⟨c, D', s', F', he, hP, hD, hf, hF, hG⟩ => ?_
     obtain ⟨rfl, _⟩ := (pubEnd_arm hP ha).2 (by omega)
     have hc2 := pubEnd_cnt hP hok hv hnp (by omega) (by omega) (by omega) hge.1 hval
     obtain ⟨hs', hB⟩ := pubEnd_go hP hok hv hm2.1 hnp (by omega) (by omega) (by omega) hge.1 hval
     rw [<- hs2] at hs'
     subst hs'
     have h1 := h.below hb
     obtain ⟨o1, o2, o3, o4⟩ := h1.off hF
     refine ⟨he, o1.trans h1.sk, ?_, w1, D', F', hb, hB, hc2, hD, hf, hF, hG⟩
     obtain ⟨mm, n, s, L, e, c, r⟩ := h1.ca
     exact ⟨mm, n, s, L, e, c.of_heap fun k hk => o4 k (by rw [e]; exact hk), r⟩
   have END : ∀ e w', (∃ w3, e = Ending.returned (.int .i64 0) /\ (∃ w1 D' F', Below w.heap.size w w1 /\ Pbd S m s2 D' /\ (D'.writes <= S.D.writes + S.vs.length + 1 /\ D'.syncs <= S.D.syncs + 2) /\ DA w3 base F' S.p D' /\ FK w3 S.g S.p s2 s2.ma S.ep /\ Fr (S.g :: S.F) w1 w3 /\ Gr w1 S.F F') /\ Ca.Nx base S.FC S.pc S.N (w3.setCell ⟨S.st, 3, none⟩ (.slice none 0 0)) S.a.settle w') -> (∃ F' F2 D' s2, e = .returned (.int .i64 0) /\ s2 = ⟨S.s.wd, S.s.ge + 1, (m + S.vs.length : Nat), hd, S.s.pg⟩ /\ Pbd S m s2 D' /\ (D'.writes <= S.D.writes + S.vs.length + 1 /\ D'.syncs <= S.D.syncs + 2) /\ SK w' base { S with F := F', FC := F2, D := D', s := s2, nx := m + S.vs.length, N := S.N + 1, a := S.a.settle, sv := .slice none 0 0, cts := [], vs := [] } /\ Gr w S.fp (Sto.fp { S with F := F', FC := F2, sv := .slice none 0 0 })) /\ Below base w w' /\ Fr S.fp w w' := fun e w' ⟨w3, he, ⟨w1, D', F', hb, hB, hc2, hD, hf, hF, hG⟩, hX⟩ => by
     obtain ⟨F2, hK, hZ⟩ := (h.below hb).flushed m hm hm2.1 (by rw [hs2]) hm2.2 hD hf hF hG hB hX
     exact ⟨⟨F', F2, D', s2, he, hs2, hB, hc2, hK, fun k q => (hZ.2.2 k q).imp id (fun z => Nat.le_trans hb.size z)⟩, (hb.mono hbw).trans hZ.1, (Fr.of_below (F := S.fp) hb).trans hZ.2.1 (Gr.refl _ _)⟩
   by_cases q : hd = 0
   · subst q
     exact (oFlush_ok w base S h hlv (by omega) hN _ PB2).mono fun e w' z => ⟨Or.inl ⟨by omega, (END e w' z).1⟩, (END e w' z).2⟩
   · exact (oFlush_okH w base S h hlv (by omega) (by omega) ⟨by omega, by omega⟩ hd q (hH q) hN _ PB2).mono fun e w' z => ⟨Or.inl ⟨by omega, (END e w' z).1⟩, (END e w' z).2⟩
end Go.Proofs.YtbnghhgeoodphaaGreatDoor
