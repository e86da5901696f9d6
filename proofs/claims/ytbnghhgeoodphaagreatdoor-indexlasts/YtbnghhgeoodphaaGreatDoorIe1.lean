import Derived.Test.YtbnghhgeoodphaaGreatDoorId1
import Derived.Test.YtbnghhgeoodphaaGreatDoorSf
import Derived.Deep.DeepCutAuto
import Derived.Maps.AppendAt
namespace Go.Proofs.YtbnghhgeoodphaaGreatDoor
set_option maxRecDepth 100000
set_option maxHeartbeats 40000000
set_option linter.unusedVariables false
set_option linter.unusedSimpArgs false
open Go.RowKit
open Go.Proofs.YtbnghhgeoodphaaGreatDoor.Ca (Ct ct0 ctC argV AS)
attribute [local go_sem ↓] Go.wp_at_zero Go.wp_at_succ
theorem fits_yes (w : World) (wd room : Int) (h : 1 <= wd /\ wd <= 32 /\ 1 <= room /\ room <= 4096) : Calls Tryz.prog 6 #[.int .i64 4096, .int .i64 wd, .int .i64 room] w fun e w' => e = .returned (.bool true) /\ w = w' := by
 obtain ⟨h1, h2, h3, h4⟩ := h
 go_enter Tryz.func6, Tryz.ntmps6
 go_wp2
 go_ret
 exact ⟨congrArg (fun b => Ending.returned (Value.bool b)) (by first | rfl | (simp; omega)), rfl⟩
theorem fits_no (w : World) (wd room : Int) (h : ¬ (1 <= wd /\ wd <= 32 /\ 1 <= room /\ room <= 4096)) : Calls Tryz.prog 6 #[.int .i64 4096, .int .i64 wd, .int .i64 room] w fun e w' => e = .returned (.bool false) /\ w = w' := by
 by_cases h1 : 1 <= wd
 · by_cases h2 : wd <= 32
   · by_cases h3 : 1 <= room
     · have h4 : ¬ room <= 4096 := fun q => h ⟨h1, h2, h3, q⟩
       clear h
       go_enter Tryz.func6, Tryz.ntmps6
       go_wp2
       go_ret
       exact ⟨congrArg (fun b => Ending.returned (Value.bool b)) (by first | rfl | (simp; omega)), rfl⟩
     · clear h
       go_enter Tryz.func6, Tryz.ntmps6
       go_wp2
       go_ret
       exact ⟨congrArg (fun b => Ending.returned (Value.bool b)) (by first | rfl | (simp; omega)), rfl⟩
   · clear h
     go_enter Tryz.func6, Tryz.ntmps6
     go_wp2
     go_ret
     exact ⟨congrArg (fun b => Ending.returned (Value.bool b)) (by first | rfl | (simp; omega)), rfl⟩
 · clear h
   go_enter Tryz.func6, Tryz.ntmps6
   go_wp2
   go_ret
   exact ⟨congrArg (fun b => Ending.returned (Value.bool b)) (by first | rfl | (simp; omega)), rfl⟩
structure Hk (S : Sto) (o : Sup) (L : List (Int × List Int)) (b : Nat) : Prop where
 hs : Hs S.D 4096 S.s o L
 ar : S.D.armed = 0
 wr : S.D.writes <= b
 sy : S.D.syncs <= b
 ge : S.s.ge <= b
 ep : S.D.epoch <= b
theorem Ls.split {w : World} {base : Nat} {S : Sto} {P : List (Int × List Int)} {b : Nat} (h : Ls w base S P b) {o : Sup} {L : List (Int × List Int)} {c : Nat} (k : Hk S o L c) : P = L ++ S.vs := by
 obtain ⟨m, m1, m2, m3, m4⟩ := h.ma
 have hm : m = 2 + L.length := by have := k.hs.ma; omega
 have hcv : S.vs.length = S.cts.length := h.sk.cl.symm
 apply List.ext_getElem?
 intro i
 by_cases hi : i < P.length
 · rw [List.getElem?_eq_getElem hi]
   have e0 : P.getD i (0, []) = P[i] := by rw [List.getD_eq_getElem?_getD, List.getElem?_eq_getElem hi]; rfl
   rw [<- e0]
   by_cases hl : i < L.length
   · rw [List.getElem?_append_left hl, List.getElem?_eq_getElem hl]
     have e1 : L.getD i (0, []) = L[i] := by rw [List.getD_eq_getElem?_getD, List.getElem?_eq_getElem hl]; rfl
     rw [<- e1]
     congr 1
     have k1 := h.kn i hi
     have k2 := k.hs.kn i hl
     rcases k1 with ⟨_, _, _, u1, _⟩ | ⟨j, _, e, _⟩
     · rcases k2 with ⟨_, _, _, u2, _⟩ | ⟨j, _, e, _⟩
       · have := u1.symm.trans u2
         obtain ⟨q1, q2⟩ := Prod.mk.inj this
         obtain ⟨q3, _⟩ := Prod.mk.inj q2
         exact Prod.ext q1 q3
       · rw [m1] at e; omega
     · rw [m1] at e; omega
   · rw [List.getElem?_append_right (by omega)]
     have hj : i - L.length < S.vs.length := by omega
     rw [List.getElem?_eq_getElem hj]
     have e1 : S.vs.getD (i - L.length) (0, []) = S.vs[i - L.length] := by rw [List.getD_eq_getElem?_getD, List.getElem?_eq_getElem hj]; rfl
     rw [<- e1]
     congr 1
     rcases h.kn i hi with ⟨_, q, _⟩ | ⟨j, _, e, hv⟩
     · rw [m1] at q; omega
     · rw [m1] at e
       obtain rfl : j = i - L.length := by omega
       exact hv.symm
 · rw [List.getElem?_eq_none (by omega), List.getElem?_eq_none (by rw [List.length_append]; omega)]
theorem opened_any (w : World) (base : Nat) (F : List Nat) (p : Nat) (D : DS) (h : DA w base F p D) (hbw : base <= w.heap.size) (s o : Sup) (L : List (Int × List Int)) (hs : Hs D 4096 s o L) (b : Nat) (hrd : D.reads + 2 <= 1000 + b) (hb : b <= 100000000000000000) (hep : D.epoch <= 1000000000) (room : Int) (hr : 1 <= room /\ room <= 4096) :
   Calls Tryz.prog 14 #[.pointer (some ⟨p, 0, none⟩), .int .i64 room] w fun e w' => ∃ S, e = .returned (.pointer (some ⟨S.st, 0, none⟩)) /\ (S.p = p /\ S.s = s /\ S.vs = [] /\ S.D = { D with reads := D.reads + 2, epoch := D.epoch + 1 } /\ S.F = F) /\ Ls w' base S L b /\ Hs S.D 4096 s o L /\ (Fr F w w' /\ Gr w F S.fp) /\ Below base w w' := by
 have HOP := hid (Open_ok w base F p D h hs.pw (by omega) (by omega) s hs.chs (by rw [hs.pg, hs.np]))
 have HH := hid h
 have HBW := hid hbw
 have HS := hid hs
 have HX := hid (And.intro hrd hb)
 clear h hbw hs hrd hb hep
 go_enter Tryz.func14, Tryz.ntmps14
 go_wp2_with fail
 refine HOP.out.mono ?_
 rintro _ w3 ⟨g, rfl, hg, hf, hD3, hF3⟩
 have HBg := hid (show base <= g by have := HBW.out; omega)
 have HG := hid hg
 have HB3 := hid (hF3.below (fun k hk => (HH.out.lt k hk).1) HBW.out)
 have HF3 := hid hF3
 have HNW := hid (oNew_any w3 base F p { D with reads := D.reads + 2, epoch := D.epoch + 1 } hD3 g s s.ma (D.epoch + 1) hf HBg.out (by
   unfold liveF; rw [if_neg (by simp), if_pos HS.out.pw]) room (by omega) (2 + L.length) HS.out.ma)
 have HD3 := hid hD3
 clear hg hf hD3 hF3 HOP
 go_wp2_with fail
 refine HNW.out.mono ?_
 rintro _ w4 ⟨st, pc, FC, rfl, hK4, hst4, hFC4, hF4⟩
 have HB4 := hid (HB3.out.trans (hF4.below (fun k hk => by
   rcases List.mem_cons.1 hk with e | e
   · rw [e]; exact HBg.out
   · exact (HD3.out.lt k e).1) (Nat.le_trans HBW.out HB3.out.size)))
 have HFR := hid (HF3.out.trans hF4 (fun k hk => by
   rcases List.mem_cons.1 hk with e | e
   · rw [e]; exact Or.inr HG.out
   · exact Or.inl e))
 have HK4 := hid hK4
 have H34 := hid (And.intro hst4 hFC4)
 clear hK4 hF4 HNW hst4 hFC4
 go_wp2
 go_ret
 have hs2 := HS.out.reads HK4.out.da.ok rfl rfl HS.out.pw
 have hle := HS.out.le
 refine ⟨_, rfl, ⟨rfl, rfl, rfl, rfl, rfl⟩, ⟨HK4.out, ?_, ⟨2 + L.length, HS.out.ma, rfl, by omega, by simp⟩, fun i hi => ?_, ?_, Nat.zero_le _, ?_⟩, hs2, ⟨HFR.out, fun k q => ?_⟩, HB4.out⟩
 · show liveF { D with reads := D.reads + 2, epoch := D.epoch + 1 } (D.epoch + 1) = 0
   unfold liveF; rw [if_neg (by simp), if_pos HS.out.pw]
 · exact Hs.kn (S := ⟨p, g, st, pc, F, FC, [], { D with reads := D.reads + 2, epoch := D.epoch + 1 }, s, 2 + L.length, D.epoch + 1, 0, Ca.newA room, .slice none 0 0, [], []⟩) hs2 i hi
 · show 2 + L.length <= D.np /\ D.np <= 4096
   rw [HS.out.np]; exact ⟨hle, by omega⟩
 · show D.reads + 2 <= 1000 + (b : Int); exact HX.out.1
 · have s3 := HF3.out.size
   rcases (Sto.mem _ k).1 q with e | e | e | e | e | e
   · rw [e]; exact Or.inr HG.out
   · rw [e]; exact Or.inr (Nat.le_trans s3 H34.out.1)
   · exact Or.inl e
   · exact Or.inr (Nat.le_trans s3 (H34.out.2 k e))
   · cases e
   · cases e
theorem fresh_any (w : World) (wd room : Int) (hw : 1 <= wd /\ wd <= 32) (hr : 1 <= room /\ room <= 4096) :
   Calls Tryz.prog 8 #[.int .i64 4096, .int .i64 wd, .int .i64 room] w fun e w' => ∃ S o, e = .returned (.tuple #[.pointer (some ⟨S.p, 0, none⟩), .pointer (some ⟨S.st, 0, none⟩)]) /\ Ls w' w.heap.size S [] 0 /\ Hk S o [] 2000 /\ Below w.heap.size w w' /\ S.s.wd = wd := by
 have HNW := New_ok w 4096 (by omega) (by omega)
 obtain ⟨Z, hZ⟩ : ∃ Z : List Int, Z = List.replicate (256 * 4096) 0 := ⟨_, rfl⟩
 rw [<- hZ] at HNW
 replace HNW := hid HNW
 have okN : DsOk (newD Z) := by rw [hZ]; exact newD_ok (n := 4096) (by omega) (by omega) List.length_replicate (bts_rep _)
 have npN : (newD Z).np = 4096 := by
   show Z.length / 256 = 4096
   rw [hZ, List.length_replicate]
 have pz : ∀ q, q < 4096 -> pgO Z q = zz 256 := fun q hq => by rw [hZ]; exact pgO_zero 4096 q hq
 have RN := hid (show Rest (newD Z) 4096 0 from ⟨okN, npN, rfl, rfl, rfl, rfl, (by decide : (0 : Int) <= 1000), (by decide : (0 : Int) <= 1000), (by decide : (0 : Int) <= 1000)⟩)
 have BN := hid (show Blank (pgO (newD Z).img 0) (pgO (newD Z).img 1) from by show Blank (pgO Z 0) (pgO Z 1); rw [pz 0 (by omega), pz 1 (by omega)]; exact zz_blank)
 have HW := hid hw
 have HR := hid hr
 obtain ⟨B, hBB⟩ : ∃ B, B = w.heap.size := ⟨_, rfl⟩
 rw [<- hBB] at HNW ⊢
 have B0 := hid (show B <= w.heap.size by omega)
 have NPN := hid npN
 clear hw hr hZ hBB okN npN pz
 go_enter Tryz.func8, Tryz.ntmps8
 go_wp2_with fail
 refine HNW.out.mono ?_
 rintro e w1 ⟨p, F, rfl, hD1, hB1⟩
 have HD1 := hid hD1
 have HB1 := hid hB1
 have HFT := hid (Format_rest w1 B F p (newD Z) hD1 (Nat.le_trans B0.out hB1.size) 4096 0 RN.out wd HW.out BN.out)
 clear hD1 hB1 HNW
 go_wp2_with fail
 refine HFT.out.mono ?_
 rintro e w2 ⟨rfl, D2, hFm, hnp2, hN2⟩
 obtain ⟨F2, hDA2, hB2, _⟩ := Nx.go HD1.out HB1.out B0.out hN2
 have hgd := hFm.good HW.out
 rw [show ({ newD Z with reads := (newD Z).reads + 2 } : DS).np = (newD Z).np from rfl, NPN.out] at hgd
 have hHs : Hs D2 4096 (fS 4096 wd 1) (fS 4096 wd 0) [] := ⟨hFm.ok, hnp2, hFm.ops, hFm.pw, hgd, rfl, rfl, fun j hj => absurd hj (Nat.not_lt_zero j), (fun v hv => by cases hv), (by show 2 + 0 <= 4096; omega)⟩
 have hc : D2.reads = 2 /\ D2.epoch = 0 := ⟨by have := hFm.reads; rw [this]; rfl, by rw [hFm.epoch]; rfl⟩
 have HCN := hid (And.intro hFm.arm (And.intro hFm.writes hFm.syncs))
 have HOP := hid (opened_any w2 B F2 p D2 hDA2 (Nat.le_trans B0.out hB2.size) (fS 4096 wd 1) (fS 4096 wd 0) [] hHs 0 (by rw [hc.1]; decide) (by omega) (by rw [hc.2]; decide) room HR.out)
 have HB2 := hid hB2
 have HEP := hid hc.2
 clear hFm hnp2 hN2 hDA2 hB2 hgd HFT hHs hc
 go_wp2_with fail
 refine HOP.out.mono ?_
 rintro e w3 ⟨S, rfl, ⟨hp, hss, hvs, hD, _⟩, hL, hH, _, hb3⟩
 have HP := hid hp
 have HSS := hid hss
 have HDD := hid hD
 have HLS := hid hL
 have HHS := hid hH
 have HB3 := hid (HB2.out.trans hb3)
 clear hp hss hvs hD hL hH hb3 HOP
 go_wp2
 go_ret2
 refine ⟨S, fS 4096 wd 0, by rw [HP.out]; rfl, HLS.out, ⟨by rw [HSS.out]; exact HHS.out, ?_, ?_, ?_, ?_, ?_⟩, HB3.out, by rw [HSS.out]; rfl⟩
 · rw [HDD.out]; exact HCN.out.1
 · rw [HDD.out]; show D2.writes <= _; rw [HCN.out.2.1]; show (0 : Int) + 2 <= ((2000 : Nat) : Int); decide
 · rw [HDD.out]; show D2.syncs <= _; rw [HCN.out.2.2]; show (0 : Int) + 2 <= ((2000 : Nat) : Int); decide
 · rw [HSS.out]; show (1 : Int) <= _; decide
 · rw [HDD.out]; show D2.epoch + 1 <= _; rw [HEP.out]; decide
theorem infoMR : (Tryz.prog.info? 49).map (fun i => (i.zero.map fun z => z.cells.size, i.size, i.bytes)) = some (some 38, 38, 80) := by kernel_rfl
theorem infoBR : ∃ i z, Tryz.prog.info? 49 = some i /\ i.zero = some z /\ z.cells.size = 38 /\ i.size = 38 /\ i.bytes = 80 := by
 have h := infoMR
 cases hq : Tryz.prog.info? 49 with
 | none => rw [hq] at h; cases h
 | some i =>
   rw [hq] at h
   simp only [Option.map_some, Option.some.injEq, Prod.mk.injEq] at h
   obtain ⟨h1, h2, h3⟩ := h
   cases hz : i.zero with
   | none => rw [hz] at h1; cases h1
   | some z =>
     rw [hz] at h1
     exact ⟨i, z, rfl, hz, by simpa using h1, h2, h3⟩
theorem slice_R (ks : List Value) (hk : ks.length = 38) (w : World) :
   (Instr.buildSlice 39 1 #[(0, .agg ks.toArray)]).run Tryz.prog w = .ok (.slice (some ⟨w.heap.size, 0, none⟩) 1 1) (w.alloc (.cells ks.toArray 49)) := by
 obtain ⟨i, z, hi, hz, hzc, hs, hb⟩ := infoBR
 exact run_buildSlice w 39 49 1 _ ks.toArray i z Tryz.underlying39 hi hz (by rw [hs]; decide) (by rw [hs]; decide) (by rw [hs]; exact fill_one 38 _ ks hk (by simp))
theorem step_sliceR {w : World} {ops : Array Oper} {o : Oper} {a : Act} {K : Act -> World -> Prop} {Q : Exit -> Act -> World -> Prop} {E : Prop} (hw : Region.wanted o (yielded ops a.tmps) = true) (x : Operand) (ho : o.op = .buildSlice 39 1 #[(0, x)])
   (ks : List Value) (hk : ks.length = 38) (hx : a.eval x = .agg ks.toArray) (h : K (a.put o.dst (.slice (some ⟨w.heap.size, 0, none⟩) 1 1)) (w.alloc (.cells ks.toArray 49))) :
   if Region.wanted o (yielded ops a.tmps) = true then Oper.wp Tryz.prog o a w K Q else E := by
 rw [if_pos hw]
 unfold Oper.wp execOp
 simp only [ho, List.map_toArray, List.map_cons, List.map_nil, hx, Sem.run_bind, slice_R ks hk w, Result.andThen_ok, Sem.run_pure]
 exact h
theorem step_pushR {w : World} {ops : Array Oper} {o : Oper} {a : Act} {K : Act -> World -> Prop} {Q : Exit -> Act -> World -> Prop} {E : Prop} (hgd : o.guard = none) (s x : Operand)
   (ho : o.op = .call { callee := .builtin .append, args := #[s, x], argTypes := #[39, 39] })
   (base : Nat) (v : Value) (n : Nat) (xs : List Value) (ks : List Value) (hs : a.eval s = v) (hown : w.ownsRow base 49 38 v n xs) (hx : a.eval x = .slice (some ⟨w.heap.size, 0, none⟩) 1 1) (hl : ks.length = 38) (h1 : ∀ y ∈ ks, y.oneCell' = true)
   (hlen : n + 1 <= 100000) (hbase : base <= w.heap.size) (t : TypeId) (fr : Nat × Nat)
   (h : ∀ v' w', w'.ownsRow base 49 38 v' (n + 1) (xs ++ ks) -> (w.alloc (.cells ks.toArray t fr)).grownBy w' v.ownBlock -> (v'.ownBlock = v.ownBlock \/ v'.ownBlock = some (w.heap.size + 1)) -> K (a.put o.dst v') w') :
   if Region.wanted o (yielded ops a.tmps) = true then Oper.wp Tryz.prog o a (w.alloc (.cells ks.toArray t fr)) K Q else E := by
 have hw : Region.wanted o (yielded ops a.tmps) = true := by simp [Region.wanted, hgd]
 rw [if_pos hw]
 obtain ⟨i5, z, hi5, hz5, hc5, hs5, hy5⟩ := infoBR
 have hown' : (w.alloc (.cells ks.toArray t fr)).ownsRow base 49 38 v n xs := ownsRow_heap hown fun k hk => by
   obtain ⟨_, cur, hh⟩ := ownsRow_block hown k hk
   rw [hh]; exact hold hh
 obtain ⟨v', w', hr, q1, q2, _, q4⟩ := run_append_own_at (P := Tryz.prog) (w.alloc (.cells ks.toArray t fr)) base 39 o.type 49 i5 z 38 80 Tryz.underlying39 hi5 hz5 hs5 hy5 hc5 (by decide) v n _ hown' ⟨w.heap.size, 0, none⟩ 1 1 ks (by omega) (by
   intro j u hu
   rw [Addr.add_mid, Nat.zero_add, cell_of_row _ _ _ _ _ _ (hnew w _)]
   simpa using hu) h1 (by unfold maxLen; omega) (by omega) (by simp; omega)
 unfold Oper.wp execOp
 simp only [ho, resolve, invoke, builtin, Sem.run_bind, Sem.run_pure, Result.andThen_ok, List.map_toArray, List.map_cons, List.map_nil, hs, hx, hr]
 refine h v' w' q1 q2 ?_
 rcases q4 with e | e
 · exact Or.inl e
 · exact Or.inr (by rw [e]; simp)
theorem infoMI : (Tryz.prog.info? 3).map (fun i => (i.zero.map fun z => z.cells.size, i.size, i.bytes)) = some (some 1, 1, 8) := by kernel_rfl
theorem infoBI : ∃ i z, Tryz.prog.info? 3 = some i /\ i.zero = some z /\ z.cells.size = 1 /\ i.size = 1 /\ i.bytes = 8 := by
 have h := infoMI
 cases hq : Tryz.prog.info? 3 with
 | none => rw [hq] at h; cases h
 | some i =>
   rw [hq] at h
   simp only [Option.map_some, Option.some.injEq, Prod.mk.injEq] at h
   obtain ⟨h1, h2, h3⟩ := h
   cases hz : i.zero with
   | none => rw [hz] at h1; cases h1
   | some z =>
     rw [hz] at h1
     exact ⟨i, z, rfl, hz, by simpa using h1, h2, h3⟩
theorem step_pushI {w : World} {ops : Array Oper} {o : Oper} {a : Act} {K : Act -> World -> Prop} {Q : Exit -> Act -> World -> Prop} {E : Prop} (hgd : o.guard = none) (s x : Operand)
   (ho : o.op = .call { callee := .builtin .append, args := #[s, x], argTypes := #[40, 40] })
   (base : Nat) (v : Value) (n : Nat) (xs : List Value) (ks : List Value) (hs : a.eval s = v) (hown : w.ownsRow base 3 1 v n xs) (hx : a.eval x = .slice (some ⟨w.heap.size, 0, none⟩) 1 1) (hl : ks.length = 1) (h1 : ∀ y ∈ ks, y.oneCell' = true)
   (hlen : n + 1 <= 100000) (hbase : base <= w.heap.size) (t : TypeId) (fr : Nat × Nat)
   (h : ∀ v' w', w'.ownsRow base 3 1 v' (n + 1) (xs ++ ks) -> (w.alloc (.cells ks.toArray t fr)).grownBy w' v.ownBlock -> (v'.ownBlock = v.ownBlock \/ v'.ownBlock = some (w.heap.size + 1)) -> K (a.put o.dst v') w') :
   if Region.wanted o (yielded ops a.tmps) = true then Oper.wp Tryz.prog o a (w.alloc (.cells ks.toArray t fr)) K Q else E := by
 have hw : Region.wanted o (yielded ops a.tmps) = true := by simp [Region.wanted, hgd]
 rw [if_pos hw]
 obtain ⟨i5, z, hi5, hz5, hc5, hs5, hy5⟩ := infoBI
 have hown' : (w.alloc (.cells ks.toArray t fr)).ownsRow base 3 1 v n xs := ownsRow_heap hown fun k hk => by
   obtain ⟨_, cur, hh⟩ := ownsRow_block hown k hk
   rw [hh]; exact hold hh
 obtain ⟨v', w', hr, q1, q2, _, q4⟩ := run_append_own_at (P := Tryz.prog) (w.alloc (.cells ks.toArray t fr)) base 40 o.type 3 i5 z 1 8 Tryz.underlying40 hi5 hz5 hs5 hy5 hc5 (by decide) v n _ hown' ⟨w.heap.size, 0, none⟩ 1 1 ks (by omega) (by
   intro j u hu
   rw [Addr.add_mid, Nat.zero_add, cell_of_row _ _ _ _ _ _ (hnew w _)]
   simpa using hu) h1 (by unfold maxLen; omega) (by omega) (by simp; omega)
 unfold Oper.wp execOp
 simp only [ho, resolve, invoke, builtin, Sem.run_bind, Sem.run_pure, Result.andThen_ok, List.map_toArray, List.map_cons, List.map_nil, hs, hx, hr]
 refine h v' w' q1 q2 ?_
 rcases q4 with e | e
 · exact Or.inl e
 · exact Or.inr (by rw [e]; simp)
structure Cn (w : World) (base : Nat) (S : Sto) (P : List (Int × List Int)) (b : Nat) (c : Nat) (rv pv : Value) (recs : List Rc) (pgs : List Int) : Prop where
 ls : Ls w base S P b
 row : w.heap[c]? = some (.cells #[.pointer (some ⟨S.st, 0, none⟩), rv, pv] 42 (0, 0))
 ro : w.ownsRow base 49 38 rv recs.length (recs.flatMap rcC)
 po : w.ownsRow base 3 1 pv pgs.length (pgs.map (Value.int .i64))
 bc : base <= c
 fc : c ∉ S.fp
 rf : ∀ i, rv.ownBlock = some i -> i ∉ S.fp
 pf : ∀ i, pv.ownBlock = some i -> i ∉ S.fp
section
variable {w w1 : World} {base b c : Nat} {S : Sto} {P : List (Int × List Int)} {rv pv : Value} {recs : List Rc} {pgs : List Int}
theorem Cn.keep (h : Cn w base S P b c rv pv recs pgs) (hk : ∀ i, i ∈ S.fp \/ i = c \/ rv.ownBlock = some i \/ pv.ownBlock = some i -> w1.heap[i]? = w.heap[i]?) (hs : w.heap.size <= w1.heap.size) : Cn w1 base S P b c rv pv recs pgs :=
 ⟨h.ls.keep (fun i q => hk i (Or.inl q)) hs, (hk c (by simp)).trans h.row, ownsRow_heap h.ro fun i e => hk i (by simp [e]), ownsRow_heap h.po fun i e => hk i (by simp [e]), h.bc, h.fc, h.rf, h.pf⟩
theorem Cn.lt (h : Cn w base S P b c rv pv recs pgs) {i : Nat} (hi : i ∈ S.fp \/ i = c \/ rv.ownBlock = some i \/ pv.ownBlock = some i) : base <= i /\ i < w.heap.size := by
 rcases hi with e | e | e | e
 · exact h.ls.sk.fpIn e
 · rw [e]; exact ⟨h.bc, hlt h.row⟩
 · exact h.ro.lt i e
 · exact h.po.lt i e
theorem Cn.below (h : Cn w base S P b c rv pv recs pgs) (hb : Below w.heap.size w w1) : Cn w1 base S P b c rv pv recs pgs := h.keep (fun i q => hb.block i (h.lt q).2) hb.size
theorem Cn.store {S1 : Sto} {P1 : List (Int × List Int)} {b1 : Nat} (h : Cn w base S P b c rv pv recs pgs) (hl : Ls w1 base S1 P1 b1) (hs : Stp w S w1 S1) : Cn w1 base S1 P1 b1 c rv pv recs pgs := by
 have go : ∀ i, i < w.heap.size -> i ∉ S.fp -> w1.heap[i]? = w.heap[i]? /\ i ∉ S1.fp := fun i h1 h2 => ⟨hs.fr.block i h1 h2, fun e => (hs.gr i e).elim h2 (fun z => by omega)⟩
 refine ⟨hl, ?_, ownsRow_heap h.ro fun i e => (go i (h.lt (by simp [e])).2 (h.rf i e)).1, ownsRow_heap h.po fun i e => (go i (h.lt (by simp [e])).2 (h.pf i e)).1, h.bc, (go c (hlt h.row) h.fc).2, fun i e => (go i (h.lt (by simp [e])).2 (h.rf i e)).2, fun i e => (go i (h.lt (by simp [e])).2 (h.pf i e)).2⟩
 rw [hs.st]
 exact (go c (hlt h.row) h.fc).1.trans h.row
theorem Cn.c0 (h : Cn w base S P b c rv pv recs pgs) : w.cell? ⟨c, 0, none⟩ = some (.pointer (some ⟨S.st, 0, none⟩)) := by rw [cell_of_row _ _ _ _ _ _ h.row]; rfl
theorem Cn.c1 (h : Cn w base S P b c rv pv recs pgs) : w.cell? ⟨c, 1, none⟩ = some rv := by rw [cell_of_row _ _ _ _ _ _ h.row]; rfl
theorem Cn.c2 (h : Cn w base S P b c rv pv recs pgs) : w.cell? ⟨c, 2, none⟩ = some pv := by rw [cell_of_row _ _ _ _ _ _ h.row]; rfl
theorem Cn.page (h : Cn w base S P b c rv pv recs pgs) (j : Nat) (hj : j < pgs.length) : ∃ g cap, pv = .slice (some ⟨g, 0, none⟩) pgs.length cap /\ w.cell? ⟨g, j, none⟩ = some (.int .i64 (pgs.getD j 0)) /\ pgs.length <= cap /\ cap <= maxLen := by
 obtain ⟨_, (⟨_, e⟩ | ⟨g, cap, cur, e, _, _, h5, h6, _, _⟩)⟩ := h.po
 · omega
 · refine ⟨g, cap, e, ?_, h5, h6⟩
   have := h.po
   rw [e] at this
   rw [this.cellAt j (by omega), List.getElem?_map, List.getElem?_eq_getElem hj, List.getD_eq_getElem?_getD, List.getElem?_eq_getElem hj]; rfl
end
theorem wpList_pushI {w : World} {ops : Array Oper} {rest : List Oper} {o : Oper} {a : Act} {Q : Exit -> Act -> World -> Prop} (hgd : o.guard = none) (s x : Operand) (ho : o.op = .call { callee := .builtin .append, args := #[s, x], argTypes := #[40, 40] })
   (base : Nat) (v : Value) (n : Nat) (xs : List Value) (y : Int) (hs : a.eval s = v) (hown : w.ownsRow base 3 1 v n xs) (hx : a.eval x = .slice (some ⟨w.heap.size, 0, none⟩) 1 1) (hlen : n + 1 <= 100000) (hbase : base <= w.heap.size)
   (h : ∀ v' w', w'.ownsRow base 3 1 v' (n + 1) (xs ++ [.int .i64 y]) -> (w.alloc (.cells #[.int .i64 y] 3)).grownBy w' v.ownBlock -> (v'.ownBlock = v.ownBlock \/ v'.ownBlock = some (w.heap.size + 1)) -> wpList Tryz.prog ops Q rest (a.put o.dst v') w') :
   wpList Tryz.prog ops Q (o :: rest) a (w.alloc (.cells #[.int .i64 y] 3)) :=
 wpList_step fun K hK => step_pushI hgd s x ho base v n xs [.int .i64 y] hs hown hx rfl (by simp [Value.oneCell']) hlen hbase 3 (0, 0) (fun v' w' a b c => hK _ _ (h v' w' a b c))
theorem grown_at {w w' : World} {row : Option Nat} (hg : w.grownBy w' row) {k : Nat} (h1 : k < w.heap.size) (h2 : row ≠ some k) : w'.heap[k]? = w.heap[k]? := hg.block k h1 (fun e => h2 e.symm)
theorem Cn.appR {W w' : World} {base b c : Nat} {S : Sto} {P : List (Int × List Int)} {rv pv : Value} {recs : List Rc} {pgs : List Int} (h : Cn W base S P b c rv pv recs pgs) (y : Rc) (o : Obj) (v' : Value) (ho : w'.ownsRow base 49 38 v' (recs.length + 1) (recs.flatMap rcC ++ rcC y)) (hg : (W.alloc o).grownBy w' rv.ownBlock) (hd : v'.ownBlock = rv.ownBlock \/ v'.ownBlock = some (W.heap.size + 1)) :
   w'.cell? ⟨c, 1, none⟩ = some rv /\ w'.frozen? ⟨c, 1, none⟩ = false /\ Cn (w'.setCell ⟨c, 1, none⟩ v') base S P b c v' pv (recs ++ [y]) pgs /\ Below base W (w'.setCell ⟨c, 1, none⟩ v') := by
 have hb := below_new W o
 have rc : ∀ i, rv.ownBlock = some i -> i ≠ c := fun i e z => by
   obtain ⟨_, cur, q⟩ := ownsRow_block h.ro i e
   rw [z, h.row] at q; cases q
 have rp : ∀ i, rv.ownBlock = some i -> pv.ownBlock ≠ some i := fun i e z => by
   obtain ⟨_, cur, q⟩ := ownsRow_block h.ro i e
   obtain ⟨_, cur2, q2⟩ := ownsRow_block h.po i z
   rw [q] at q2; cases q2
 have keep : ∀ i, i ∈ S.fp \/ i = c \/ pv.ownBlock = some i -> w'.heap[i]? = W.heap[i]? := fun i q => by
   have l1 : i < W.heap.size := by
     rcases q with e | e | e
     · exact (h.lt (Or.inl e)).2
     · exact (h.lt (Or.inr (Or.inl e))).2
     · exact (h.lt (Or.inr (Or.inr (Or.inr e)))).2
   refine (grown_at hg (Nat.lt_of_lt_of_le l1 hb.size) (fun z => ?_)).trans (hb.block i l1)
   rcases q with e | e | e
   · exact h.rf i z e
   · exact rc i z e
   · exact rp i z e
 have row' : w'.heap[c]? = some (.cells #[.pointer (some ⟨S.st, 0, none⟩), rv, pv] 42 (0, 0)) := (keep c (by simp)).trans h.row
 have ne : ∀ i, i ≠ c -> (w'.setCell ⟨c, 1, none⟩ v').heap[i]? = w'.heap[i]? := fun i q => heap_setCell_other w' ⟨c, 1, none⟩ i v' q
 have vc : ∀ i, v'.ownBlock = some i -> i ≠ c := fun i e z => by
   obtain ⟨_, cur, q⟩ := ownsRow_block ho i e
   rw [z, row'] at q; cases q
 have pc : ∀ i, pv.ownBlock = some i -> i ≠ c := fun i e z => by
   obtain ⟨_, cur, q⟩ := ownsRow_block h.po i e
   rw [z, h.row] at q; cases q
 have sz : W.heap.size <= w'.heap.size := Nat.le_trans hb.size hg.size
 refine ⟨by rw [cell_of_row _ _ _ _ _ _ row']; rfl, frozen_of_row _ _ _ _ _ row', ⟨h.ls.keep (fun i q => (ne i (fun z => h.fc (z ▸ q))).trans (keep i (Or.inl q))) (by rw [World.size_setCell]; exact sz), heap_setCell_same _ _ _ _ _ _ row', ?_, ownsRow_heap h.po (fun i e => (ne i (pc i e)).trans (keep i (by simp [e]))), h.bc, h.fc, fun i e => ?_, h.pf⟩, ?_⟩
 · have := ownsRow_heap ho (w1 := w'.setCell ⟨c, 1, none⟩ v') (fun i e => ne i (vc i e))
   rw [List.length_append, List.length_singleton, List.flatMap_append, List.flatMap_singleton]
   exact this
 · rcases hd with z | z
   · exact h.rf i (z ▸ e)
   · rw [z] at e; cases e
     exact fun q => by have := (h.lt (Or.inl q)).2; omega
 · refine (((hb.mono (h.ls.sk.base)).grown hg (Nat.le_trans h.ls.sk.base hb.size) (fun k e => (h.lt (Or.inr (Or.inr (Or.inl e)))).1))).setCell (p := ⟨c, 1, none⟩) h.bc _
theorem Cn.appP {W w' : World} {base b c : Nat} {S : Sto} {P : List (Int × List Int)} {rv pv : Value} {recs : List Rc} {pgs : List Int} (h : Cn W base S P b c rv pv recs pgs) (y : Int) (o : Obj) (v' : Value) (ho : w'.ownsRow base 3 1 v' (pgs.length + 1) (pgs.map (Value.int .i64) ++ [.int .i64 y])) (hg : (W.alloc o).grownBy w' pv.ownBlock) (hd : v'.ownBlock = pv.ownBlock \/ v'.ownBlock = some (W.heap.size + 1)) :
   w'.cell? ⟨c, 2, none⟩ = some pv /\ w'.frozen? ⟨c, 2, none⟩ = false /\ Cn (w'.setCell ⟨c, 2, none⟩ v') base S P b c rv v' recs (pgs ++ [y]) /\ Below base W (w'.setCell ⟨c, 2, none⟩ v') := by
 have hb := below_new W o
 have rc : ∀ i, pv.ownBlock = some i -> i ≠ c := fun i e z => by
   obtain ⟨_, cur, q⟩ := ownsRow_block h.po i e
   rw [z, h.row] at q; cases q
 have rp : ∀ i, pv.ownBlock = some i -> rv.ownBlock ≠ some i := fun i e z => by
   obtain ⟨_, cur, q⟩ := ownsRow_block h.po i e
   obtain ⟨_, cur2, q2⟩ := ownsRow_block h.ro i z
   rw [q] at q2; cases q2
 have keep : ∀ i, i ∈ S.fp \/ i = c \/ rv.ownBlock = some i -> w'.heap[i]? = W.heap[i]? := fun i q => by
   have l1 : i < W.heap.size := by
     rcases q with e | e | e
     · exact (h.lt (Or.inl e)).2
     · exact (h.lt (Or.inr (Or.inl e))).2
     · exact (h.lt (Or.inr (Or.inr (Or.inl e)))).2
   refine (grown_at hg (Nat.lt_of_lt_of_le l1 hb.size) (fun z => ?_)).trans (hb.block i l1)
   rcases q with e | e | e
   · exact h.pf i z e
   · exact rc i z e
   · exact rp i z e
 have row' : w'.heap[c]? = some (.cells #[.pointer (some ⟨S.st, 0, none⟩), rv, pv] 42 (0, 0)) := (keep c (by simp)).trans h.row
 have ne : ∀ i, i ≠ c -> (w'.setCell ⟨c, 2, none⟩ v').heap[i]? = w'.heap[i]? := fun i q => heap_setCell_other w' ⟨c, 2, none⟩ i v' q
 have vc : ∀ i, v'.ownBlock = some i -> i ≠ c := fun i e z => by
   obtain ⟨_, cur, q⟩ := ownsRow_block ho i e
   rw [z, row'] at q; cases q
 have pc : ∀ i, rv.ownBlock = some i -> i ≠ c := fun i e z => by
   obtain ⟨_, cur, q⟩ := ownsRow_block h.ro i e
   rw [z, h.row] at q; cases q
 have sz : W.heap.size <= w'.heap.size := Nat.le_trans hb.size hg.size
 refine ⟨by rw [cell_of_row _ _ _ _ _ _ row']; rfl, frozen_of_row _ _ _ _ _ row', ⟨h.ls.keep (fun i q => (ne i (fun z => h.fc (z ▸ q))).trans (keep i (Or.inl q))) (by rw [World.size_setCell]; exact sz), heap_setCell_same _ _ _ _ _ _ row', ownsRow_heap h.ro (fun i e => (ne i (pc i e)).trans (keep i (by simp [e]))), ?_, h.bc, h.fc, h.rf, fun i e => ?_⟩, ?_⟩
 · have := ownsRow_heap ho (w1 := w'.setCell ⟨c, 2, none⟩ v') (fun i e => ne i (vc i e))
   rw [List.length_append, List.length_singleton, List.map_append]
   exact this
 · rcases hd with z | z
   · exact h.pf i (z ▸ e)
   · rw [z] at e; cases e
     exact fun q => by have := (h.lt (Or.inl q)).2; omega
 · refine (((hb.mono (h.ls.sk.base)).grown hg (Nat.le_trans h.ls.sk.base hb.size) (fun k e => (h.lt (Or.inr (Or.inr (Or.inr e)))).1))).setCell (p := ⟨c, 2, none⟩) h.bc _
structure Sd where
 s : Sup
 D : DS
 p : Nat
def Sto.sd (S : Sto) : Sd := ⟨S.s, S.D, S.p⟩
def NpS (S : Sto) (x : Sd) : Prop := S.D.np = 4096 /\ S.s = x.s /\ S.D = { x.D with reads := S.D.reads } /\ S.p = x.p
theorem NpS.of {w w' : World} {S S' : Sto} {x : Sd} (h : NpS S x) (k : Stp w S w' S') : NpS S' x := ⟨by rw [k.D]; exact h.1, k.s.trans h.2.1, by rw [k.D, h.2.2.1], k.p.trans h.2.2.2⟩
def trP (n : Nat) : List (Int × List Int) := (List.range n).map fun i => (1, [((i : Nat) : Int)])
theorem trP_len (n : Nat) : (trP n).length = n := by simp [trP]
theorem trP_succ (n : Nat) : trP (n + 1) = trP n ++ [(1, [((n : Nat) : Int)])] := by simp [trP, List.range_succ]
theorem trees_any (w : World) (base : Nat) (S : Sto) (b : Nat) (c : Nat) (rv pv : Value) (recs : List Rc) (pgs : List Int) (h : Cn w base S [] b c rv pv recs pgs) (hb : b <= 1000000) (n : Nat) (hn : n <= 8) (s0 : Sd) (hnp : NpS S s0) :
   Calls Tryz.prog 25 #[.pointer (some ⟨c, 0, none⟩), .int .i64 n] w fun e w' => ∃ S', e = .returned (.bool true) /\ Cn w' base S' (trP n) (b + n) c rv pv recs pgs /\ S'.st = S.st /\ NpS S' s0 /\ Below base w w' := by
 have HH := hid h
 have hni : (n : Int) <= 8 := by omega
 have HST := hid (show S.st = S.st from rfl)
 obtain ⟨st, hst⟩ : ∃ st, S.st = st := ⟨_, rfl⟩
 have HNP := hid hnp
 have HSTV := hid hst
 clear h hst hnp
 go_enter Tryz.func25, Tryz.ntmps25
 go_wp2
 go_loopw [5] (fun i w' => ∃ (k : Nat) (S' : Sto), k <= n /\ i = .int .i64 k /\ Cn w' base S' (trP k) (b + k) c rv pv recs pgs /\ S'.st = st /\ NpS S' s0 /\ Below base w w') (fun i _ => n - (intOf i).toNat)
 case atStart => exact ⟨0, S, by omega, rfl, HH.out, HSTV.out, HNP.out, Below.refl _ _⟩
 case round =>
   obtain ⟨k, S', hk, rfl, hC, hs, hn2, hbl⟩ := hrel
   by_cases hk2 : k < n
   · have i1 : (k : Int) < (n : Int) := by omega
     have c0 := hC.c0
     rw [hs] at c0
     have HC := hid hC
     have HS := hid hs
     have HN2 := hid hn2
     have HBL := hid hbl
     have KS : Hid (∀ (w1 : World) (hb1 : Below wr.heap.size wr w1) (sp : Option Addr) (cap : Nat), Src w1 sp cap [((k : Nat) : Int)] -> (sp = none -> cap = 0) -> Calls Tryz.prog 45 #[.pointer (some ⟨st, 0, none⟩), .int .i64 1, .slice sp 1 cap] w1 fun e w' => ∃ S2, e = .returned (.tuple #[.int .i64 (2 + (trP k).length : Nat), .int .i64 0]) /\ Ls w' base S2 (trP k ++ [(1, [((k : Nat) : Int)])]) (b + k + 1) /\ Stp w1 S' w' S2) := hid (fun w1 hb1 sp cap hS hnn => by
       have hl := (HC.out.below hb1).ls.stage (by omega) (by rw [HN2.out.1, trP_len]; omega) 1 (by omega) [((k : Nat) : Int)] (fun x hx => by simp at hx; rw [hx]; omega) (by simp) sp cap hS hnn
       rw [HS.out] at hl
       exact hl)
     clear hC hs hn2 hbl
     go_wp2_with fail
     have hb1 := below_new wr (.cells #[.int .u8 (k : Int)] 5)
     refine (KS.out _ hb1 (some ⟨wr.heap.size, 0, none⟩) 1 (src_newi wr [(k : Int)] 5 (0, 0) (by simp [maxLen])) (fun z => by cases z)).mono ?_
     have HB1 := hid hb1
     clear hb1
     generalize wr.alloc (.cells #[.int .u8 (k : Int)] 5) = w2 at *
     rintro e w3 ⟨S3, rfl, hl3, hs3⟩
     have HC3 := hid ((HC.out.below HB1.out).store hl3 hs3)
     have HS3 := hid (hs3.st.trans HS.out)
     have HN3 := hid (HN2.out.of hs3)
     have HB3 := hid ((HBL.out.trans (HB1.out.mono HC.out.ls.sk.base)).trans (hs3.below (HC.out.below HB1.out).ls.sk))
     clear hl3 hs3 c0
     go_wp2
     go_roundw
     case rel => exact ⟨k + 1, S3, by omega, by go_num, by rw [trP_succ]; exact HC3.out, HS3.out, HN3.out, HB3.out⟩
     case measure => simp [intOf]; omega
   · obtain rfl : k = n := by omega
     have HC := hid hC
     have HS := hid hs
     have HN2 := hid hn2
     have HBL := hid hbl
     clear hC hs hn2 hbl
     go_wp2
     go_ret
     exact ⟨S', rfl, HC.out, HS.out.trans HSTV.out.symm, HN2.out, HBL.out⟩
end Go.Proofs.YtbnghhgeoodphaaGreatDoor
namespace Go.Proofs.YtbnghhgeoodphaaGreatDoor
set_option maxRecDepth 100000
set_option maxHeartbeats 40000000
set_option linter.unusedVariables false
set_option linter.unusedSimpArgs false
open Go.RowKit
structure IR where
 root : Int
 count : Int
 sum : List Int
def dIR : IR := ⟨0, 0, zD⟩
structure IROk (x : IR) : Prop where
 sm : x.sum.length = 32
 by8 : Byts x.sum
def rtOf (T : Nat) (x : IR) : Int := if 0 <= x.root /\ 0 < T then 2 + x.root % (T : Int) else 0
def ctOf (T : Nat) (x : IR) : Int := if 0 <= x.root /\ 0 < T then (if 1 < x.count /\ x.count <= 4096 then x.count else 1) else 0
def verN (first : Int) (k : Nat) : Int := if first = 0 then (k : Int) else first + k - 1
def pgN (T k : Nat) : Int := if k = 0 then 0 else ((1 + T + k : Nat) : Int)
def farN (k : Nat) : Nat := (far (k : Int)).toNat
def recN (first : Int) (T k : Nat) (x : IR) : Rc := ⟨verN first k, first, pgN T (k - 1), pgN T (farN k), rtOf T x, ctOf T x, x.sum⟩
def recsOf (first : Int) (T : Nat) (xs : List IR) : List Rc := (List.range xs.length).map fun j => recN first T (j + 1) (xs.getD j dIR)
def pgsOf (T n : Nat) : List Int := (List.range n).map fun j => pgN T (j + 1)
def chP (first : Int) (T : Nat) (xs : List IR) : List (Int × List Int) := trP T ++ (recsOf first T xs).map fun r => (3, loadR r)
theorem recsOf_len (first : Int) (T : Nat) (xs : List IR) : (recsOf first T xs).length = xs.length := by simp [recsOf]
theorem chP_len (first : Int) (T : Nat) (xs : List IR) : (chP first T xs).length = T + xs.length := by simp [chP, trP_len, recsOf_len]
theorem recsOf_snoc (first : Int) (T : Nat) (xs : List IR) (x : IR) : recsOf first T (xs ++ [x]) = recsOf first T xs ++ [recN first T (xs.length + 1) x] := by
 unfold recsOf
 rw [List.length_append, List.length_singleton, List.range_succ, List.map_append]
 congr 1
 · apply List.map_congr_left
   intro j hj
   rw [List.getD_eq_getElem?_getD, List.getElem?_append_left (List.mem_range.1 hj), <- List.getD_eq_getElem?_getD]
 · simp
theorem chP_snoc (first : Int) (T : Nat) (xs : List IR) (x : IR) : chP first T (xs ++ [x]) = chP first T xs ++ [(3, loadR (recN first T (xs.length + 1) x))] := by
 unfold chP
 rw [recsOf_snoc, List.map_append, List.append_assoc]; rfl
theorem pgsOf_succ (T n : Nat) : pgsOf T (n + 1) = pgsOf T n ++ [pgN T (n + 1)] := by simp [pgsOf, List.range_succ]
theorem pgsOf_len (T n : Nat) : (pgsOf T n).length = n := by simp [pgsOf]
theorem pgsOf_at (T n j : Nat) (h : j < n) : (pgsOf T n).getD j 0 = pgN T (j + 1) := by simp [pgsOf, List.getD_eq_getElem?_getD, h]
theorem farN_lt (k : Nat) (h1 : 1 <= k) (h2 : k <= 1073741825) : farN k < k /\ far (k : Int) = (farN k : Int) := by
 have := far_bd (k : Int) (by omega) (by omega)
 unfold farN
 omega
structure ChOk (first : Int) (T : Nat) (xs : List IR) : Prop where
 f0 : 0 <= first
 f1 : first <= 536870912
 T8 : T <= 8
 n4 : xs.length <= 4000
 ok : ∀ x ∈ xs, IROk x
theorem num_recN (first : Int) (hf : 0 <= first) (T k : Nat) (hk : 1 <= k) (x : IR) : numR (recN first T k x).v (recN first T k x).f = (k : Int) := by
 show numR (verN first k) first = _
 unfold numR verN
 split
 · rfl
 · omega
theorem recN_right {first : Int} (f0 : 0 <= first) (f1 : first <= 536870912) {T : Nat} (hT : T <= 8) {k : Nat} (h1 : 1 <= k) (h4 : k <= 4000) {x : IR} (hx : IROk x) : RightR (recN first T k x) /\ RcOk (recN first T k x) := by
 obtain ⟨fl, fe⟩ := farN_lt k h1 (by omega)
 have hn := num_recN first f0 T k h1 x
 have hrt : (rtOf T x = 0 /\ ctOf T x = 0) \/ (2 <= rtOf T x /\ rtOf T x < 2 + (T : Int) /\ 1 <= ctOf T x /\ ctOf T x <= 4096) := by
   unfold rtOf ctOf
   by_cases c : 0 <= x.root /\ 0 < T
   · rw [if_pos c, if_pos c]
     have := Int.emod_nonneg x.root (b := (T : Int)) (by omega)
     have := Int.emod_lt_of_pos x.root (b := (T : Int)) (by omega)
     right
     refine ⟨by omega, by omega, ?_, ?_⟩
     · split <;> omega
     · split <;> omega
   · rw [if_neg c, if_neg c]; exact Or.inl ⟨rfl, rfl⟩
 refine ⟨⟨?_, ?_, ?_, ?_⟩, ⟨hx.sm⟩⟩
 · show 0 <= first /\ first <= verN first k /\ 1 <= verN first k /\ verN first k <= 1073741824
   unfold verN
   split <;> omega
 · show rtOf T x = 0 \/ PgR (rtOf T x)
   rcases hrt with h | h
   · exact Or.inl h.1
   · exact Or.inr ⟨h.1, by omega⟩
 · show (rtOf T x = 0 /\ ctOf T x = 0) \/ (rtOf T x ≠ 0 /\ 1 <= ctOf T x /\ ctOf T x <= 4096)
   rcases hrt with h | h
   · exact Or.inl h
   · exact Or.inr ⟨by omega, h.2.2⟩
 · unfold LnkR
   rw [hn]
   show ((k : Int) = 1 /\ pgN T (k - 1) = 0 /\ pgN T (farN k) = 0) \/ ((k : Int) ≠ 1 /\ PgR (pgN T (k - 1)) /\ ((far k = 0 /\ pgN T (farN k) = 0) \/ (far k ≠ 0 /\ ((far k = k - 1 /\ pgN T (farN k) = pgN T (k - 1)) \/ (far k ≠ k - 1 /\ 2 <= pgN T (farN k) /\ pgN T (farN k) < pgN T (k - 1))))))
   rw [fe]
   by_cases k1 : k = 1
   · left
     have : farN k = 0 := by omega
     refine ⟨by omega, ?_, ?_⟩
     · rw [k1]; rfl
     · rw [this]; rfl
   · right
     have hp : pgN T (k - 1) = ((1 + T + (k - 1) : Nat) : Int) := if_neg (by omega)
     refine ⟨by omega, ⟨by rw [hp]; omega, by rw [hp]; omega⟩, ?_⟩
     by_cases z : farN k = 0
     · left; rw [z]; exact ⟨rfl, rfl⟩
     · right
       have hs : pgN T (farN k) = ((1 + T + farN k : Nat) : Int) := if_neg z
       refine ⟨by omega, ?_⟩
       by_cases e : farN k = k - 1
       · left; exact ⟨by omega, by rw [e]⟩
       · right; exact ⟨by omega, by rw [hs]; omega, by rw [hs, hp]; omega⟩
theorem recN_low {first : Int} {T : Nat} {k : Nat} (h1 : 1 <= k) (h4 : k <= 4000) (x : IR) : (recN first T k x).p < pgN T k /\ (recN first T k x).s < pgN T k /\ (recN first T k x).r < pgN T k := by
 obtain ⟨fl, fe⟩ := farN_lt k h1 (by omega)
 have hk : pgN T k = ((1 + T + k : Nat) : Int) := if_neg (by omega)
 rw [hk]
 refine ⟨?_, ?_, ?_⟩
 · show pgN T (k - 1) < _
   unfold pgN; split <;> omega
 · show pgN T (farN k) < _
   unfold pgN; split <;> omega
 · show rtOf T x < _
   unfold rtOf
   split
   · rename_i c
     have := Int.emod_lt_of_pos x.root (b := (T : Int)) (by omega)
     omega
   · omega
theorem chP_at (first : Int) (T : Nat) (xs : List IR) (j : Nat) (hj : j < xs.length) : (chP first T xs).getD (T + j) (0, []) = (3, loadR (recN first T (j + 1) (xs.getD j dIR))) := by
 unfold chP
 rw [List.getD_eq_getElem?_getD, List.getElem?_append_right (by rw [trP_len]; omega), trP_len, show T + j - T = j by omega, List.getElem?_map]
 unfold recsOf
 rw [List.getElem?_map, List.getElem?_range hj]
 rfl
theorem ChOk.at {first : Int} {T : Nat} {xs : List IR} (h : ChOk first T xs) (j : Nat) (hj : j < xs.length) : IROk (xs.getD j dIR) := h.ok _ (by rw [List.getD_eq_getElem?_getD, List.getElem?_eq_getElem hj]; exact List.getElem_mem _)
theorem ChOk.stands {first : Int} {T : Nat} {xs : List IR} (h : ChOk first T xs) (j : Nat) (hj : j < xs.length) : Stands (chP first T xs) (pgN T (j + 1)) (recN first T (j + 1) (xs.getD j dIR)) := by
 have hn := h.n4
 have hk : pgN T (j + 1) = ((1 + T + (j + 1) : Nat) : Int) := if_neg (by omega)
 obtain ⟨hr, hok⟩ := recN_right h.f0 h.f1 h.T8 (k := j + 1) (by omega) (by omega) (h.at j hj)
 obtain ⟨l1, l2, l3⟩ := recN_low (first := first) (T := T) (k := j + 1) (by omega) (by omega) (xs.getD j dIR)
 refine ⟨by rw [hk]; omega, by rw [hk, chP_len]; omega, ?_⟩
 have e : (pgN T (j + 1) - 2).toNat = T + j := by rw [hk]; omega
 unfold lookP
 rw [e, chP_at first T xs j hj]
 show (if (3 : Int) = 3 then (match decR (loadR (recN first T (j + 1) (xs.getD j dIR))) with | some r => if r.p < pgN T (j + 1) /\ r.s < pgN T (j + 1) /\ r.r < pgN T (j + 1) then some r else none | none => none) else none) = _
 rw [if_pos rfl, dec_loadR hok hr]
 exact if_pos ⟨l1, l2, l3⟩
theorem ChOk.way {first : Int} {T : Nat} {xs : List IR} (h : ChOk first T xs) (t : Nat) (ht : 1 <= t) : ∀ (i j : Nat), j < i -> j < xs.length -> t <= j + 1 -> ∃ Y, Way (chP first T xs) t (pgN T (j + 1)) (recN first T (j + 1) (xs.getD j dIR)) Y /\ lastEr Y = 0 /\ lastPg Y = pgN T t /\ Y.length <= i := by
 intro i
 induction i with
 | zero => intro j hj; omega
 | succ i ih =>
   intro j hji hj htj
   have hn4 := h.n4
   have hnum := num_recN first h.f0 T (j + 1) (by omega) (xs.getD j dIR)
   by_cases hc : t = j + 1
   · refine ⟨_, .stop (by rw [hnum]; omega), rfl, ?_, by simp⟩
     rw [hc]; rfl
   · obtain ⟨fl, fe⟩ := farN_lt (j + 1) (by omega) (by omega)
     have key : ∀ j2, j2 < j -> t <= j2 + 1 -> linkP (recN first T (j + 1) (xs.getD j dIR)) t = (pgN T (j2 + 1), ((j2 + 1 : Nat) : Int)) -> ∃ Y, Way (chP first T xs) t (pgN T (j + 1)) (recN first T (j + 1) (xs.getD j dIR)) Y /\ lastEr Y = 0 /\ lastPg Y = pgN T t /\ Y.length <= i + 1 := by
       intro j2 h2 h3 hl
       obtain ⟨Y, hY, y1, y2, y3⟩ := ih j2 (by omega) (by omega) h3
       have hfo : followP (chP first T xs) (recN first T (j + 1) (xs.getD j dIR)) t = some (pgN T (j2 + 1), recN first T (j2 + 1) (xs.getD j2 dIR)) := by
         unfold followP
         rw [hl]
         show (match lookP (chP first T xs) (pgN T (j2 + 1)) with | some y => _ | none => none) = _
         rw [(h.stands j2 (by omega)).lk]
         exact if_pos ⟨rfl, num_recN first h.f0 T (j2 + 1) (by omega) _⟩
       refine ⟨_, .go (by rw [hnum]; omega) hfo hY, ?_, ?_, by simp; omega⟩
       · have := way_ne hY
         rcases Y with _ | ⟨a, Y⟩
         · exact absurd rfl this
         · rw [<- y1]; simp [lastEr, List.getLast?_cons_cons]
       · have := way_ne hY
         rcases Y with _ | ⟨a, Y⟩
         · exact absurd rfl this
         · rw [<- y2]; simp [lastPg, List.getLast?_cons_cons]
     by_cases hf : (t : Int) <= far ((j + 1 : Nat) : Int)
     · refine key (farN (j + 1) - 1) (by omega) (by omega) ?_
       unfold linkP
       rw [hnum, if_pos hf]
       show (pgN T (farN (j + 1)), far ((j + 1 : Nat) : Int)) = _
       rw [fe, show farN (j + 1) - 1 + 1 = farN (j + 1) by omega]
     · refine key (j - 1) (by omega) (by omega) ?_
       unfold linkP
       rw [hnum, if_neg hf]
       show (pgN T (j + 1 - 1), ((j + 1 : Nat) : Int) - 1) = _
       rw [show j - 1 + 1 = j by omega, show j + 1 - 1 = j by omega]
       congr 1
       omega
theorem ChOk.skip {first : Int} {T : Nat} {xs : List IR} (h : ChOk first T xs) (j : Nat) (hj : j < xs.length) : ∃ m, m <= 4000 /\ SkipIs (chP first T xs) (pgN T (j + 1)) (recN first T (j + 1) (xs.getD j dIR)) m (pgN T (farN (j + 2))) := by
 have hn4 := h.n4
 have hnum := num_recN first h.f0 T (j + 1) (by omega) (xs.getD j dIR)
 obtain ⟨fl, fe⟩ := farN_lt (j + 2) (by omega) (by omega)
 have e2 : numR (recN first T (j + 1) (xs.getD j dIR)).v (recN first T (j + 1) (xs.getD j dIR)).f + 1 = ((j + 2 : Nat) : Int) := by rw [hnum]; omega
 by_cases z : farN (j + 2) = 0
 · refine ⟨0, by omega, ?_⟩
   rw [z]
   exact .none (by rw [e2, fe, z]; rfl)
 · obtain ⟨Y, hY, y1, y2, y3⟩ := h.way (farN (j + 2)) (by omega) (j + 1) j (by omega) hj (by omega)
   refine ⟨Y.length, by omega, ?_⟩
   have hY2 : Way (chP first T xs) (far (numR (recN first T (j + 1) (xs.getD j dIR)).v (recN first T (j + 1) (xs.getD j dIR)).f + 1)) (pgN T (j + 1)) (recN first T (j + 1) (xs.getD j dIR)) Y := by rw [e2, fe]; exact hY
   rw [<- y2]
   exact .way (by rw [e2, fe]; omega) hY2 y1
end Go.Proofs.YtbnghhgeoodphaaGreatDoor
