import Derived.Test.YtbnghhgeoodphaaGreatDoorIc1
namespace Go.Proofs.YtbnghhgeoodphaaGreatDoor
set_option maxRecDepth 100000
set_option maxHeartbeats 40000000
set_option linter.unusedVariables false
set_option linter.unusedSimpArgs false
open Go.RowKit
open Go.Proofs.YtbnghhgeoodphaaGreatDoor.Ca (Ct ct0 ctC argV AS)
attribute [local go_sem ↓] Go.wp_at_zero Go.wp_at_succ
attribute [local go_sem] Oper.semAt_some
theorem ver_num {r : Rc} (h : VerR r) : 1 <= numR r.v r.f /\ numR r.v r.f <= 1073741824 := by
 obtain ⟨h1, h2, h3, h4⟩ := h
 unfold numR
 split <;> omega
def lastPg (Y : List Wy) : Int := match Y.getLast? with | some x => x.1 | none => 0
def lastEr (Y : List Wy) : Int := match Y.getLast? with | some x => x.2.2 | none => 0
theorem lastPg_snoc (Y : List Wy) (x : Wy) : lastPg (Y ++ [x]) = x.1 := by simp [lastPg]
theorem lastEr_snoc (Y : List Wy) (x : Wy) : lastEr (Y ++ [x]) = x.2.2 := by simp [lastEr]
theorem exec_store_row {P : Program} {o : Oper} {a : Act} {w : World} (ty : TypeId) (x y : Operand) (ho : o.op = .store ty x y) (g : Nat) (cells : Array Value) (hx : a.eval x = .pointer (some ⟨g, 0, none⟩)) (hy : a.eval y = .agg cells) (t : TypeId) (old : Array Value) (hg : w.heap[g]? = some (.cells old t (0, 0))) (hi : (P.info? ty).map (·.size) = some cells.size) (hold : old.size = cells.size) (h1 : cells.all (·.oneCell') = true) :
   (execOp a.eval o).run P w = .ok .skip (w.setRow g cells) := by
 unfold execOp
 simp only [ho, hx, hy, Instr.storeAt, Instr.sureAddr, Sem.run_bind, Sem.run_pure, Result.andThen_ok, run_storeVar_row w g t ty old cells hg hi hold h1]
theorem rl_val {l n : Nat} {P : Program} {ops : Array Oper} {rest : List Oper} {Q : Exit -> Act -> World -> Prop} {o : Oper} {a : Act} {w w' : World} {v : Value} (hg : o.guard = none) (hd : ∀ c, o.op ≠ .defer c) (hv : (execOp a.eval o).run P w = .ok (.value v) w') (h : wpListIn (Fence.wide.inRound l) n P ops Q rest (a.put o.dst v) w') : wpListIn (Fence.wide.inRound l) n P ops Q (o :: rest) a w :=
 wpListIn_plain hg fun K hK => ⟨fun _ _ => trivial, by
   show Oper.uponIn _ _ _ _ _ _ _ ((Oper.semAt (some l) a.eval o).run P w)
   rw [Oper.semAt_some l _ _ hd, hv]
   exact hK _ _ h⟩
theorem rl_skip {l n : Nat} {P : Program} {ops : Array Oper} {rest : List Oper} {Q : Exit -> Act -> World -> Prop} {o : Oper} {a : Act} {w w' : World} (hg : o.guard = none) (hd : ∀ c, o.op ≠ .defer c) (hv : (execOp a.eval o).run P w = .ok .skip w') (h : wpListIn (Fence.wide.inRound l) n P ops Q rest (a.put o.dst undef) w') : wpListIn (Fence.wide.inRound l) n P ops Q (o :: rest) a w :=
 wpListIn_plain hg fun K hK => ⟨fun _ _ => trivial, by
   show Oper.uponIn _ _ _ _ _ _ _ ((Oper.semAt (some l) a.eval o).run P w)
   rw [Oper.semAt_some l _ _ hd, hv]
   exact hK _ _ h⟩
theorem results_ii {P : Program} {fn : Func} {p q : Tmp} {ty ty2 : TypeId} (h : fn.results = #[.cell p ty, .cell q ty2]) (tmps : Array Value) (w : World) (g g2 : Nat) (x y : Value) (hp : tmps.getD p undef = .pointer (some ⟨g, 0, none⟩)) (hq : tmps.getD q undef = .pointer (some ⟨g2, 0, none⟩)) (hx : (loadVar ty ⟨g, 0, none⟩).run P w = .ok x w) (hy : (loadVar ty2 ⟨g2, 0, none⟩).run P w = .ok y w) :
   (results fn tmps).run P w = .ok (.tuple #[x, y]) w := by
 have hp' : tmps[p]?.getD undef = .pointer (some ⟨g, 0, none⟩) := by simpa using hp
 have hq' : tmps[q]?.getD undef = .pointer (some ⟨g2, 0, none⟩) := by simpa using hq
 simp [results, h, hp', hq', asAddr, hx, hy]
def TwoP (w : World) (base : Nat) (S : Sto) (P : List (Int × List Int)) (b : Nat) (x y : Int) (e : Ending) (w' : World) : Prop := ∃ S', e = .returned (.tuple #[.int .i64 x, .int .i64 y]) /\ Ls w' base S' P b /\ Stp w S w' S'
theorem skip_none (w : World) (base : Nat) (S : Sto) (P : List (Int × List Int)) (b : Nat) (h : Ls w base S P b) (q : Int) (r : Rc) (hst : Stands P q r) (h0 : far (numR r.v r.f + 1) = 0) :
   Calls Tryz.prog 76 #[.pointer (some ⟨S.st, 0, none⟩), .agg (spC q r).toArray] w (TwoP w base S P b 0 0) := by
 have hn := ver_num hst.right.1
 have L1 := (((Lc.start h).alloc (spC q r) 91).alloc [.int .i64 0] 3).alloc [.int .i64 0] 35
 simp only [World.size_alloc] at L1
 obtain ⟨G4, hG4⟩ : ∃ G4, w.heap.size + 1 = G4 := ⟨_, rfl⟩
 obtain ⟨G5, hG5⟩ : ∃ G5, w.heap.size + 1 + 1 = G5 := ⟨_, rfl⟩
 rw [hG5, hG4] at L1
 have HG4 := hid hG4
 have HG5 := hid hG5
 clear hG4 hG5
 have HS := hid (show (Tryz.prog.info? 91).map (·.size) = some (spC q r).toArray.size by rw [Tryz.sizeSp, List.size_toArray, spC_len q hst.ok])
 have KN := hid (fun w1 => spNumber_any w1 q r hst.ok hst.right.1)
 have KS := hid (fun w1 => skipped_any w1 (numR r.v r.f + 1) (by omega) (by omega))
 rw [h0] at KS
 have R0 := hid (L1.row (k := w.heap.size) (C := spC q r) (t := 91) (by simp))
 have HL1 := hid L1
 generalize spC q r = Z at *
 generalize numR r.v r.f = I at *
 clear h hst h0 L1
 refine (callsIn_wide (n := 9)).1 ?_
 refine callsIn_of_wp_marks Tryz.func76 rfl trivial ?_ rfl
 refine wpIn_wide.2 ?_
 simp only [Tryz.ntmps76, List.size_toArray, List.length_cons, List.length_nil, Nat.reduceAdd, Nat.reduceSub, Array.replicate_succ, Array.replicate_zero, List.push_toArray, List.append_toArray, List.nil_append, List.cons_append]
 go_wp2_with (first | refine wpList_load_row_w (by rfl) 91 _ (by rfl) _ (by rfl) 91 _ _ _ R0.out Tryz.underlying91 rfl HS.out ?_)
 refine (KN.out _).mono ?_
 rintro e w2 ⟨rfl, hb2⟩
 have HL2 := hid (HL1.out.call hb2)
 clear hb2 HL1 R0
 go_wp2_with fail
 refine (KS.out _).mono ?_
 rintro e w3 ⟨rfl, hb3⟩
 have HL3 := hid (HL2.out.call hb3)
 clear hb3 HL2
 obtain ⟨k4, k5, k45⟩ : w.heap.size + 1 = G4 /\ w.heap.size + 1 + 1 = G5 /\ G4 ≠ G5 := ⟨HG4.out, HG5.out, by have := HG4.out; have := HG5.out; omega⟩
 rw [k5, k4]
 have c4 := HL3.out.cell (k := G4) (C := [.int .i64 0]) (t := 3) (j := 0) (by simp) rfl
 have c5 := HL3.out.cell (k := G5) (C := [.int .i64 0]) (t := 35) (j := 0) (by simp) rfl
 have f4 := HL3.out.fz (k := G4) (C := [.int .i64 0]) (t := 3) (by simp) 0
 have f5 := HL3.out.fz (k := G5) (C := [.int .i64 0]) (t := 35) (by simp) 0
 have HL4 := hid ((HL3.out.setC (k := G4) (C := [.int .i64 0]) (t := 3) (by simp) 0 (.int .i64 0) [(G5, [.int .i64 0], 35)] (by simp; exact fun z => k45 z.symm)).setC (k := G5) (C := [.int .i64 0]) (t := 35) (by simp) 0 (.int .i64 0) [(G4, [.int .i64 0], 3)] (by simp; exact k45))
 have K45 := hid k45
 clear HL3 k4 k5 k45
 have n45 := K45.out
 go_wp2_with fail
 generalize (w3.setCell ⟨G4, 0, none⟩ (.int .i64 0)).setCell ⟨G5, 0, none⟩ (.int .i64 0) = w4 at *
 have d4 := HL4.out.cell (k := G4) (C := [.int .i64 0]) (t := 3) (j := 0) (by simp) rfl
 have d5 := HL4.out.cell (k := G5) (C := [.int .i64 0]) (t := 35) (j := 0) (by simp) rfl
 refine ⟨.tuple #[.int .i64 0, .int .i64 0], results_ii Tryz.results76 _ _ G4 G5 _ _ rfl rfl ?_ ?_, S, rfl, HL4.out.ls, HL4.out.sp⟩
 · clear HL4 c4 c5 f4 f5 d5
   go_simp
 · clear HL4 c4 c5 f4 f5 d4
   go_simp
theorem way_ne {P : List (Int × List Int)} {t q : Int} {r : Rc} {Y : List Wy} (h : Way P t q r Y) : Y ≠ [] := by cases h <;> simp
theorem way_err {P : List (Int × List Int)} {t : Int} : ∀ {q : Int} {r : Rc} {Y : List Wy}, Way P t q r Y -> ∀ pre, pre <+: Y -> lastEr pre ≠ 0 -> pre = Y := by
 intro q r Y h
 induction h with
 | stop h =>
   intro pre hp he
   rcases pre with _ | ⟨x, pre⟩
   · exact absurd rfl he
   · obtain ⟨s, hs⟩ := hp
     have := congrArg List.length hs
     simp only [List.length_append, List.length_cons, List.length_nil] at this
     have h1 : pre = [] := List.length_eq_zero_iff.1 (by omega)
     have h2 : s = [] := List.length_eq_zero_iff.1 (by omega)
     subst h1; subst h2
     simpa using hs
 | bad h hf =>
   intro pre hp he
   obtain ⟨s, hs⟩ := hp
   rcases pre with _ | ⟨x, _ | ⟨y, pre⟩⟩
   · exact absurd rfl he
   · simp at hs
     rw [hs.1] at he
     exact absurd rfl he
   · have := congrArg List.length hs
     simp only [List.length_append, List.length_cons, List.length_nil] at this
     have h1 : pre = [] := List.length_eq_zero_iff.1 (by omega)
     have h2 : s = [] := List.length_eq_zero_iff.1 (by omega)
     subst h1; subst h2
     simpa using hs
 | @go q r x l h hf hl ih =>
   intro pre hp he
   obtain ⟨s, hs⟩ := hp
   rcases pre with _ | ⟨y, pre⟩
   · exact absurd rfl he
   · simp only [List.cons_append, List.cons.injEq] at hs
     rcases pre with _ | ⟨z, pre⟩
     · rw [hs.1] at he; exact absurd rfl he
     · have e : lastEr (y :: z :: pre) = lastEr (z :: pre) := by simp [lastEr, List.getLast?_cons_cons]
       rw [e] at he
       have := ih (z :: pre) ⟨s, hs.2⟩ he
       rw [this, hs.1]
theorem all_err {Y : List Wy} (h : ∀ x ∈ Y, x.2.2 = 0) : lastEr Y = 0 := by
 unfold lastEr
 cases hg : Y.getLast? with
 | none => rfl
 | some x => exact h x (List.mem_of_getLast? hg)
theorem Lc.own {w0 w : World} {base b : Nat} {S0 S : Sto} {P : List (Int × List Int)} (h : Lc w0 base S0 P b w S []) {k : Nat} (hk : w0.heap.size <= k /\ k ∉ S.fp) (j : Nat) (v : Value) : Lc w0 base S0 P b (w.setCell ⟨k, j, none⟩ v) S [] :=
 h.round ((Fr.refl [k] w).setCell (by simp) j v) (fun i hi => by simp at hi; rw [hi]; exact hk) (fun x q => by cases q)
theorem Lc.put {w0 w : World} {base b : Nat} {S0 S : Sto} {P : List (Int × List Int)} (h : Lc w0 base S0 P b w S []) {k : Nat} (hk : w0.heap.size <= k /\ k ∉ S.fp) (o : Obj) : Lc w0 base S0 P b (w.putObj k o) S [] :=
 h.round (fr_put k w o) (fun i hi => by simp at hi; rw [hi]; exact hk) (fun x q => by cases q)
theorem skip_way (w : World) (base : Nat) (S : Sto) (P : List (Int × List Int)) (b : Nat) (h : Ls w base S P b) (q : Int) (r : Rc) (hst : Stands P q r) (t : Int) (h0 : far (numR r.v r.f + 1) = t) (ht : 1 <= t) (Y : List Wy) (hY : Way P t q r Y) (hb : b + Y.length <= 1000000000000000000) :
   Calls Tryz.prog 76 #[.pointer (some ⟨S.st, 0, none⟩), .agg (spC q r).toArray] w (TwoP w base S P (b + Y.length) (if lastEr Y = 0 then lastPg Y else 0) (lastEr Y)) := by
 have hn := ver_num hst.right.1
 obtain ⟨X, hX⟩ : ∃ X : Int, (if lastEr Y = 0 then lastPg Y else 0) = X := ⟨_, rfl⟩
 rw [hX]
 have HX := hid hX
 clear hX
 obtain ⟨XE, hXE⟩ : ∃ X : Int, lastEr Y = X := ⟨_, rfl⟩
 rw [hXE]
 have HXE := hid hXE
 clear hXE
 have L1 := (((Lc.start h).alloc (spC q r) 91).alloc [.int .i64 0] 3).alloc [.int .i64 0] 35
 simp only [World.size_alloc] at L1
 obtain ⟨G4, hG4⟩ : ∃ G4, w.heap.size + 1 = G4 := ⟨_, rfl⟩
 obtain ⟨G5, hG5⟩ : ∃ G5, w.heap.size + 1 + 1 = G5 := ⟨_, rfl⟩
 rw [hG5, hG4] at L1
 have HG4 := hid hG4
 have HG5 := hid hG5
 clear hG4 hG5
 have HS := hid (show (Tryz.prog.info? 91).map (·.size) = some (spC q r).toArray.size by rw [Tryz.sizeSp, List.size_toArray, spC_len q hst.ok])
 have KN := hid (fun w1 => spNumber_any w1 q r hst.ok hst.right.1)
 have KS := hid (fun w1 => skipped_any w1 (numR r.v r.f + 1) (by omega) (by omega))
 have KW := hid (fun w1 => way_make w1 S.st q r t)
 rw [h0] at KS
 have ht1 : (t == 0) = false := by simp; omega
 have R0 := hid (L1.row (k := w.heap.size) (C := spC q r) (t := 91) (by simp))
 have HL1 := hid L1
 have HST := hid hst
 have HT := hid ht
 have HY := hid hY
 have HBB := hid hb
 generalize hZ : spC q r = Z at *
 have HZ := hid hZ
 generalize numR r.v r.f = I at *
 clear h hst h0 L1 hZ ht hY hb
 refine (callsIn_wide (n := 9)).1 ?_
 refine callsIn_of_wp_marks Tryz.func76 rfl trivial ?_ rfl
 refine wpIn_wide.2 ?_
 simp only [Tryz.ntmps76, List.size_toArray, List.length_cons, List.length_nil, Nat.reduceAdd, Nat.reduceSub, Array.replicate_succ, Array.replicate_zero, List.push_toArray, List.append_toArray, List.nil_append, List.cons_append]
 go_wp2_with (first | refine wpList_load_row_w (by rfl) 91 _ (by rfl) _ (by rfl) 91 _ _ _ R0.out Tryz.underlying91 rfl HS.out ?_)
 refine (KN.out _).mono ?_
 rintro e w2 ⟨rfl, hb2⟩
 have HL2 := hid (HL1.out.call hb2)
 clear hb2 HL1 R0
 go_wp2_with fail
 refine (KS.out _).mono ?_
 rintro e w3 ⟨rfl, hb3⟩
 have HL3 := hid (HL2.out.call hb3)
 clear hb3 HL2
 rw [HG5.out, HG4.out]
 go_upto_region 5 with fail
 have HL4 := hid (HL3.out.alloc [.int .i64 0] 3)
 have hg7 : G4 < w3.heap.size /\ G5 < w3.heap.size /\ w.heap.size < w3.heap.size := ⟨HL3.out.lt (C := [.int .i64 0]) (t := 3) (by simp), HL3.out.lt (C := [.int .i64 0]) (t := 35) (by simp), HL3.out.lt (C := Z) (t := 91) (by simp)⟩
 have HG7 := hid hg7
 have R4 := hid (HL4.out.row (k := w.heap.size) (C := Z) (t := 91) (by simp))
 clear hg7 HL3
 have E4 := hid (show (w3.alloc (.cells #[.int .i64 0] 3)).heap.size = w3.heap.size + 1 by simp)
 have HL4' := hid (show Lc w base S P b (w3.alloc (.cells #[.int .i64 0] 3)) S _ from HL4.out)
 clear HL4
 generalize w3.alloc (.cells #[.int .i64 0] 3) = w4 at *
 go_wp2_with (first | refine wpList_load_row_w (by rfl) 91 (.tmp 3) (by rfl) _ (by rfl) 91 _ _ _ R4.out Tryz.underlying91 rfl HS.out ?_)
 refine (KW.out _).mono ?_
 rintro e w5 ⟨rfl, hw5⟩
 have L5 := ((HL4'.out.alloc [.pointer (some ⟨S.st, 0, none⟩)] 27).alloc Z 91).alloc [.int .i64 t] 3
 simp only [World.size_alloc] at L5
 have hw6 : w5 = ((w4.alloc (.cells #[.pointer (some ⟨S.st, 0, none⟩)] 27)).alloc (.cells Z.toArray 91)).alloc (.cells #[.int .i64 t] 3) := hw5
 have sz5 : w5.heap.size = w4.heap.size + 1 + 1 + 1 := by rw [hw6]; simp
 have L6 : Lc w base S P b w5 S [(w4.heap.size + 1 + 1, [.int .i64 t], 3), (w4.heap.size + 1, Z, 91), (w4.heap.size, [.pointer (some ⟨S.st, 0, none⟩)], 27), (w3.heap.size, [.int .i64 0], 3), (G5, [.int .i64 0], 35), (G4, [.int .i64 0], 3), (w.heap.size, Z, 91)] := by rw [hw6]; exact L5
 clear L5 hw5 hw6 HL4' R4 KW
 obtain ⟨G7, hG7⟩ : ∃ G7, w3.heap.size = G7 := ⟨_, rfl⟩
 obtain ⟨g3, hg3⟩ : ∃ g3, w4.heap.size = g3 := ⟨_, rfl⟩
 have n1 : G4 < G7 /\ G5 < G7 /\ g3 = G7 + 1 /\ w5.heap.size = g3 + 1 + 1 + 1 /\ G4 ≠ G5 /\ w.heap.size < G4 /\ w.heap.size < G5 := by
   have a1 := HG7.out
   have a2 := E4.out
   have a3 := HG4.out
   have a4 := HG5.out
   refine ⟨?_, ?_, ?_, ?_, ?_, ?_, ?_⟩ <;> omega
 rw [hG7, hg3] at L6
 have NN := hid n1
 have HL6 := hid L6
 have HG7e := hid hG7
 have HG3e := hid hg3
 clear n1 L6 hG7 hg3 sz5 E4 HG7
 rw [HG7e.out, HG3e.out]
 go_wp2_with fail
 clear HG7e HG3e
 refine (wpIn_wide (n := 9)).1 ?_
 have rowI : ∀ {W : World} {k : Nat} {x : Int} {ty : TypeId}, W.heap[k]? = some (.cells #[.int .i64 x] ty (0, 0)) -> W.cell? ⟨k, 0, none⟩ = some (.int .i64 x) /\ W.frozen? ⟨k, 0, none⟩ = false := fun hr => ⟨by rw [cell_of_row _ _ _ _ _ _ hr]; rfl, frozen_of_row _ _ _ _ _ hr⟩
 have setI : ∀ {W : World} {k : Nat} {x : Int} {ty : TypeId} (y : Int), W.heap[k]? = some (.cells #[.int .i64 x] ty (0, 0)) -> (W.setCell ⟨k, 0, none⟩ (.int .i64 y)).heap[k]? = some (.cells #[.int .i64 y] ty (0, 0)) := fun y hr => heap_setCell_same _ _ _ _ _ _ hr
 refine range_iter (F := Fence.wide) (n := 9) rfl (by omega) (gf := 101) (lb := #[.pointer (some ⟨g3 + 1, 0, none⟩), .pointer (some ⟨g3 + 2, 0, none⟩), .pointer (some ⟨g3, 0, none⟩)]) rfl trivial (enters_of Tryz.func101 (by kernel_rfl) rfl) (encs := wyC) (own := [G4, G5, G7]) (Sq := fun xs => xs = Y) (Sp := fun pre => pre <+: Y) (N := Y.length)
   (Z := fun W' => ∃ S', Lc w base S P (b + Y.length) W' S' [] /\ S'.st = S.st /\ ∀ k ∈ w5.heap.size :: (w5.heap.size + 1) :: [G4, G5, G7], k ∉ S'.fp) ?own ?it ?z (fun x => rfl)
   (fun pre W => W.heap[G4]? = some (.cells #[.int .i64 0] 3 (0, 0)) /\ W.heap[G5]? = some (.cells #[.int .i64 0] 35 (0, 0)) /\ W.heap[G7]? = some (.cells #[.int .i64 (lastPg pre)] 3 (0, 0)) /\ ∀ x ∈ pre, x.2.2 = 0)
   (fun c pre W => c = .ret /\ W.heap[G4]? = some (.cells #[.int .i64 0] 3 (0, 0)) /\ W.heap[G5]? = some (.cells #[.int .i64 (lastEr pre)] 35 (0, 0)) /\ lastEr pre ≠ 0)
   ?rI ?rIx ?i0
   (fun x a' W => ∃ Bx, Bx ≠ w5.heap.size + 1 /\ Bx ≠ G4 /\ Bx ≠ G5 /\ Bx ≠ G7 /\ W.heap[Bx]? = some (.cells (spC x.1 (fxR x.2.1)).toArray 91 (0, 0)) /\ a' = { tmps := #[.pointer (some ⟨S.st, 0, none⟩), .agg Z.toArray, undef, .pointer (some ⟨w.heap.size, 0, none⟩), .pointer (some ⟨G4, 0, none⟩), .pointer (some ⟨G5, 0, none⟩), .int .i64 t, .pointer (some ⟨G7, 0, none⟩), .pointer (some ⟨Bx, 0, none⟩), .int .i64 x.2.2, .agg Z.toArray, .int .i64 I, .int .i64 (I + 1), .int .i64 t, .int .i64 t, .bool false, .pointer (some ⟨S.st, 0, none⟩), .agg Z.toArray, .int .i64 t, .func (.func 101) #[] #[.pointer (some ⟨g3 + 1, 0, none⟩), .pointer (some ⟨g3 + 2, 0, none⟩), .pointer (some ⟨g3, 0, none⟩)], .agg (spC x.1 (fxR x.2.1)).toArray, .int .i64 x.2.2, undef, undef, undef, undef, undef, undef], defers := [] }) ?ax ?assign ?body ?done ?stop
 case own =>
   intro k hk
   simp only [List.mem_cons, List.not_mem_nil, or_false] at hk
   have := NN.out
   rcases hk with rfl | rfl | rfl <;> omega
 case it =>
   intro o
   have hbel : Below w5.heap.size w5 ((w5.alloc (.deferred (some []))).alloc o) := ((Below.refl _ w5).alloc (Nat.le_refl _) _).alloc (by simp) _
   have L7 := HL6.out.call hbel
   have hN := NN.out
   refine way_iter 8 w base S P b _ S g3 (g3 + 1) (g3 + 2) w5.heap.size [G4, G5, G7] q r t Y ?_ HBB.out HST.out HT.out HY.out ?_
   · rw [HZ.out]
     exact L7.sub (fun x hx => by
       simp only [List.mem_cons, List.not_mem_nil, or_false] at hx ⊢
       rcases hx with rfl | rfl | rfl <;> simp)
   · intro k hk
     have hfp : ∀ i, w5.heap.size <= i -> i ∉ S.fp := fun i hi z => by have := (HL6.out.ls.sk.fpIn z).2; omega
     have r4 := (HL6.out.rows (G4, [.int .i64 0], 3) (by simp)).2.2
     have r5 := (HL6.out.rows (G5, [.int .i64 0], 35) (by simp)).2.2
     have r7 := (HL6.out.rows (G7, [.int .i64 0], 3) (by simp)).2.2
     simp only [List.mem_cons, List.not_mem_nil, or_false] at hk
     rcases hk with rfl | rfl | rfl | rfl | rfl
     · exact ⟨by simp; omega, hfp _ (Nat.le_refl _), by omega, by omega, by omega⟩
     · exact ⟨by simp, hfp _ (by omega), by omega, by omega, by omega⟩
     · exact ⟨by simp; omega, r4, by omega, by omega, by omega⟩
     · exact ⟨by simp; omega, r5, by omega, by omega, by omega⟩
     · exact ⟨by simp; omega, r7, by omega, by omega, by omega⟩
 case z =>
   rintro W o ⟨S', l9, s9, k9⟩
   exact ⟨S', l9.put ⟨by have := NN.out; omega, k9 _ (by simp)⟩ o, s9, k9⟩
 case rI =>
   rintro pre W W' ⟨a1, a2, a3, a4⟩ hk
   exact ⟨(hk G4 (by simp)).trans a1, (hk G5 (by simp)).trans a2, (hk G7 (by simp)).trans a3, a4⟩
 case rIx =>
   rintro c pre W W' ⟨a1, a2, a3, a4⟩ hk
   exact ⟨a1, (hk G4 (by simp)).trans a2, (hk G5 (by simp)).trans a3, a4⟩
 case i0 => exact ⟨HL6.out.row (k := G4) (C := [.int .i64 0]) (t := 3) (by simp), HL6.out.row (k := G5) (C := [.int .i64 0]) (t := 35) (by simp), HL6.out.row (k := G7) (C := [.int .i64 0]) (t := 3) (by simp), fun x hx => by cases hx⟩
 case ax =>
   rintro x a' W o ⟨Bx, b1, b2, b3, b4, b5, b6⟩
   exact ⟨Bx, b1, b2, b3, b4, (World.putObj_heap_other b1).trans b5, b6⟩
 case assign =>
   rintro l pre x W K hI hlt hK
   have hN := NN.out
   have hB := fun Y9 => below_new W (.cells Y9 91)
   have ef : ∀ T : Array Value, Array.foldl (fun (t : Array Value) (x : Tmp × Value) => match x with | (p, v) => t.setIfInBounds p v) T ((#[20, 21] : Array Tmp).zip (wyC x)) = (T.setIfInBounds 20 (.agg (spC x.1 (fxR x.2.1)).toArray)).setIfInBounds 21 (.int .i64 x.2.2) := fun T => by simp [wyC]
   rw [ef]
   show Code.wpIn (Fence.wide.inRound l) 7 Tryz.prog _ _ { tmps := #[.pointer (some ⟨S.st, 0, none⟩), .agg Z.toArray, undef, .pointer (some ⟨w.heap.size, 0, none⟩), .pointer (some ⟨G4, 0, none⟩), .pointer (some ⟨G5, 0, none⟩), .int .i64 t, .pointer (some ⟨G7, 0, none⟩), undef, undef, .agg Z.toArray, .int .i64 I, .int .i64 (I + 1), .int .i64 t, .int .i64 t, .bool false, .pointer (some ⟨S.st, 0, none⟩), .agg Z.toArray, .int .i64 t, .func (.func 101) #[] #[.pointer (some ⟨g3 + 1, 0, none⟩), .pointer (some ⟨g3 + 2, 0, none⟩), .pointer (some ⟨g3, 0, none⟩)], .agg (spC x.1 (fxR x.2.1)).toArray, .int .i64 x.2.2, undef, undef, undef, undef, undef, undef], defers := [] } W
   refine wpIn_seq ?_
   refine wpIn_region_lit ?_
   refine rl_val rfl (fun c z => by cases z) (allocSp _ _ _ rfl) ?_
   refine rl_skip rfl (fun c z => by cases z) (exec_store_row 91 _ _ rfl W.heap.size (spC x.1 (fxR x.2.1)).toArray rfl rfl 91 (spC 0 rc0).toArray (hnew W _) (by rw [Tryz.sizeSp, List.size_toArray, spC_len _ (fxR_is _)]) (by rw [List.size_toArray, List.size_toArray, spC_len _ (fxR_is _), spC_len _ rc0_ok]) (all_oneCell_toArray (spC_one _ _))) ?_
   refine wpListIn_nil ?_
   rw [setRow_alloc]
   show Code.wpIn _ _ _ _ _ _ _
   refine wpIn_region_lit ?_
   refine rl_val (v := .int .i64 x.2.2) rfl (fun c z => by cases z) (by rfl) ?_
   refine wpListIn_nil ?_
   refine hK _ _ (Fr.of_below (hB _)) ⟨((hB _).block _ (by omega)).trans hI.1, ((hB _).block _ (by omega)).trans hI.2.1, ((hB _).block _ (by omega)).trans hI.2.2.1, hI.2.2.2⟩ ⟨W.heap.size, by omega, by omega, by omega, by omega, hnew W _, rfl⟩
 case body =>
   rintro l pre x a' W ⟨i1, i2, i3, i4⟩ ⟨Bx, b1, b2, b3, b4, b5, rfl⟩ hlen
   have hN := NN.out
   obtain ⟨cc4, ff4⟩ := rowI i1
   obtain ⟨cc5, ff5⟩ := rowI i2
   obtain ⟨cc7, ff7⟩ := rowI i3
   have c8 : W.cell? ⟨Bx, 0, none⟩ = some (.int .i64 x.1) := by rw [cell_of_row _ _ _ _ _ _ b5]; rfl
   have EC : Hid (lastPg (pre ++ [x]) = x.1 /\ lastEr (pre ++ [x]) = x.2.2) := hid ⟨lastPg_snoc _ _, lastEr_snoc _ _⟩
   have I1 := hid i1
   have I2 := hid i2
   have I3 := hid i3
   have I4 := hid i4
   have N45 := hid hN.2.2.2.2.1
   have N47 := hid (show G7 ≠ G4 /\ G7 ≠ G5 by omega)
   clear hN i1 i2 i3 i4 b5 b1 b2 b3 b4
   generalize hXX : spC x.1 (fxR x.2.1) = XX at *
   clear hXX
   by_cases hx : x.2.2 = 0
   · have hx1 : (x.2.2 != 0) = false := by simpa using hx
     have HX0 : Hid (∀ y ∈ pre ++ [x], y.2.2 = 0) := hid (fun y hy => by
       rcases List.mem_append.1 hy with z | z
       · exact I4.out y z
       · rw [List.mem_singleton.1 z]; exact hx)
     clear hx
     generalize x.2.2 = xe at *
     generalize x.1 = xp at *
     gi_wp2
     refine ⟨(Fr.refl _ W).setCell (by simp) 0 _, ?_, ?_, ?_, ?_⟩
     · exact (heap_setCell_other W ⟨G7, 0, none⟩ G4 _ (fun z => N47.out.1 z.symm)).trans I1.out
     · exact (heap_setCell_other W ⟨G7, 0, none⟩ G5 _ (fun z => N47.out.2 z.symm)).trans I2.out
     · rw [EC.out.1]; exact setI _ I3.out
     · exact HX0.out
   · have hx1 : (x.2.2 != 0) = true := by simpa using hx
     have HX0 := hid hx
     have n45 := N45.out
     have n54 : G5 ≠ G4 := fun z => n45 z.symm
     clear hx
     generalize x.2.2 = xe at *
     generalize x.1 = xp at *
     gi_wp2
     refine ⟨((Fr.refl [G4, G5, G7] W).setCell (by simp) 0 _).setCell (by simp) 0 _, rfl, ?_, ?_, ?_⟩
     · exact (heap_setCell_other _ ⟨G5, 0, none⟩ G4 _ N45.out).trans (setI _ I1.out)
     · rw [EC.out.2]; exact setI _ ((heap_setCell_other W ⟨G4, 0, none⟩ G5 _ (fun z => N45.out z.symm)).trans I2.out)
     · rw [EC.out.2]; exact HX0.out
 case done =>
   rintro xs W hxs ⟨S9, l9, s9, k9⟩ hi hD
   rw [show xs = Y from hxs] at hi
   obtain ⟨i1, i2, i3, i4⟩ := hi
   have hN := NN.out
   have e0 := all_err i4
   have EXE : XE = 0 := by rw [<- HXE.out]; exact e0
   have EX : X = lastPg Y := by rw [<- HX.out, if_pos e0]
   obtain ⟨cc4, ff4⟩ := rowI i1
   obtain ⟨cc5, ff5⟩ := rowI i2
   obtain ⟨cc7, ff7⟩ := rowI i3
   have HEX := hid EX
   have HEXE := hid EXE
   have I1 := hid i1
   have I2 := hid i2
   have HD := hid hD
   have HE0 := hid e0
   have n45 := hN.2.2.2.2.1
   have n54 : G5 ≠ G4 := fun z => n45 z.symm
   clear i1 i2 i3 i4 EX EXE hxs hN hD e0
   generalize lastPg Y = V at *
   go_wp2_with fail
   have hN := NN.out
   have EX := HEX.out
   have EXE := HEXE.out
   have dD : ((W.setCell ⟨G4, 0, none⟩ (.int .i64 V)).setCell ⟨G5, 0, none⟩ (.int .i64 0)).heap[w5.heap.size]? = some (.deferred (some [])) := (heap_setCell_other _ ⟨G5, 0, none⟩ w5.heap.size _ (by show w5.heap.size ≠ G5; omega)).trans ((heap_setCell_other W ⟨G4, 0, none⟩ w5.heap.size _ (by show w5.heap.size ≠ G4; omega)).trans HD.out)
   have K4 := k9 G4 (by simp)
   have K5 := k9 G5 (by simp)
   have KD := k9 w5.heap.size (by simp)
   have LZ := hid ((((l9.own (k := G4) ⟨by omega, K4⟩ 0 (.int .i64 V)).own (k := G5) ⟨by omega, K5⟩ 0 (.int .i64 0)).put (k := w5.heap.size) ⟨by omega, KD⟩ (.deferred none)))
   have RR4 : (((W.setCell ⟨G4, 0, none⟩ (.int .i64 V)).setCell ⟨G5, 0, none⟩ (.int .i64 0)).putObj w5.heap.size (.deferred none)).heap[G4]? = some (.cells #[.int .i64 V] 3 (0, 0)) := (World.putObj_heap_other (by omega)).trans ((heap_setCell_other _ ⟨G5, 0, none⟩ G4 _ n45).trans (setI _ I1.out))
   have RR5 : (((W.setCell ⟨G4, 0, none⟩ (.int .i64 V)).setCell ⟨G5, 0, none⟩ (.int .i64 0)).putObj w5.heap.size (.deferred none)).heap[G5]? = some (.cells #[.int .i64 0] 35 (0, 0)) := (World.putObj_heap_other (by omega)).trans (setI _ ((heap_setCell_other W ⟨G4, 0, none⟩ G5 _ n54).trans I2.out))
   refine ⟨by simp, .inl ⟨_, _, rfl, run_takeDeferred dD, ?_⟩⟩
   generalize ((W.setCell ⟨G4, 0, none⟩ (.int .i64 V)).setCell ⟨G5, 0, none⟩ (.int .i64 0)).putObj w5.heap.size (.deferred none) = WF at *
   obtain ⟨d4, _⟩ := rowI RR4
   obtain ⟨d5, _⟩ := rowI RR5
   refine ⟨.tuple #[.int .i64 (V), .int .i64 (0)], results_ii Tryz.results76 _ _ G4 G5 _ _ rfl rfl ?_ ?_, S9, by rw [EX, EXE], LZ.out.ls, LZ.out.sp⟩
   · clear LZ RR4 RR5 d5 cc4 ff4 cc5 ff5 cc7 ff7 dD
     go_simp
   · clear LZ RR4 RR5 d4 cc4 ff4 cc5 ff5 cc7 ff7 dD
     go_simp
 case stop =>
   rintro c pre W hp ⟨S9, l9, s9, k9⟩ ⟨rfl, i1, i2, i3⟩ hD
   have hN := NN.out
   have e0 := way_err HY.out pre hp i3
   rw [e0] at i2 i3
   have EXE : XE = lastEr Y := by rw [<- HXE.out]
   have EX : X = 0 := by rw [<- HX.out, if_neg i3]
   have HEX := hid EX
   have HEXE := hid EXE
   have I1 := hid i1
   have I2 := hid i2
   have HD := hid hD
   clear i1 i2 i3 EX EXE hp hN hD e0
   generalize lastEr Y = V at *
   refine wpIn_wide.2 ?_
   go_wp2_with fail
   have hN := NN.out
   have EX := HEX.out
   have EXE := HEXE.out
   have dD : W.heap[w5.heap.size]? = some (.deferred (some [])) := HD.out
   have K4 := k9 G4 (by simp)
   have K5 := k9 G5 (by simp)
   have KD := k9 w5.heap.size (by simp)
   have LZ := hid ((l9.put (k := w5.heap.size) ⟨by omega, KD⟩ (.deferred none)))
   have RR4 : (W.putObj w5.heap.size (.deferred none)).heap[G4]? = some (.cells #[.int .i64 0] 3 (0, 0)) := (World.putObj_heap_other (by omega)).trans I1.out
   have RR5 : (W.putObj w5.heap.size (.deferred none)).heap[G5]? = some (.cells #[.int .i64 V] 35 (0, 0)) := (World.putObj_heap_other (by omega)).trans I2.out
   refine ⟨by simp, .inl ⟨_, _, rfl, run_takeDeferred dD, ?_⟩⟩
   generalize W.putObj w5.heap.size (.deferred none) = WF at *
   obtain ⟨d4, _⟩ := rowI RR4
   obtain ⟨d5, _⟩ := rowI RR5
   refine ⟨.tuple #[.int .i64 (0), .int .i64 (V)], results_ii Tryz.results76 _ _ G4 G5 _ _ rfl rfl ?_ ?_, S9, by rw [EX, EXE], LZ.out.ls, LZ.out.sp⟩
   · clear LZ RR4 RR5 d5 dD
     go_simp
   · clear LZ RR4 RR5 d4 dD
     go_simp
end Go.Proofs.YtbnghhgeoodphaaGreatDoor
namespace Go.Proofs.YtbnghhgeoodphaaGreatDoor
set_option maxRecDepth 100000
set_option maxHeartbeats 40000000
set_option linter.unusedVariables false
set_option linter.unusedSimpArgs false
open Go.RowKit
open Go.Proofs.YtbnghhgeoodphaaGreatDoor.Ca (Ct ct0 ctC argV AS)
attribute [local go_sem ↓] Go.wp_at_zero Go.wp_at_succ
inductive SkipIs (P : List (Int × List Int)) (q : Int) (r : Rc) : Nat -> Int -> Prop
 | none (h : far (numR r.v r.f + 1) = 0) : SkipIs P q r 0 0
 | way {Y : List Wy} (h : 1 <= far (numR r.v r.f + 1)) (hY : Way P (far (numR r.v r.f + 1)) q r Y) (he : lastEr Y = 0) : SkipIs P q r Y.length (lastPg Y)
theorem skip_is (w : World) (base : Nat) (S : Sto) (P : List (Int × List Int)) (b : Nat) (h : Ls w base S P b) (q : Int) (r : Rc) (hst : Stands P q r) (m : Nat) (s : Int) (hs : SkipIs P q r m s) (hb : b + m <= 1000000000000000000) :
   Calls Tryz.prog 76 #[.pointer (some ⟨S.st, 0, none⟩), .agg (spC q r).toArray] w (TwoP w base S P (b + m) s 0) := by
 cases hs with
 | none h0 => exact skip_none w base S P b h q r hst h0
 | way h1 hY he =>
   have := skip_way w base S P b h q r hst _ rfl h1 _ hY hb
   rw [he, if_pos rfl] at this
   exact this
def BehP (w : World) (base : Nat) (S : Sto) (P : List (Int × List Int)) (b : Nat) (y : Rc) (e : Ending) (w' : World) : Prop := ∃ S', e = .returned (.tuple #[.agg (rcC y).toArray, .int .i64 0]) /\ Ls w' base S' P b /\ Stp w S w' S'
theorem behind_first (w : World) (base : Nat) (S : Sto) (P : List (Int × List Int)) (b : Nat) (h : Ls w base S P b) (x : Rc) (ok : RcOk x) :
   Calls Tryz.prog 43 #[.pointer (some ⟨S.st, 0, none⟩), .int .i64 0, .agg (rcC x).toArray] w (BehP w base S P b { x with p := 0, s := 0 }) := by
 have L1 := ((Lc.start h).alloc (rcC x) 49).alloc (rcC rc0) 49
 simp only [World.size_alloc] at L1
 obtain ⟨G6, hG6⟩ : ∃ G6, w.heap.size + 1 = G6 := ⟨_, rfl⟩
 rw [hG6] at L1
 have HG6 := hid hG6
 have hne : w.heap.size ≠ G6 := by omega
 have AL := hid (fun (w : World) (ops : Array Oper) (rest : List Oper) (o : Oper) (a : Act) (Q : Exit -> Act -> World -> Prop) => @wpList_allocRc w ops rest o a Q)
 have okY : RcOk { x with p := 0, s := 0 } := ⟨ok.sm⟩
 have SZ := hid (show (Tryz.prog.info? 49).map (·.size) = some (rcC { x with p := 0, s := 0 }).toArray.size by rw [Tryz.sizeRc, List.size_toArray, rcC_len okY])
 have EQ := hid (show (rcC rc0).toArray.size = (rcC { x with p := 0, s := 0 }).toArray.size by rw [List.size_toArray, List.size_toArray, rcC_len okY, rcC_len rc0_ok])
 have OO := hid (all_oneCell_toArray (rcC_one { x with p := 0, s := 0 }))
 have eY := hid (show ((rcC x).set 2 (.int .i64 0)).set 3 (.int .i64 0) = rcC { x with p := 0, s := 0 } from rfl)
 have x2 := hid (show (rcC x)[2]? = some (.int .i64 x.p) from rfl)
 have x3 := hid (show (rcC x)[3]? = some (.int .i64 x.s) from rfl)
 unfold BehP
 generalize rcC { x with p := 0, s := 0 } = Y at *
 generalize rcC x = X at *
 generalize rcC rc0 = C at *
 generalize x.p = xp at *
 generalize x.s = xs at *
 have HL1 := hid L1
 have HNE := hid hne
 clear L1 h ok okY hne hG6
 go_enter Tryz.func43, Tryz.ntmps43
 go_upto_region 1 with (first | refine AL.out _ _ _ _ _ _ rfl rfl ?_)
 generalize (w.alloc (.cells X.toArray 49)).alloc (.cells C.toArray 49) = W1 at *
 rw [HG6.out]
 have hne := HNE.out
 have hne2 : G6 ≠ w.heap.size := fun z => hne z.symm
 have c2 := HL1.out.cell (k := w.heap.size) (C := X) (t := 49) (j := 2) (by simp) x2.out
 have c3 := HL1.out.cell (k := w.heap.size) (C := X) (t := 49) (j := 3) (by simp) x3.out
 have f2 := HL1.out.fz (k := w.heap.size) (C := X) (t := 49) (by simp) 2
 have f3 := HL1.out.fz (k := w.heap.size) (C := X) (t := 49) (by simp) 3
 have HL2 := hid ((HL1.out.setC (k := w.heap.size) (C := X) (t := 49) (by simp) 2 (.int .i64 0) [(G6, C, 49)] (by simp; exact hne2)).setC (k := w.heap.size) (C := X.set 2 (.int .i64 0)) (t := 49) (by simp) 3 (.int .i64 0) [(G6, C, 49)] (by simp; exact hne2))
 rw [eY.out] at HL2
 go_upto_region 3 with fail
 generalize (W1.setCell ⟨w.heap.size, 2, none⟩ (.int .i64 0)).setCell ⟨w.heap.size, 3, none⟩ (.int .i64 0) = W2 at *
 have r5 := HL2.out.row (k := w.heap.size) (C := Y) (t := 49) (by simp)
 have r6 := HL2.out.row (k := G6) (C := C) (t := 49) (by simp)
 go_wp2_with (first
   | refine wpList_load_row_w (by rfl) 49 (.tmp 5) (by rfl) _ (by rfl) 49 _ _ _ r5 Tryz.underlying49 rfl SZ.out ?_
   | refine wpList_store_row (by rfl) 49 (.tmp 6) (.tmp 15) (by rfl) G6 Y.toArray (by rfl) (by rfl) 49 C.toArray (by exact r6) SZ.out EQ.out OO.out ?_)
 have L5 := HL2.out.set (k := G6) (C := C) (t := 49) (by simp) Y [] (fun x q => by cases q)
 refine bodyPost_ret (v := .tuple #[.agg Y.toArray, .int .i64 0]) (results_c2 Tryz.results43 _ _ G6 49 _ _ _ rfl (L5.row List.mem_cons_self) Tryz.underlying49 rfl SZ.out) rfl ⟨_, rfl, L5.ls, L5.sp⟩
theorem behind_next (w : World) (base : Nat) (S : Sto) (P : List (Int × List Int)) (b : Nat) (h : Ls w base S P b) (x : Rc) (ok : RcOk x) (q : Int) (r : Rc) (hst : Stands P q r) (hv : r.v ≠ 1073741824) (m : Nat) (s : Int) (hs : SkipIs P q r m s) (hb : b + 1 + m <= 1000000000000000000) :
   Calls Tryz.prog 43 #[.pointer (some ⟨S.st, 0, none⟩), .int .i64 q, .agg (rcC x).toArray] w (BehP w base S P (b + 1 + m) ⟨r.v + 1, r.f, q, s, x.r, x.c, x.sm⟩) := by
 have L1 := ((Lc.start h).alloc (rcC x) 49).alloc (rcC rc0) 49
 simp only [World.size_alloc] at L1
 obtain ⟨G6, hG6⟩ : ∃ G6, w.heap.size + 1 = G6 := ⟨_, rfl⟩
 rw [hG6] at L1
 have HG6 := hid hG6
 have hne : w.heap.size ≠ G6 := by omega
 have AL := hid (fun (w : World) (ops : Array Oper) (rest : List Oper) (o : Oper) (a : Act) (Q : Exit -> Act -> World -> Prop) => @wpList_allocRc w ops rest o a Q)
 have AS2 := hid allocSp
 have LC0 := hid (spC_len 0 rc0_ok)
 have LQ := hid (spC_len q hst.ok)
 have OQ := hid (spC_one q r)
 have HSQ := hid (show (Tryz.prog.info? 91).map (·.size) = some (spC q r).toArray.size by rw [Tryz.sizeSp, List.size_toArray, spC_len q hst.ok])
 have q1 := hid (show (spC q r)[1]? = some (.int .i64 r.v) from rfl)
 have q2 := hid (show (spC q r)[2]? = some (.int .i64 r.f) from rfl)
 have okY : RcOk ⟨r.v + 1, r.f, q, s, x.r, x.c, x.sm⟩ := ⟨ok.sm⟩
 have SZ := hid (show (Tryz.prog.info? 49).map (·.size) = some (rcC ⟨r.v + 1, r.f, q, s, x.r, x.c, x.sm⟩).toArray.size by rw [Tryz.sizeRc, List.size_toArray, rcC_len okY])
 have EQ := hid (show (rcC rc0).toArray.size = (rcC ⟨r.v + 1, r.f, q, s, x.r, x.c, x.sm⟩).toArray.size by rw [List.size_toArray, List.size_toArray, rcC_len okY, rcC_len rc0_ok])
 have OO := hid (all_oneCell_toArray (rcC_one ⟨r.v + 1, r.f, q, s, x.r, x.c, x.sm⟩))
 have eY := hid (show ((((rcC x).set 0 (.int .i64 (r.v + 1))).set 1 (.int .i64 r.f)).set 2 (.int .i64 q)).set 3 (.int .i64 s) = rcC ⟨r.v + 1, r.f, q, s, x.r, x.c, x.sm⟩ from rfl)
 have x0 := hid (show (rcC x)[0]? = some (.int .i64 x.v) from rfl)
 have x1 := hid (show (rcC x)[1]? = some (.int .i64 x.f) from rfl)
 have x2 := hid (show ((((rcC x).set 0 (.int .i64 (r.v + 1))).set 1 (.int .i64 r.f)))[2]? = some (.int .i64 x.p) from rfl)
 have x3 := hid (show ((((rcC x).set 0 (.int .i64 (r.v + 1))).set 1 (.int .i64 r.f)))[3]? = some (.int .i64 x.s) from rfl)
 have hq0 : (q == 0) = false := by have := hst.lo; simp; omega
 have hv1 : (r.v == 1073741824) = false := by simpa using hv
 have hrv : 0 <= r.v /\ r.v <= 1073741824 := by have := hst.right.1; exact ⟨by have := this.2.2.1; omega, this.2.2.2⟩
 have KL := hid (fun (w1 : World) (S1 : Sto) (hl : Ls w1 base S1 P b) => look_any w1 base S1 P b hl (by omega) q ⟨hst.lo, hst.hi⟩)
 have EV := hid (show lookS P q = spC q r by unfold lookS; rw [hst.lk])
 have EE := hid (show lookE P q = 0 by unfold lookE; rw [hst.lk])
 have KS := hid (fun (w1 : World) (S1 : Sto) (hl : Ls w1 base S1 P (b + 1)) => skip_is w1 base S1 P (b + 1) hl q r hst m s hs hb)
 unfold BehP
 generalize rcC ⟨r.v + 1, r.f, q, s, x.r, x.c, x.sm⟩ = Y at *
 generalize rcC x = X at *
 generalize rcC rc0 = C at *
 generalize spC q r = Z at *
 generalize spC 0 rc0 = Z0 at *
 generalize x.p = xp at *
 generalize x.s = xs at *
 generalize x.v = xv at *
 generalize x.f = xf at *
 generalize r.v = rv at *
 generalize r.f = rf at *
 have HL1 := hid L1
 have HNE := hid hne
 obtain ⟨hr1, hr2⟩ := hrv
 clear L1 h ok okY hne hG6 hv hst hs
 go_enter Tryz.func43, Tryz.ntmps43
 go_upto_region 1 with (first | refine AL.out _ _ _ _ _ _ rfl rfl ?_)
 generalize (w.alloc (.cells X.toArray 49)).alloc (.cells C.toArray 49) = W1 at *
 rw [HG6.out]
 go_wp2_with fail
 refine (KL.out W1 S HL1.out.ls).mono ?_
 rintro e W2 ⟨S2, rfl, hl2, hs2⟩
 have HL2 := hid (HL1.out.store hl2 hs2)
 have ST2 := hid (show S2.st = S.st from hs2.st)
 clear hl2 hs2 HL1 KL
 rw [EV.out, EE.out]
 go_wp2_with (first
   | (refine wpList_new AS2.out LC0.out Tryz.sizeSp rfl rfl rfl _ _ rfl rfl Z rfl rfl LQ.out OQ.out ?_; refine Hid.out ?_))
 refine hid ?_
 have HL3 := hid (HL2.out.alloc Z 91)
 have hg8 : W2.heap.size ≠ w.heap.size /\ W2.heap.size ≠ G6 := ⟨Nat.ne_of_gt (HL2.out.lt (C := X) (t := 49) (by simp)), Nat.ne_of_gt (HL2.out.lt (C := C) (t := 49) (by simp))⟩
 generalize W2.heap.size = G8 at *
 have HG8 := hid hg8
 have HL3' := hid (show Lc w base S P (b + 1) (W2.alloc (.cells Z.toArray 91)) S2 _ from HL3.out)
 clear HL3 HL2 hg8
 generalize W2.alloc (.cells Z.toArray 91) = W3 at *
 have c81 := HL3'.out.cell (k := G8) (C := Z) (t := 91) (j := 1) (by simp) q1.out
 have r8 := hid (HL3'.out.row (k := G8) (C := Z) (t := 91) (by simp))
 go_wp2_with (first | refine wpList_load_row_w (by rfl) 91 (.tmp 8) (by rfl) _ (by rfl) 91 _ _ _ r8.out Tryz.underlying91 rfl HSQ.out ?_)
 rw [<- ST2.out]
 refine (KS.out W3 S2 HL3'.out.ls).mono ?_
 rintro e W4 ⟨S4, rfl, hl4, hs4⟩
 have HL4 := hid (HL3'.out.store hl4 hs4)
 rw [ST2.out]
 clear hl4 hs4 KS HL3' c81 r8
 go_upto_region 12 with fail
 have hne := HNE.out
 have hne2 : G6 ≠ w.heap.size := fun z => hne z.symm
 have hg81 := HG8.out.1
 have hg82 : w.heap.size ≠ G8 := fun z => hg81 z.symm
 have c81 := HL4.out.cell (k := G8) (C := Z) (t := 91) (j := 1) (by simp) q1.out
 have c82 := HL4.out.cell (k := G8) (C := Z) (t := 91) (j := 2) (by simp) q2.out
 have c0 := HL4.out.cell (k := w.heap.size) (C := X) (t := 49) (j := 0) (by simp) x0.out
 have c1 := HL4.out.cell (k := w.heap.size) (C := X) (t := 49) (j := 1) (by simp) x1.out
 have f0 := HL4.out.fz (k := w.heap.size) (C := X) (t := 49) (by simp) 0
 have f1 := HL4.out.fz (k := w.heap.size) (C := X) (t := 49) (by simp) 1
 have HL5 := hid ((HL4.out.setC (k := w.heap.size) (C := X) (t := 49) (by simp) 0 (.int .i64 (rv + 1)) [(G6, C, 49)] (by simp; exact hne2)).setC (k := w.heap.size) (C := X.set 0 (.int .i64 (rv + 1))) (t := 49) (by simp) 1 (.int .i64 rf) [(G6, C, 49)] (by simp; exact hne2)).drew
 go_region
 generalize ((W4.setCell ⟨w.heap.size, 0, none⟩ (.int .i64 (rv + 1))).setCell ⟨w.heap.size, 1, none⟩ (.int .i64 rf)).drew = W5 at *
 clear c81 c82 c0 c1 f0 f1 HL4
 have c2 := HL5.out.cell (k := w.heap.size) (C := (X.set 0 (.int .i64 (rv + 1))).set 1 (.int .i64 rf)) (t := 49) (j := 2) (by simp) x2.out
 have c3 := HL5.out.cell (k := w.heap.size) (C := (X.set 0 (.int .i64 (rv + 1))).set 1 (.int .i64 rf)) (t := 49) (j := 3) (by simp) x3.out
 have f2 := HL5.out.fz (k := w.heap.size) (C := (X.set 0 (.int .i64 (rv + 1))).set 1 (.int .i64 rf)) (t := 49) (by simp) 2
 have f3 := HL5.out.fz (k := w.heap.size) (C := (X.set 0 (.int .i64 (rv + 1))).set 1 (.int .i64 rf)) (t := 49) (by simp) 3
 have HL6 := hid ((HL5.out.setC (k := w.heap.size) (t := 49) (C := (X.set 0 (.int .i64 (rv + 1))).set 1 (.int .i64 rf)) (by simp) 2 (.int .i64 q) [(G6, C, 49)] (by simp; exact hne2)).setC (k := w.heap.size) (t := 49) (C := ((X.set 0 (.int .i64 (rv + 1))).set 1 (.int .i64 rf)).set 2 (.int .i64 q)) (by simp) 3 (.int .i64 s) [(G6, C, 49)] (by simp; exact hne2))
 rw [eY.out] at HL6
 clear HL5
 go_upto_region 14 with fail
 generalize (W5.setCell ⟨w.heap.size, 2, none⟩ (.int .i64 q)).setCell ⟨w.heap.size, 3, none⟩ (.int .i64 s) = W6 at *
 have r5 := HL6.out.row (k := w.heap.size) (C := Y) (t := 49) (by simp)
 have r6 := HL6.out.row (k := G6) (C := C) (t := 49) (by simp)
 go_wp2_with (first
   | refine wpList_load_row_w (by rfl) 49 (.tmp 5) (by rfl) _ (by rfl) 49 _ _ _ r5 Tryz.underlying49 rfl SZ.out ?_
   | refine wpList_store_row (by rfl) 49 (.tmp 6) (.tmp 54) (by rfl) G6 Y.toArray (by rfl) (by rfl) 49 C.toArray (by exact r6) SZ.out EQ.out OO.out ?_)
 have L9 := HL6.out.set (k := G6) (C := C) (t := 49) (by simp) Y [] (fun x q => by cases q)
 refine bodyPost_ret (v := .tuple #[.agg Y.toArray, .int .i64 0]) (results_c2 Tryz.results43 _ _ G6 49 _ _ _ rfl (L9.row List.mem_cons_self) Tryz.underlying49 rfl SZ.out) rfl ⟨_, rfl, L9.ls, L9.sp⟩
theorem four_byts (x : Int) : ∀ y ∈ four x, 0 <= y /\ y < 256 := by
 intro y hy
 simp only [four, List.mem_cons, List.not_mem_nil, or_false] at hy
 rcases hy with rfl | rfl | rfl | rfl <;> omega
theorem loadR_byts {y : Rc} (h : Byts y.sm) : Byts (loadR y) := by
 intro v hv
 simp only [loadR, List.mem_append] at hv
 rcases hv with h | h | h | h | h | h | h'
 · exact four_byts _ v h
 · exact four_byts _ v h
 · exact four_byts _ v h
 · exact four_byts _ v h
 · exact four_byts _ v h
 · exact four_byts _ v h
 · exact h v h'
def AddP (w : World) (base : Nat) (S : Sto) (P : List (Int × List Int)) (b : Nat) (y : Rc) (e : Ending) (w' : World) : Prop := ∃ S', e = .returned (.tuple #[.int .i64 (2 + P.length : Nat), .int .i64 0]) /\ Ls w' base S' (P ++ [(3, loadR y)]) b /\ Stp w S w' S'
theorem add_ok (w : World) (base : Nat) (S : Sto) (P : List (Int × List Int)) (b b2 : Nat) (h : Ls w base S P b) (x : Rc) (ok : RcOk x) (q : Int) (hq : q = 0 \/ (2 <= q /\ q < (2 + P.length : Nat))) (hr : x.r = 0 \/ (2 <= x.r /\ x.r < (2 + P.length : Nat))) (hc : CntR x) (y : Rc) (oky : RcOk y) (hy : RightR y) (h8 : Byts y.sm) (hnp : 2 + P.length < S.D.np) (hb : b2 <= 1000000000000000000)
   (KB : ∀ (w1 : World) (S1 : Sto), Ls w1 base S1 P b -> S1.st = S.st -> Calls Tryz.prog 43 #[.pointer (some ⟨S1.st, 0, none⟩), .int .i64 q, .agg (rcC x).toArray] w1 (BehP w1 base S1 P b2 y)) :
   Calls Tryz.prog 17 #[.pointer (some ⟨S.st, 0, none⟩), .int .i64 q, .agg (rcC x).toArray] w (AddP w base S P (b2 + 1) y) := by
 have L1 := (Lc.start h).alloc (rcC x) 49
 have KR := hid (h.ready q hq)
 have KP := hid (fun (w1 : World) (hb : Below w.heap.size w w1) => pageOrNone_any w1 S.st (2 + P.length : Nat) x.r (h.next.later hb))
 rw [decide_eq_true hr] at KP
 have KC := hid (fun w1 => countFits_any w1 x ok)
 rw [decide_eq_true hc] at KC
 have KBB := hid (fun (w1 : World) (S1 : Sto) (hl : Ls w1 base S1 P b) (e : S1.st = S.st) => show Calls Tryz.prog 43 #[.pointer (some ⟨S1.st, 0, none⟩), .int .i64 q, .agg (rcC x).toArray] w1 (fun e w' => ∃ S', e = .returned (.tuple #[.agg (rcC y).toArray, .int .i64 0]) /\ Ls w' base S' P b2 /\ Stp w1 S1 w' S') from KB w1 S1 hl e)
 have KE := hid (fun w1 => iencode_yes w1 y oky hy)
 have LL := hid (loadR_len oky)
 have L8 := hid (loadR_byts h8)
 have HNP := hid hnp
 have x4 := hid (show (rcC x)[4]? = some (.int .i64 x.r) from rfl)
 have SX := hid (show (Tryz.prog.info? 49).map (·.size) = some (rcC x).toArray.size by rw [Tryz.sizeRc, List.size_toArray, rcC_len ok])
 have SY := hid (show (Tryz.prog.info? 49).map (·.size) = some (rcC y).toArray.size by rw [Tryz.sizeRc, List.size_toArray, rcC_len oky])
 have ARc := hid allocRc
 have LRc0 := hid (rcC_len rc0_ok)
 have LY := hid (rcC_len oky)
 have OY := hid (rcC_one y)
 unfold AddP
 generalize rcC y = Y at *
 generalize rcC x = X at *
 generalize loadR y = LD at *
 generalize rcC rc0 = C at *
 generalize x.r = xr at *
 have HL1 := hid L1
 have HB0 := hid (below_new w (.cells X.toArray 49))
 have HBB := hid hb
 clear L1 h ok oky hq hr hc hy h8 hnp hb KB
 go_enter Tryz.func17, Tryz.ntmps17
 go_wp2_with fail
 generalize w.alloc (.cells X.toArray 49) = W1 at *
 refine (KR.out W1 HB0.out).mono ?_
 rintro e W2 ⟨rfl, hb2⟩
 have HL2 := hid (HL1.out.call hb2)
 have HB2 := hid (HB0.out.trans (hb2.mono HB0.out.size))
 clear hb2 HL1 HB0 KR
 have c4 := HL2.out.cell (k := w.heap.size) (C := X) (t := 49) (j := 4) (by simp) x4.out
 go_wp2_with fail
 refine (KP.out W2 HB2.out).mono ?_
 rintro e W3 ⟨rfl, hb3⟩
 have HL3 := hid (HL2.out.call hb3)
 clear hb3 HL2 HB2 KP c4
 have r3 := hid (HL3.out.row (k := w.heap.size) (C := X) (t := 49) (by simp))
 go_wp2_with (first | refine wpList_load_row_w (by rfl) 49 (.tmp 5) (by rfl) _ (by rfl) 49 _ _ _ r3.out Tryz.underlying49 rfl SX.out ?_)
 refine (KC.out W3).mono ?_
 rintro e W4 ⟨rfl, hb4⟩
 have HL4 := hid (HL3.out.call hb4)
 clear hb4 HL3 KC r3
 have r4 := hid (HL4.out.row (k := w.heap.size) (C := X) (t := 49) (by simp))
 go_wp2_with (first | refine wpList_load_row_w (by rfl) 49 (.tmp 5) (by rfl) _ (by rfl) 49 _ _ _ r4.out Tryz.underlying49 rfl SX.out ?_)
 refine (KBB.out W4 S HL4.out.ls rfl).mono ?_
 rintro e W5 ⟨S5, rfl, hl5, hs5⟩
 have HL5 := hid (HL4.out.store hl5 hs5)
 have ST5 := hid (show S5.st = S.st from hs5.st)
 have HN5 := hid (show S5.D.np = S.D.np by rw [hs5.D]; rfl)
 clear hl5 hs5 HL4 KBB r4
 go_wp2_with (first
   | (refine wpList_new ARc.out LRc0.out Tryz.sizeRc rfl rfl rfl _ _ rfl rfl Y rfl rfl LY.out OY.out ?_; refine Hid.out ?_))
 refine hid ?_
 have HL6 := hid (HL5.out.alloc Y 49)
 have hg9 : W5.heap.size ≠ w.heap.size := Nat.ne_of_gt (HL5.out.lt (C := X) (t := 49) (by simp))
 generalize W5.heap.size = G9 at *
 have HL6' := hid (show Lc w base S P b2 (W5.alloc (.cells Y.toArray 49)) S5 _ from HL6.out)
 clear HL5 HL6 hg9
 generalize W5.alloc (.cells Y.toArray 49) = W6 at *
 have r6 := hid (HL6'.out.row (k := G9) (C := Y) (t := 49) (by simp))
 go_wp2_with (first | refine wpList_load_row_w (by rfl) 49 (.tmp 9) (by rfl) _ (by rfl) 49 _ _ _ r6.out Tryz.underlying49 rfl SY.out ?_)
 refine (KE.out W6).mono ?_
 rintro e W7 ⟨v7, rfl, hO7, hb7⟩
 obtain ⟨s7, c7, rfl, hs7, hn7⟩ := hO7.form
 have HL7 := hid (HL6'.out.call hb7)
 have KS := hid (HL7.out.ls.stage HBB.out (by rw [HN5.out]; exact HNP.out) 3 (by omega) LD L8.out (by rw [LL.out]; omega) s7 c7 hs7 hn7)
 rw [ST5.out] at KS
 clear hO7 hb7 hs7 hn7 HL6' KE r6
 go_wp2_with fail
 refine KS.out.mono ?_
 rintro e W8 ⟨S8, rfl, hl8, hs8⟩
 have HL8 := hid (HL7.out.store hl8 hs8)
 clear hl8 hs8 HL7 KS
 go_wp2
 go_ret2
 exact ⟨S8, rfl, HL8.out.ls, HL8.out.sp⟩
end Go.Proofs.YtbnghhgeoodphaaGreatDoor
