import Derived.Test.YtjhocjjecfdphaaGreatDoorQ13
namespace Go.Proofs.YtjhocjjecfdphaaGreatDoor
set_option linter.unusedVariables false
set_option linter.unusedSimpArgs false
set_option maxRecDepth 100000
set_option maxHeartbeats 4000000
section
open Go.RowKit
attribute [local go_sem ↓] Go.wp_at_zero Go.wp_at_succ
def fcells (p : Nat) (s : Sup) (nx ep : Int) : Array Value := #[.pointer (some ⟨p, 0, none⟩), .int .i64 s.wd, .int .i64 s.ge, .int .i64 s.ma, .int .i64 s.hd, .int .i64 s.pg, .int .i64 nx, .int .i64 ep]
def FK (w : World) (g p : Nat) (s : Sup) (nx ep : Int) : Prop := w.heap[g]? = some (.cells (fcells p s nx ep) 114 (0, 0))
theorem FK.below {w w1 : World} {g p : Nat} {s : Sup} {nx ep : Int} (h : FK w g p s nx ep) (hb : Below w.heap.size w w1) : FK w1 g p s nx ep := (hb.block g (hlt_ h)).trans h
theorem FK.not {w : World} {g p : Nat} {s : Sup} {nx ep : Int} (h : FK w g p s nx ep) {base : Nat} {F : List Nat} {q : Nat} {D : DS} (hd : DA w base F q D) : g ∉ F := hd.not_in h (by decide) (by decide) (by decide)
theorem FK.other {w w1 : World} {g p : Nat} {s : Sup} {nx ep : Int} (h : FK w g p s nx ep) {base : Nat} {F : List Nat} {q : Nat} {D : DS} (hd : DA w base F q D) (hf : Fr F w w1) : FK w1 g p s nx ep := hf.keep h (h.not hd)
theorem FK.cell {w : World} {g p : Nat} {s : Sup} {nx ep : Int} (h : FK w g p s nx ep) (j : Nat) : w.cell? ⟨g, j, none⟩ = (fcells p s nx ep)[j]? := cell_of_row _ _ _ _ _ _ h
theorem cell_sup4 {w : World} {b : Nat} {s : Sup} {t : TypeId} (h : w.heap[b]? = some (.cells (supC s) t (0, 0))) : w.cell? ⟨b, 4, none⟩ = some (.int .i64 s.pg) := by simp [World.cell?, h, supC]
theorem cell_sup2 {w : World} {b : Nat} {s : Sup} {t : TypeId} (h : w.heap[b]? = some (.cells (supC s) t (0, 0))) : w.cell? ⟨b, 2, none⟩ = some (.int .i64 s.ma) := by simp [World.cell?, h, supC]
theorem DA.drew {w : World} {base : Nat} {F : List Nat} {p : Nat} {D : DS} (h : DA w base F p D) : DA w.drew base F p D := h.of_heap fun _ _ => rfl
theorem Claim_same (w : World) (base : Nat) (F : List Nat) (p : Nat) (D : DS) (h : DA w base F p D) (hep : D.epoch < 4000000000000000000) :
   Calls Tryz.prog 57 #[.pointer (some ⟨p, 0, none⟩)] w fun e w' => e = .returned (.int .i64 (D.epoch + 1)) ∧ DA w' base F p { D with epoch := D.epoch + 1 } ∧ Fr F w w' := by
 obtain ⟨P, rfl, rfl, hk, hok⟩ := h
 refine (Claim_in w base P D hk ⟨hok.epoch.1, hep⟩).mono ?_
 rintro e w' ⟨rfl, h1, h2⟩
 exact ⟨rfl, ⟨P, rfl, rfl, h1, ⟨hok.n, hok.bts, hok.ops, hok.reads, hok.writes, hok.syncs, by show 0 ≤ D.epoch + 1 ∧ D.epoch + 1 ≤ _; have := hok.epoch; omega, hok.armed⟩⟩, h2⟩
theorem build_file (p : Nat) (s : Sup) (nx ep : Int) (w : World) :
   (Instr.build 114 #[(0, .pointer (some ⟨p, 0, none⟩)), (1, .agg (supC s)), (2, .int .i64 nx), (3, .int .i64 ep)]).run Tryz.prog w = .ok (.agg (fcells p s nx ep)) w := by
 kernel_rfl
theorem yields_build_file {ops : Array Oper} {S : World → Prop} {o : Oper} {a : Act} (hw : Region.wanted o (yielded ops a.tmps) = true) (x y z u : Operand) (ho : o.op = .build 114 #[(0, x), (1, y), (2, z), (3, u)])
   (p : Nat) (s : Sup) (nx ep : Int) (hx : a.eval x = .pointer (some ⟨p, 0, none⟩)) (hy : a.eval y = .agg (supC s)) (hz : a.eval z = .int .i64 nx) (hu : a.eval u = .int .i64 ep) :
   YieldsIf Tryz.prog ops S o (.agg (fcells p s nx ep)) a :=
 .inl ⟨hw, fun w _ => by
   unfold execOp
   simp only [ho, List.map_toArray, List.map_cons, List.map_nil, hx, hy, hz, hu, Sem.run_bind, build_file, Result.andThen_ok, Sem.run_pure]⟩
theorem box_file (p : Nat) (s : Sup) (nx ep : Int) (w : World) :
   (Instr.box 114 (.agg (fcells p s nx ep))).run Tryz.prog w = .ok (.pointer (some ⟨w.heap.size, 0, none⟩)) (w.alloc (.cells (fcells p s nx ep) 114)) := by
 kernel_rfl
theorem step_box_file {w : World} {ops : Array Oper} {o : Oper} {a : Act} {K : Act → World → Prop} {Q : Exit → Act → World → Prop} {E : Prop} (hw : Region.wanted o (yielded ops a.tmps) = true) (x : Operand) (ho : o.op = .box 114 x)
   (p : Nat) (s : Sup) (nx ep : Int) (hx : a.eval x = .agg (fcells p s nx ep)) (h : K (a.put o.dst (.pointer (some ⟨w.heap.size, 0, none⟩))) (w.alloc (.cells (fcells p s nx ep) 114))) :
   if Region.wanted o (yielded ops a.tmps) = true then Oper.wp Tryz.prog o a w K Q else E := by
 rw [if_pos hw]
 unfold Oper.wp execOp
 simp only [ho, hx, Sem.run_bind, box_file, Result.andThen_ok, Sem.run_pure]
 exact h
def liveF (D : DS) (ep : Int) : Int := if D.epoch ≠ ep then 3 else if D.power = true then 0 else 2
theorem Live_any (w : World) (base : Nat) (F : List Nat) (p : Nat) (D : DS) (h : DA w base F p D) (g : Nat) (s : Sup) (nx ep : Int) (hf : FK w g p s nx ep) :
   Calls Tryz.prog 58 #[.pointer (some ⟨g, 0, none⟩)] w fun e w' => e = .returned (.int .i64 (liveF D ep)) ∧ Below w.heap.size w w' := by
 have HD := hid h
 have hgl : g < w.heap.size := hlt_ hf
 have c0 := hid (show w.cell? ⟨g, 0, none⟩ = some (.pointer (some ⟨p, 0, none⟩)) from hf.cell 0)
 have c7 := hid (show w.cell? ⟨g, 7, none⟩ = some (.int .i64 ep) from hf.cell 7)
 have HPW := hid (fun (w1 : World) (hb : Below w.heap.size w w1) => Power_any w1 base F p D (h.below hb))
 have HC0 := hid (fun (w1 : World) (hb : Below w.heap.size w w1) => (hb.cell (p := ⟨g, 0, none⟩) hgl).trans c0.out)
 clear h hf
 by_cases he : D.epoch = ep
 · have HL := hid (show liveF D ep = if D.power = true then 0 else 2 by unfold liveF; rw [if_neg (fun q => q he)])
   have he : (D.epoch != ep) = false := by simpa using he
   go_enter Tryz.func58, Tryz.ntmps58
   go_wp2
   refine rgA (fun w' => Below w.heap.size w w') (Below.refl _ _).drew (fun hq0 => ?_)
   refine tkA 0 (.pointer (some ⟨g, 0, none⟩)) rfl hq0 ?_
   go_frame
   refine tkA 5 (.pointer (some ⟨g, 0, none⟩)) rfl hq0 ?_
   go_frame
   refine tkA 1 (.pointer (some ⟨g, 0, none⟩)) rfl hq0 ?_
   go_frame
   refine tkA 6 (.pointer (some ⟨g, 0, none⟩)) rfl hq0 ?_
   go_frame
   refine tkA 2 (.pointer (some ⟨g, 0, none⟩)) rfl hq0 ?_
   go_frame
   refine tkA 7 (.pointer (some ⟨g, 7, none⟩)) rfl hq0 ?_
   go_frame
   refine tqA 3 (.pointer (some ⟨p, 0, none⟩)) rfl (yA (by intro w hS; have hc := (hS.cell (p := ⟨g, 0, none⟩) hgl).trans c0.out; go_simp)) hq0 ?_
   go_frame
   refine tqA 8 (.int .i64 ep) rfl (yA (by intro w hS; have hc := (hS.cell (p := ⟨g, 7, none⟩) hgl).trans c7.out; go_simp)) hq0 ?_
   go_frame
   refine rdA 4 rfl (fun K hK => ?_)
   go_simp
   go_at_call 68
   refine (Epoch_any _ base F p D (HD.out.below hq0)).mono ?_
   rintro e w4 ⟨rfl, rfl⟩
   go_wp2_with fail
   refine hK.out _ _ (hq0) ?_
   clear hK K hq0
   intro hq0
   try go_frame
   refine tqA 9 (.bool false) rfl (yA (by intro w hS; (have he2 := he; go_simp))) hq0 ?_
   go_frame
   refine wdA ?_
   have c02 := HC0.out _ hq0
   go_wp2_with fail
   refine (HPW.out _ hq0).mono ?_
   rintro e w5 ⟨rfl, rfl⟩
   cases hp : D.power
   · rw [hp] at HL
     go_wp2
     go_ret
     exact ⟨by rw [HL.out]; rfl, hq0⟩
   · rw [hp] at HL
     go_wp2
     go_ret
     exact ⟨by rw [HL.out]; rfl, hq0⟩
 · have HL := hid (show liveF D ep = 3 by unfold liveF; rw [if_pos he])
   have he : (D.epoch != ep) = true := by simpa using he
   go_enter Tryz.func58, Tryz.ntmps58
   go_wp2
   refine rgA (fun w' => Below w.heap.size w w') (Below.refl _ _).drew (fun hq0 => ?_)
   refine tkA 0 (.pointer (some ⟨g, 0, none⟩)) rfl hq0 ?_
   go_frame
   refine tkA 5 (.pointer (some ⟨g, 0, none⟩)) rfl hq0 ?_
   go_frame
   refine tkA 1 (.pointer (some ⟨g, 0, none⟩)) rfl hq0 ?_
   go_frame
   refine tkA 6 (.pointer (some ⟨g, 0, none⟩)) rfl hq0 ?_
   go_frame
   refine tkA 2 (.pointer (some ⟨g, 0, none⟩)) rfl hq0 ?_
   go_frame
   refine tkA 7 (.pointer (some ⟨g, 7, none⟩)) rfl hq0 ?_
   go_frame
   refine tqA 3 (.pointer (some ⟨p, 0, none⟩)) rfl (yA (by intro w hS; have hc := (hS.cell (p := ⟨g, 0, none⟩) hgl).trans c0.out; go_simp)) hq0 ?_
   go_frame
   refine tqA 8 (.int .i64 ep) rfl (yA (by intro w hS; have hc := (hS.cell (p := ⟨g, 7, none⟩) hgl).trans c7.out; go_simp)) hq0 ?_
   go_frame
   refine rdA 4 rfl (fun K hK => ?_)
   go_simp
   go_at_call 68
   refine (Epoch_any _ base F p D (HD.out.below hq0)).mono ?_
   rintro e w4 ⟨rfl, rfl⟩
   go_wp2_with fail
   refine hK.out _ _ (hq0) ?_
   clear hK K hq0
   intro hq0
   try go_frame
   refine tqA 9 (.bool true) rfl (yA (by intro w hS; (have he2 := he; go_simp))) hq0 ?_
   go_frame
   refine wdA ?_
   go_wp2
   go_ret
   exact ⟨by rw [HL.out]; rfl, hq0⟩
theorem FSuper_any (w : World) (g p : Nat) (s : Sup) (nx ep : Int) (hf : FK w g p s nx ep) :
   Calls Tryz.prog 59 #[.pointer (some ⟨g, 0, none⟩)] w fun e w' => e = .returned (.agg (supC s)) ∧ Below w.heap.size w w' := by
 have hgl : g < w.heap.size := hlt_ hf
 have r0 := hnew w (.cells (supC sup0) 39)
 have b0 := below_new w (.cells (supC sup0) 39)
 have HR : Hid ((w.alloc (.cells (supC sup0) 39)).rangeAt g 1 (supL s)) := hid (fun j v hv => by
   rw [show (w.alloc (.cells (supC sup0) 39)).cell? ⟨g, 1 + j, none⟩ = w.cell? ⟨g, 1 + j, none⟩ from b0.cell (p := ⟨g, 1 + j, none⟩) hgl, hf.cell]
   rcases j with _ | _ | _ | _ | _ | j <;> first | exact hv | (simp [supL] at hv))
 go_enter Tryz.func59, Tryz.ntmps59
 go_wp2_with (first
   | (refine wpList_load_mid_w (by rfl) 39 (.tmp 5) (by rfl) g 1 (by rfl) (supL s) _ (by exact HR.out) Tryz.underlying39 rfl (by rw [size_super]; rfl) ?_)
   | (refine wpList_store_row (by rfl) 39 (.tmp 2) (.tmp 6) (by rfl) w.heap.size (supC s) (by rfl) (by rfl) 39 (supC sup0) (by exact r0) (supN _) (supS _ _) (supO _) ?_))
 exact bodyPost_ret (v := .agg (supC s)) (results_cell_row Tryz.results59 _ _ w.heap.size 39 _ _ _ rfl (setRow_heap _ _ _ _ _ _ r0) Tryz.underlying39 rfl (by rw [size_super]; rfl)) rfl ⟨rfl, below_setRow b0 (Nat.le_refl _) _⟩
theorem FNext_any (w : World) (g p : Nat) (s : Sup) (nx ep : Int) (hf : FK w g p s nx ep) :
   Calls Tryz.prog 60 #[.pointer (some ⟨g, 0, none⟩)] w fun e w' => e = .returned (.int .i64 nx) ∧ w = w' := by
 have c6 : w.cell? ⟨g, 6, none⟩ = some (.int .i64 nx) := hf.cell 6
 clear hf
 go_enter Tryz.func60, Tryz.ntmps60
 go_wp2
 go_ret
 exact ⟨rfl, rfl⟩
theorem Format_taken (w : World) (base : Nat) (F : List Nat) (p : Nat) (D : DS) (h : DA w base F p D) (hpw : D.power = true) (hr : D.reads < 3999999999999999999) (wd : Int) (hwd : 1 ≤ wd ∧ wd ≤ 32) (hch : (chooseF (D.readOf 0) (D.readOf 1)).2 ≠ 55) :
   Calls Tryz.prog 19 #[.pointer (some ⟨p, 0, none⟩), .int .i64 wd] w fun e w' => e = .returned (.int .i64 60) ∧ DA w' base F p { D with reads := D.reads + 2 } ∧ Fr F w w' := by
 have hpx := Power_any w base F p D h
 rw [hpw] at hpx
 have HPW := hid hpx
 have HCH := hid (fchoose_any w base F p D h hpw hr)
 obtain ⟨i1, i2⟩ := hwd
 have hz : ((chooseF (D.readOf 0) (D.readOf 1)).2 != 55) = true := by simpa using hch
 clear hpx h hpw hr hch
 go_enter Tryz.func19, Tryz.ntmps19
 go_wp2_with (first | (go_at_call 51; refine HPW.out.mono ?_; rintro e w0 ⟨rfl, rfl⟩))
 refine HCH.out.mono ?_
 rintro e w1 ⟨rfl, hD1, hF1⟩
 generalize (chooseF (D.readOf 0) (D.readOf 1)).1 = S at *
 generalize (chooseF (D.readOf 0) (D.readOf 1)).2 = E at *
 have HD1 := hid hD1
 have HF1 := hid hF1
 clear hD1 hF1 HCH HPW
 go_wp2_with (first
   | (refine wpList_store_row (by rfl) 39 (.tmp 5) (.tmp 23) (by rfl) w1.heap.size (supC S) (by rfl) (by rfl) 39 _ (by exact hnew _ _) (supN S) (supZ S) (supO S) ?_; rw [setRow_alloc]))
 go_ret
 exact ⟨rfl, HD1.out.below (below_new _ _), HF1.out.tail (F' := F) (below_new _ _)⟩
theorem Open_bad (w : World) (base : Nat) (F : List Nat) (p : Nat) (D : DS) (h : DA w base F p D) (hpw : D.power = true) (hr : D.reads < 3999999999999999999) (x : Int) (hx : (chooseF (D.readOf 0) (D.readOf 1)).2 = x) (hx0 : x ≠ 0) :
   Calls Tryz.prog 20 #[.pointer (some ⟨p, 0, none⟩)] w fun e w' => e = .returned (.tuple #[.pointer none, .int .i64 x]) ∧ DA w' base F p { D with reads := D.reads + 2 } ∧ Fr F w w' := by
 have HCH := hid (fchoose_any w base F p D h hpw hr)
 have hz : (x != 0) = true := by simpa using hx0
 have HX := hid hx
 clear h hpw hr hx hx0
 go_enter Tryz.func20, Tryz.ntmps20
 go_wp2_with fail
 refine HCH.out.mono ?_
 rintro e w1 ⟨rfl, hD1, hF1⟩
 rw [HX.out]
 generalize (chooseF (D.readOf 0) (D.readOf 1)).1 = S at *
 have HD1 := hid hD1
 have HF1 := hid hF1
 clear hD1 hF1 HCH HX
 go_wp2_with (first
   | (refine wpList_store_row (by rfl) 39 (.tmp 4) (.tmp 11) (by rfl) w1.heap.size (supC S) (by rfl) (by rfl) 39 _ (by exact hnew _ _) (supN S) (supZ S) (supO S) ?_; rw [setRow_alloc]))
 go_ret2
 exact ⟨rfl, HD1.out.below (below_new _ _), HF1.out.tail (F' := F) (below_new _ _)⟩
theorem Open_ok (w : World) (base : Nat) (F : List Nat) (p : Nat) (D : DS) (h : DA w base F p D) (hpw : D.power = true) (hr : D.reads < 3999999999999999999) (hep : D.epoch < 4000000000000000000) (s : Sup) (hs : chooseF (D.readOf 0) (D.readOf 1) = (s, 0)) (hpg : s.pg = (D.np : Int)) :
   Calls Tryz.prog 20 #[.pointer (some ⟨p, 0, none⟩)] w fun e w' => ∃ g, e = .returned (.tuple #[.pointer (some ⟨g, 0, none⟩), .int .i64 0]) ∧ w.heap.size ≤ g ∧ FK w' g p s s.ma (D.epoch + 1) ∧ DA w' base F p { D with reads := D.reads + 2, epoch := D.epoch + 1 } ∧ Fr F w w' := by
 have HCH := hid (fchoose_any w base F p D h hpw hr)
 have HX := hid hs
 have hpq : Hid ((s.pg != ((({ D with reads := D.reads + 2 } : DS).np : Nat) : Int)) = false) := hid (by rw [show ({ D with reads := D.reads + 2 } : DS).np = D.np from rfl, hpg]; simp)
 clear h hpw hr hs hpg
 go_enter Tryz.func20, Tryz.ntmps20
 go_wp2_with fail
 refine HCH.out.mono ?_
 rintro e w1 ⟨rfl, hD1, hF1⟩
 rw [HX.out]
 have HD1 := hid hD1
 have HF1 := hid hF1
 clear hD1 hF1 HCH HX
 go_wp2_with (first
   | (refine wpList_store_row (by rfl) 39 (.tmp 4) (.tmp 11) (by rfl) w1.heap.size (supC s) (by rfl) (by rfl) 39 _ (by exact hnew _ _) (supN s) (supZ s) (supO s) ?_; rw [setRow_alloc]; have R4 := hid (hnew w1 (.cells (supC s) 39)); have HD2 := hid (HD1.out.below (below_new w1 (.cells (supC s) 39))); have HF2 := hid (HF1.out.tail (F' := F) (below_new w1 (.cells (supC s) 39))); generalize hw2 : w1.alloc (.cells (supC s) 39) = w2 at *; generalize w1.heap.size = G4 at *))
 refine rgA (fun w' => w'.heap[G4]? = some (.cells (supC s) 39 (0, 0))) R4.out (fun hq0 => ?_)
 refine tkA 0 (.pointer (some ⟨G4, 4, none⟩)) rfl hq0 ?_
 go_frame
 refine tkA 2 (.pointer (some ⟨p, 0, none⟩)) rfl hq0 ?_
 go_frame
 refine tqA 1 (.int .i64 s.pg) rfl (yA (by intro w hS; have hc := cell_sup4 hS; go_simp)) hq0 ?_
 go_frame
 refine rdA 3 rfl (fun K hK => ?_)
 go_simp
 go_at_call 53
 refine (Pages_any _ base F p _ (HD2.out.drew)).mono ?_
 rintro e w4 ⟨rfl, rfl⟩
 go_wp2_with fail
 refine hK.out _ _ (hq0) ?_
 clear hK K hq0
 intro hq0
 try go_frame
 refine tqA 4 (.bool false) rfl (yA (by intro w hS; (have he2 := hpq.out; go_simp))) hq0 ?_
 go_frame
 refine wdA ?_
 go_wp2
 have R4 := hid hq0
 have HD3 := hid HD2.out.drew
 have HF3 := hid HF2.out.drew
 have hn4 : G4 ∉ F := HD3.out.not_in R4.out (by decide) (by decide) (by decide)
 clear HD2 HF2 hq0
 refine rgA (fun w' => w'.heap[G4]? = some (.cells (supC s) 39 (0, 0))) R4.out (fun hq0 => ?_)
 refine tkA 0 (.pointer (some ⟨p, 0, none⟩)) rfl hq0 ?_
 go_frame
 refine tqA 1 (.agg (supC s)) rfl (yieldsIf_load_sup (by rfl) (.tmp 4) rfl G4 rfl s (fun w1 hS => hS)) hq0 ?_
 go_frame
 refine tkA 2 (.pointer (some ⟨G4, 2, none⟩)) rfl hq0 ?_
 go_frame
 refine tkA 4 (.pointer (some ⟨p, 0, none⟩)) rfl hq0 ?_
 go_frame
 refine tqA 3 (.int .i64 s.ma) rfl (yA (by intro w hS; have hc := cell_sup2 hS; go_simp)) hq0 ?_
 go_frame
 refine rdA 5 rfl (fun K hK => ?_)
 go_simp
 go_at_call 57
 refine (Claim_same _ base F p _ (HD3.out.drew) hep).mono ?_
 rintro e w4 ⟨rfl, hD4, hF4⟩
 go_wp2_with fail
 refine hK.out _ _ (hF4.keep hq0 hn4) ?_
 clear hK K hq0
 intro hq0
 try go_frame
 refine tqA 6 (.agg (fcells p s s.ma (D.epoch + 1))) rfl (yields_build_file (by rfl) (.tmp 21) (.tmp 22) (.tmp 24) (.tmp 26) rfl p s s.ma (D.epoch + 1) rfl rfl rfl rfl) hq0 ?_
 go_frame
 refine rdA 7 rfl (fun K hK => ?_)
 refine step_box_file (by rfl) (.tmp 27) rfl p s s.ma (D.epoch + 1) rfl ?_
 refine hK.out _ _ (hold hq0) ?_
 clear hK K hq0
 intro hq0
 try go_frame
 refine tkA 8 (.pointer (some ⟨w4.heap.size, 0, none⟩)) rfl hq0 ?_
 go_frame
 refine tkA 9 (.int IntKind.i64 0) rfl hq0 ?_
 go_frame
 refine wdA ?_
 go_wp2
 go_ret2
 exact ⟨w4.heap.size, rfl, Nat.le_trans HF3.out.size hF4.size, hnew _ _, hD4.below (below_new _ _), (HF3.out.drew.trans hF4 (Gr.refl _ _)).tail (F' := F) (below_new _ _)⟩
end
section
open Go.RowKit
theorem actE_0 {D : DS} (h : D.armed ≠ 1) : D.actE = 0 := by unfold DS.actE; rw [if_neg h]
theorem actE_2 {D : DS} (h : D.armed = 1) : D.actE = 2 := by unfold DS.actE; rw [if_pos h]
def Half (L0 L1 : List Int) (s0 s1 : Sup) : Prop := Blank L0 L1 ∨ Good s1 s0 L0 L1
end
section
open Go.RowKit
attribute [local go_sem ↓] Go.wp_at_zero Go.wp_at_succ

def NxF (base : Nat) (F : List Nat) (p g : Nat) (w : World) (D' : DS) (s : Sup) (nx ep : Int) (w' : World) : Prop := ∃ F', DA w' base F' p D' ∧ FK w' g p s nx ep ∧ Fr (g :: F) w w' ∧ Gr w F F'
theorem FK.drew {w : World} {g p : Nat} {s : Sup} {nx ep : Int} (h : FK w g p s nx ep) : FK w.drew g p s nx ep := h
theorem Fr.wide {F : List Nat} {w w1 : World} (h : Fr F w w1) (g : Nat) : Fr (g :: F) w w1 := ⟨h.os, h.tape, h.output, h.size, fun k hk hn => h.block k hk (fun e => hn (List.mem_cons_of_mem _ e))⟩
theorem FK.c0 {w : World} {g p : Nat} {s : Sup} {nx ep : Int} (h : FK w g p s nx ep) : w.cell? ⟨g, 0, none⟩ = some (.pointer (some ⟨p, 0, none⟩)) := h.cell 0
theorem FK.c6 {w : World} {g p : Nat} {s : Sup} {nx ep : Int} (h : FK w g p s nx ep) : w.cell? ⟨g, 6, none⟩ = some (.int .i64 nx) := h.cell 6
theorem FK.set {w : World} {g p : Nat} {s : Sup} {nx ep : Int} (h : FK w g p s nx ep) (x : Int) : FK (w.setCell ⟨g, 6, none⟩ (.int .i64 x)) g p s x ep := by
 unfold FK
 rw [heap_setCell_same _ _ _ _ _ _ h]; rfl
theorem FK.fz {w : World} {g p : Nat} {s : Sup} {nx ep : Int} (h : FK w g p s nx ep) (j : Nat) : w.frozen? ⟨g, j, none⟩ = false := frozen_of_row _ _ _ _ _ h
theorem DA.setCellN {w : World} {base : Nat} {F : List Nat} {p : Nat} {D : DS} (h : DA w base F p D) {g : Nat} (hg : g ∉ F) (j : Nat) (v : Value) : DA (w.setCell ⟨g, j, none⟩ v) base F p D :=
 h.of_heap fun k hk => heap_setCell_other w ⟨g, j, none⟩ k v (fun e => hg (by rw [← show k = g from e]; exact hk))
theorem Fr.setG {F : List Nat} {w w1 : World} {g : Nat} (h : Fr (g :: F) w w1) (j : Nat) (v : Value) : Fr (g :: F) w (w1.setCell ⟨g, j, none⟩ v) := h.setCell (List.mem_cons_self) j v
theorem live_0 {D : DS} {ep : Int} (h : liveF D ep = 0) : D.epoch = ep ∧ D.power = true := by
 unfold liveF at h
 split at h
 · exact absurd h (by decide)
 · rename_i c
   split at h
   · rename_i d; exact ⟨Classical.not_not.1 c, d⟩
   · exact absurd h (by decide)
theorem has_any (w : World) (g p : Nat) (s : Sup) (nx ep : Int) (hf : FK w g p s nx ep) (q : Int) :
   Calls Tryz.prog 99 #[.pointer (some ⟨g, 0, none⟩), .int .i64 q] w fun e w' => e = .returned (.bool (decide (2 ≤ q ∧ q < nx))) ∧ w = w' := by
 have c6 : w.cell? ⟨g, 6, none⟩ = some (.int .i64 nx) := hf.cell 6
 clear hf
 by_cases h2 : 2 ≤ q
 · have HE := hid (show decide (2 ≤ q ∧ q < nx) = decide (q < nx) by simp [h2])
   go_enter Tryz.func99, Tryz.ntmps99
   go_wp2
   go_ret
   exact ⟨by rw [HE.out]; rfl, rfl⟩
 · go_enter Tryz.func99, Tryz.ntmps99
   go_wp2
   go_ret
   refine ⟨?_, rfl⟩
   rw [show decide (2 ≤ q) = false from decide_eq_false (by omega)]
   rfl
theorem Forget_any (w : World) (base : Nat) (F : List Nat) (p : Nat) (D : DS) (h : DA w base F p D) (g : Nat) (s : Sup) (nx ep : Int) (hf : FK w g p s nx ep) :
   Calls Tryz.prog 61 #[.pointer (some ⟨g, 0, none⟩)] w fun e w' => e = .returned (.tuple #[]) ∧ DA w' base F p D ∧ FK w' g p s s.ma ep ∧ Fr (g :: F) w w' := by
 have c3 : w.cell? ⟨g, 3, none⟩ = some (.int .i64 s.ma) := hf.cell 3
 have c6 : w.cell? ⟨g, 6, none⟩ = some (.int .i64 nx) := hf.cell 6
 have f6 := hf.fz 6
 have HD := hid (h.setCellN (hf.not h) 6 (.int .i64 s.ma))
 have HF := hid (hf.set s.ma)
 clear h hf
 go_enter Tryz.func61, Tryz.ntmps61
 go_wp2
 go_end0
 exact ⟨rfl, HD.out, HF.out, ((Fr.refl F w).wide g).setG 6 _⟩
theorem Append_in (w : World) (base : Nat) (F : List Nat) (p : Nat) (D : DS) (h : DA w base F p D) (hbw : base ≤ w.heap.size) (g : Nat) (s : Sup) (ep : Int) (q : Nat) (hf : FK w g p s q ep) (hlv : liveF D ep = 0) (hq : 2 ≤ q ∧ q < D.np) (kd : Int) (hk : kindOk kd = true) (l : List Int) (h8 : Byts l) (hl : l.length ≤ 246) (sp : Option Addr) (cap : Nat) (hS : Src w sp cap l) (hops : D.ops.length < 400000000000) (hwr : D.writes < 4000000000000000000) :
   Calls Tryz.prog 62 #[.pointer (some ⟨g, 0, none⟩), .int .i64 kd, .slice sp l.length cap] w fun e w' => (D.armed ≠ 1 → e = .returned (.tuple #[.int .i64 q, .int .i64 0]) ∧ NxF base F p g w (D.wr ⟨q, pageP kd q l⟩) s (q + 1 : Nat) ep w') ∧ (D.armed = 1 → e = .returned (.tuple #[.int .i64 0, .int .i64 2]) ∧ NxF base F p g w (D.wr ⟨q, pageP kd q l⟩) s q ep w') := by
 have hnp := h.ok.np
 have hpw := (live_0 hlv).2
 obtain ⟨k1, k3⟩ := (kindOk_iff kd).1 hk
 have hpl : placeOk (q : Int) = true := (placeOk_iff _).2 ⟨by omega, by omega⟩
 have HL := hid (Live_any w base F p D h g s q ep hf)
 rw [hlv] at HL
 have HD := hid h
 have HF := hid hf
 have HS := hid hS
 have hll : (l.length : Int) ≤ 246 := by omega
 have hqn : ((q : Int) == (D.np : Int)) = false := by simp; omega
 have iq : (q : Int) < 4096 := by omega
 have HPK := hid (fun (w1 : World) (hS : Src w1 sp cap l) => pack_ok w1 kd q l h8 hk hpl hl sp cap hS)
 have HQN := hid hq
 have HP8 := hid (pageP_byts kd q l ⟨by omega, by omega⟩ hl h8)
 have HPL := hid (pageP_len kd q l hl)
 clear h hf hS hnp hl h8 hk hpl hlv hq
 go_enter Tryz.func62, Tryz.ntmps62
 go_wp2_with fail
 refine HL.out.mono ?_
 rintro e w1 ⟨rfl, hb1⟩
 have HB1 := hid hb1
 have HD1 := hid (HD.out.below hb1)
 have HK1 := hid (HF.out.below hb1)
 have hgl1 : g < w1.heap.size := hlt_ HK1.out
 have c0 := hid (show w1.cell? ⟨g, 0, none⟩ = some (.pointer (some ⟨p, 0, none⟩)) from HK1.out.cell 0)
 have c6 := hid (show w1.cell? ⟨g, 6, none⟩ = some (.int .i64 (q : Int)) from HK1.out.cell 6)
 clear hb1 HL
 go_wp2
 refine rgA (fun w' => Below w1.heap.size w1 w') (Below.refl _ _).drew (fun hq0 => ?_)
 refine tkA 0 (.pointer (some ⟨g, 0, none⟩)) rfl hq0 ?_
 go_frame
 refine tkA 4 (.pointer (some ⟨g, 0, none⟩)) rfl hq0 ?_
 go_frame
 refine tkA 1 (.pointer (some ⟨g, 0, none⟩)) rfl hq0 ?_
 go_frame
 refine tkA 5 (.pointer (some ⟨g, 0, none⟩)) rfl hq0 ?_
 go_frame
 refine tkA 2 (.pointer (some ⟨g, 6, none⟩)) rfl hq0 ?_
 go_frame
 refine tkA 6 (.pointer (some ⟨g, 0, none⟩)) rfl hq0 ?_
 go_frame
 refine tqA 3 (.int .i64 (q : Int)) rfl (yA (by intro w hS; have hc := (hS.cell (p := ⟨g, 6, none⟩) hgl1).trans c6.out; go_simp)) hq0 ?_
 go_frame
 refine tqA 7 (.pointer (some ⟨p, 0, none⟩)) rfl (yA (by intro w hS; have hc := (hS.cell (p := ⟨g, 0, none⟩) hgl1).trans c0.out; go_simp)) hq0 ?_
 go_frame
 refine rdA 8 rfl (fun K hK => ?_)
 go_simp
 go_at_call 53
 refine (Pages_any _ base F p D (HD1.out.below hq0)).mono ?_
 rintro e w4 ⟨rfl, rfl⟩
 go_wp2_with fail
 refine hK.out _ _ (hq0) ?_
 clear hK K hq0
 intro hq0
 try go_frame
 refine tqA 9 (.bool false) rfl (yA (by intro w hS; (have he2 := hqn; go_simp))) hq0 ?_
 go_frame
 refine wdA ?_
 have c62 : w1.drew.cell? ⟨g, 6, none⟩ = some (.int .i64 (q : Int)) := (hq0.cell (p := ⟨g, 6, none⟩) hgl1).trans c6.out
 have hpk := HPK.out w1.drew ((HS.out.below HB1.out (Nat.le_refl _)).below hq0 (Nat.le_refl _))
 have HH := hid hq0
 clear hq0
 go_wp2_with fail
 refine hpk.mono ?_
 rintro e w2 ⟨gp, rfl, hgp, hrp, hb2⟩
 have hb12 : Below w1.heap.size w1 w2 := HH.out.trans (hb2.mono HH.out.size)
 have HB2 := hid (HB1.out.trans (hb12.mono HB1.out.size))
 have HD2 := hid (HD1.out.below hb12)
 have HK2 := hid (HK1.out.below hb12)
 have HWR := hid (Write_any w2.drew base F p D HD2.out.drew (Nat.le_trans hbw HB2.out.size) hpw q HQN.out.2 (pageP kd q l) HPL.out HP8.out (some ⟨gp, 0, none⟩) 256 (src_row (tl := []) (by rw [List.append_nil]; exact hrp) 256 (by rw [HPL.out]; omega) (by simp [maxLen])) hops hwr)
 clear hpk c62 hgp hrp hb2 hb12 HH HPK HP8 HPL c0 c6 HD1 HK1 HB1 HS
 go_wp2
 refine rgA (fun w' => FK w' g p s q ep) HK2.out.drew (fun hq0 => ?_)
 refine tkA 0 (.pointer (some ⟨g, 0, none⟩)) rfl hq0 ?_
 go_frame
 refine tkA 4 (.pointer (some ⟨g, 0, none⟩)) rfl hq0 ?_
 go_frame
 refine tkA 8 (.slice (some ⟨gp, 0, none⟩) 256 256) rfl hq0 ?_
 go_frame
 refine tkA 1 (.pointer (some ⟨g, 0, none⟩)) rfl hq0 ?_
 go_frame
 refine tkA 5 (.pointer (some ⟨g, 0, none⟩)) rfl hq0 ?_
 go_frame
 refine tkA 2 (.pointer (some ⟨g, 0, none⟩)) rfl hq0 ?_
 go_frame
 refine tkA 6 (.pointer (some ⟨g, 6, none⟩)) rfl hq0 ?_
 go_frame
 refine tqA 3 (.pointer (some ⟨p, 0, none⟩)) rfl (yA (by intro w hS; have hc := FK.c0 hS; go_simp)) hq0 ?_
 go_frame
 refine tqA 7 (.int .i64 (q : Int)) rfl (yA (by intro w hS; have hc := FK.c6 hS; go_simp)) hq0 ?_
 go_frame
 refine rdA 9 rfl (fun K hK => ?_)
 go_simp
 go_at_call 71
 refine (HWR.out).mono ?_
 rintro e w3 ⟨rfl, hN⟩
 go_wp2_with fail
 refine hK.out _ _ (FK.other (show FK w2.drew g p s q ep from hq0) HD2.out.drew hN.choose_spec.2.1) ?_
 clear hK K hq0
 intro hq0
 try go_frame
 refine tkA 10 (.int .i64 D.actE) rfl hq0 ?_
 go_frame
 refine wdA ?_
 obtain ⟨F3, q1, q2, q3⟩ := hN
 have HK3 := hid (show FK w3 g p s q ep from hq0)
 have hfw : Fr F w w3 := (Fr.of_below HB2.out).drew.trans q2 (Gr.refl _ _)
 have hgr : Gr w F F3 := fun k hk => (q3 k hk).imp id (fun x => Nat.le_trans HB2.out.size x)
 have HFW := hid hfw
 have HGR := hid hgr
 have HD3 := hid q1
 clear q1 q2 q3 hfw hgr hq0 HWR HD2 HK2
 by_cases ha : D.armed = 1
 · rw [actE_2 ha]
   go_wp2
   go_ret2
   exact ⟨fun x => absurd ha x, fun _ => ⟨rfl, F3, HD3.out, HK3.out, HFW.out.wide g, HGR.out⟩⟩
 · rw [actE_0 ha]
   have c63 : w3.cell? ⟨g, 6, none⟩ = some (.int .i64 (q : Int)) := HK3.out.cell 6
   have f63 := HK3.out.fz 6
   go_wp2
   go_ret2
   refine ⟨fun _ => ⟨?_, F3, HD3.out.setCellN (HK3.out.not HD3.out) 6 _, ?_, (HFW.out.wide g).setG 6 _, HGR.out⟩, fun x => absurd x ha⟩
   · go_num
   · have := HK3.out.set (q + 1 : Nat); push_cast at this ⊢; exact this
end
end Go.Proofs.YtjhocjjecfdphaaGreatDoor
