import Derived.Test.YtjhocjjecfdphaaGreatDoorQ48
namespace Go.Proofs.YtjhocjjecfdphaaGreatDoor
set_option linter.unusedVariables false
set_option linter.unusedSimpArgs false
set_option maxRecDepth 100000
set_option maxHeartbeats 4000000
section
open Go.RowKit
attribute [local go_sem ↓] Go.wp_at_zero Go.wp_at_succ
theorem Inv.not_in {base m : Nat} {w : World} {P : PL} {A B : AW} {rm : List Int} (h : Inv base m w P A B rm) {q : Nat} {cs : Array Value} {fr : Nat × Nat} (r : w.heap[q]? = some (.cells cs 43 fr)) : ∀ c, q ∉ (comp base m P A B rm c).fp := by
 have row : ∀ {t n : Nat} {v : Value} {xs : List Value} {e : Nat}, w.ownsRow base e t v n xs → e ≠ 43 → q ∉ v.ownBlock.toList := fun hr he hq => by
   obtain ⟨_, cur, hh⟩ := ownsRow_block hr q (by simpa using hq)
   exact ne_ty hh r he rfl
 have one : ∀ {k t : Nat} {xs : Array Value}, w.heap[k]? = some (.cells xs t (0, 0)) → t ≠ 43 → q ∉ [k] := fun {k t xs} hk he hq => by
   have e : q = k := by simpa using hq
   subst e; exact ne_ty hk r he rfl
 have dsk : ∀ i, i < 2 → q ∉ (cmD base (P.Fd i) (P.pd i) (A.d i)).fp := fun i hi hq => by
   cases hD : A.d i with
   | none => rw [hD] at hq; cases hq
   | some D => rw [hD] at hq; exact (h.atD i hi hD).not_in r (by decide) (by decide) (by decide) hq
 have rdk : ∀ i, i < 2 → q ∉ (cmR base (P.Fr i) (P.px i) m (B.d i)).fp := fun i hi hq => by
   cases hD : B.d i with
   | none => rw [hD] at hq; cases hq
   | some D => rw [hD] at hq; exact (h.atR i hi hD).not_in r (by decide) (by decide) (by decide) hq
 have fil : ∀ j, j < 3 → q ∉ (cmF (P.gf j) P.pd (A.f j)).fp := fun j hj hq => by
   cases hx : A.f j with
   | none => rw [hx] at hq; cases hq
   | some x => rw [hx] at hq; exact one (h.atF j hj hx) (by decide) hq
 have xfl : ∀ j, j < 3 → q ∉ (cmG (P.gx j) P.px (B.f j)).fp := fun j hj hq => by
   cases hx : B.f j with
   | none => rw [hx] at hq; cases hq
   | some x => rw [hx] at hq; exact one (h.atG j hj hx) (by decide) hq
 intro c
 rcases c with _ | _ | _ | _ | _ | _ | _ | _ | _ | _ | _ | _ | _ | _ | _ | _ | _ | k
 · exact one (h.sep.here 0) (by decide)
 · exact row (h.sep.here 1) (by decide)
 · exact row (h.sep.here 2) (by decide)
 · exact row (h.sep.here 3) (by decide)
 · exact one (h.sep.here 4) (by decide)
 · exact row (h.sep.here 5) (by decide)
 · exact row (h.sep.here 6) (by decide)
 · exact dsk 0 (by omega)
 · exact dsk 1 (by omega)
 · exact rdk 0 (by omega)
 · exact rdk 1 (by omega)
 · exact fil 0 (by omega)
 · exact fil 1 (by omega)
 · exact fil 2 (by omega)
 · exact xfl 0 (by omega)
 · exact xfl 1 (by omega)
 · exact xfl 2 (by omega)
 · exact fun hq => by cases hq
theorem allocAns (a : Act) (o : Oper) (w : World) (ho : o.op = .alloc 43) : (execOp a.eval o).run Tryz.prog w = .ok (.value (.pointer (some ⟨w.heap.size, 0, none⟩))) (w.alloc (.cells zzA 43)) := by
 unfold execOp
 rw [ho]
 kernel_rfl
theorem ans_new {w' : World} {q : Nat} {o : Obj} (h : w'.heap[q]? = some o) : (w'.alloc (.cells zzA 43)).heap[w'.heap.size]? = some (.cells zzA 43 (0, 0)) := hnew w' _
theorem ga_le {w w' : World} {q : Nat} {o : Obj} (h : w'.heap[q]? = some o) (hl : w.heap.size ≤ w'.heap.size) : w.heap.size ≤ w'.heap.size := hl
theorem cell_al {w : World} {k j : Nat} {v : Value} {o : Obj} (h : w.cell? ⟨k, j, none⟩ = some v) : (w.alloc o).cell? ⟨k, j, none⟩ = some v := (((Below.refl w.heap.size w).alloc (Nat.le_refl _) o).cell (p := ⟨k, j, none⟩) (World.block_lt_of_cell? _ _ h)).trans h
theorem cell_fr {w w' : World} {k j : Nat} (h : w'.heap[k]? = w.heap[k]?) : w'.cell? ⟨k, j, none⟩ = w.cell? ⟨k, j, none⟩ := by
 unfold World.cell?
 rw [show w'.heap[(⟨k, j, none⟩ : Addr).block]? = w.heap[(⟨k, j, none⟩ : Addr).block]? from h]
theorem op_rng {w : World} {q : Nat} {o : OP} {rv : Value} (h : w.heap[q]? = some (.cells (o.C rv) 37 (0, 0))) : w.rangeAt q 0 (o.C rv).toList := fun j v hv => by
 rw [Nat.zero_add, cell_of_row _ _ _ _ _ _ h]; simpa using hv
theorem op_fl {w : World} {q : Nat} {o : OP} {rv : Value} (h : w.heap[q]? = some (.cells (o.C rv) 37 (0, 0))) : w.cell? ⟨q, 2, none⟩ = some (.int .i64 o.fl) := by rw [cell_of_row _ _ _ _ _ _ h]; rfl
theorem own_ans {w : World} {base g : Nat} {v : Value} {zs : List Int} {cs : Array Value} {fr : Nat × Nat} (h : Own w base v zs) (hg : w.heap[g]? = some (.cells cs 43 fr)) (ys : Array Value) : Own (w.setRow g ys) base v zs := h.of_heap fun k e => by
 obtain ⟨_, cur, hc⟩ := ownsRow_block h k e
 exact setRow_other _ g k _ (ne_ty hc hg (by decide))
theorem al_bel (w : World) (o : Obj) : Below w.heap.size w (w.alloc o) := (Below.refl _ _).alloc (Nat.le_refl _) _
theorem dr_sz (w : World) : w.drew.heap.size = w.heap.size := rfl
theorem ne_lt {n g k : Nat} (h : n ≤ g) (hk : k < n) : k ≠ g := fun e => by omega
theorem al_sz (w : World) (o : Obj) : (w.alloc o).heap.size = w.heap.size + 1 := by simp
theorem Own.srcN9 {w : World} {base : Nat} {s : Option Addr} {n c : Nat} {zs : List Int} (h : Own w base (.slice s n c) zs) : Src w s c zs := by
 obtain ⟨s', c', e, hS, _⟩ := h.form
 simp only [Value.slice.injEq] at e
 obtain ⟨rfl, -, rfl⟩ := e
 exact hS
theorem ureg10 (w : World) (base m : Nat) (hm : m + 8 < 400000000000) (P : PL) (A B : AW) (rm : List Int) (h : Inv base m w P A B rm) (hb : Bnd m A) (o : OP) (hB : B = (stpF A o).1) (fp : Option Addr) (had : Bool) (hp : (fp = none ∧ had = false) ∨ (∃ a, fp = some a ∧ had = true)) (hpt : ptrF P.gx B (plc o.fl 3) = .pointer fp) (hh : had = ((stpF A o).1.f (plc o.fl 3)).isSome) (sp : Option Addr) (cap : Nat) (hsb : ∀ a, 0 < o.raw.length → sp = some a → a.block < base) (ho : OpOk w o sp cap) (q1 : Nat) {Q : Exit → Act → World → Prop} {u0 u1 u2 u3 u4 u5 u6 u9 u10 u12 u13 u14 u15 u16 u17 u18 u19 u20 u21 u22 u23 u24 u25 u26 u27 u28 u29 u30 u31 u32 u33 u34 u35 u36 u37 u38 u39 u40 u41 u42 u43 u44 u45 u46 u47 u48 u49 u50 u51 u52 u53 u54 u55 u56 u57 u58 u59 u60 u61 u62 u63 u64 u65 u66 u67 u68 u69 u70 u71 u72 u73 : Value} (r1 : w.heap[q1]? = some (.cells (o.C (.slice sp o.raw.length cap)) 37 (0, 0))) (hq1 : ∀ c, pgm c → q1 ∉ (comp base m P A B rm c).fp)
   (HK : ∀ (ga : Nat) (sv : Option Addr) (cv : Nat) (w' : World) (t41 t42 t43 t44 t45 t46 t47 t48 t49 t50 t51 t52 t53 t40 t54 t55 : Value), w.heap.size ≤ ga → w'.heap[ga]? = some (.cells ((stpF A o).2.C (.slice sv (stpF A o).2.raw.length cv)) 43 (0, 0)) → Src w' sv cv (stpF A o).2.raw → (∃ P' rm', P'.pw = P.pw ∧ P'.xw = P.xw ∧ Inv base m w' P' (stpF A o).1 B rm') → Below base w w' → (∀ k, k < w.heap.size → (∀ c, pgm c → k ∉ (comp base m P A B rm c).fp) → w'.heap[k]? = w.heap[k]?) → Q .normal { tmps := #[u0, u1, u2, u3, u4, u5, u6, .pointer (some ⟨P.xw, 0, none⟩), .pointer (some ⟨P.pw, 0, none⟩), u9, u10, .pointer (some ⟨q1, 0, none⟩), u12, .pointer (some ⟨ga, 0, none⟩), .bool true, u15, u16, u17, u18, u19, u20, u21, u22, u23, u24, u25, u26, u27, u28, u29, u30, u31, u32, u33, u34, u35, u36, u37, u38, u39, t40, t41, t42, t43, t44, t45, t46, t47, t48, t49, t50, t51, t52, t53, t54, t55, u56, u57, u58, u59, u60, u61, u62, u63, u64, u65, u66, u67, u68, u69, u70, u71, u72, u73], defers := [] } w') :
   Code.wp Tryz.prog (Code.region 10 #[{ dst := some 41, op := Op.move (Operand.tmp 8), type := 32, pos := "law.go:250", after := #[], guard := none }, { dst := some 42, op := Op.load 37 (Operand.tmp 11), type := 37, pos := "law.go:250", after := #[], guard := none }, { dst := some 43, op := Op.move (Operand.tmp 7), type := 30, pos := "law.go:250", after := #[], guard := none }, { dst := some 44, op := Op.nilCheck (Operand.tmp 43), type := 0, pos := "law.go:250", after := #[{ on := 2, ground := Ground.data }], guard := none }, { dst := some 45, op := Op.fieldAddr 51 (Operand.tmp 44) 1, type := 0, pos := "law.go:250", after := #[{ on := 3, ground := Ground.data }], guard := none }, { dst := some 46, op := Op.load 49 (Operand.tmp 45), type := 49, pos := "law.go:250", after := #[{ on := 4, ground := Ground.data }], guard := none }, { dst := some 47, op := Op.fieldAddr 37 (Operand.tmp 11) 2, type := 0, pos := "law.go:250", after := #[], guard := none }, { dst := some 48, op := Op.load 3 (Operand.tmp 47), type := 3, pos := "law.go:250", after := #[{ on := 6, ground := Ground.data }], guard := none }, { dst := some 49, op := Op.call { callee := Callee.value (Operand.func 10), args := #[Operand.tmp 48, Operand.const (Value.int IntKind.i64 3)], argTypes := #[3, 3] }, type := 3, pos := "law.go:250", after := #[{ on := 7, ground := Ground.data }], guard := none }, { dst := some 50, op := Op.indexAddr 49 (Operand.tmp 46) (Operand.tmp 49), type := 0, pos := "law.go:250", after := #[{ on := 5, ground := Ground.data }, { on := 8, ground := Ground.data }], guard := none }, { dst := some 51, op := Op.load 47 (Operand.tmp 50), type := 47, pos := "law.go:250", after := #[{ on := 9, ground := Ground.data }], guard := none }, { dst := some 52, op := Op.binOp BinOp.neq 47 (Operand.tmp 51) (Operand.const (Value.pointer none)) 47, type := 4, pos := "law.go:250", after := #[{ on := 10, ground := Ground.data }], guard := none }, { dst := some 53, op := Op.call { callee := Callee.value (Operand.func 9), args := #[Operand.tmp 41, Operand.tmp 42, Operand.tmp 52], argTypes := #[32, 37, 4] }, type := 45, pos := "law.go:250", after := #[{ on := 0, ground := Ground.data }, { on := 1, ground := Ground.data }, { on := 11, ground := Ground.data }, { on := 8, ground := Ground.chain }], guard := none }, { dst := some 40, op := Op.move (Operand.tmp 53), type := 45, pos := "law.go:250", after := #[{ on := 12, ground := Ground.data }], guard := none }, { dst := some 54, op := Op.extract (Operand.tmp 40) 0, type := 43, pos := "law.go:250", after := #[{ on := 13, ground := Ground.data }], guard := none }, { dst := some 55, op := Op.extract (Operand.tmp 40) 1, type := 4, pos := "law.go:250", after := #[{ on := 13, ground := Ground.data }, { on := 17, ground := Ground.gcOnly Departure.lateStores }], guard := none }, { dst := some 13, op := Op.alloc 43, type := 0, pos := "law.go:250", after := #[], guard := none }, { dst := none, op := Op.store 43 (Operand.tmp 13) (Operand.tmp 54), type := 0, pos := "law.go:250", after := #[{ on := 16, ground := Ground.data }, { on := 14, ground := Ground.data }, { on := 12, ground := Ground.chain }, { on := 0, ground := Ground.phase }, { on := 1, ground := Ground.phase }, { on := 2, ground := Ground.phase }, { on := 3, ground := Ground.phase }, { on := 4, ground := Ground.phase }, { on := 5, ground := Ground.phase }, { on := 6, ground := Ground.phase }, { on := 7, ground := Ground.phase }, { on := 8, ground := Ground.phase }, { on := 9, ground := Ground.phase }, { on := 10, ground := Ground.phase }, { on := 11, ground := Ground.phase }, { on := 12, ground := Ground.phase }, { on := 13, ground := Ground.phase }, { on := 14, ground := Ground.phase }, { on := 15, ground := Ground.textOnly Departure.lateStores }, { on := 16, ground := Ground.phase }], guard := none }, { dst := some 14, op := Op.assign (Operand.tmp 55), type := 4, pos := "law.go:250", after := #[{ on := 15, ground := Ground.data }, { on := 17, ground := Ground.chain }, { on := 0, ground := Ground.phase }, { on := 1, ground := Ground.phase }, { on := 2, ground := Ground.phase }, { on := 3, ground := Ground.phase }, { on := 4, ground := Ground.phase }, { on := 5, ground := Ground.phase }, { on := 6, ground := Ground.phase }, { on := 7, ground := Ground.phase }, { on := 8, ground := Ground.phase }, { on := 9, ground := Ground.phase }, { on := 10, ground := Ground.phase }, { on := 11, ground := Ground.phase }, { on := 12, ground := Ground.phase }, { on := 13, ground := Ground.phase }, { on := 14, ground := Ground.phase }, { on := 15, ground := Ground.phase }, { on := 16, ground := Ground.phase }, { on := 17, ground := Ground.phase }], guard := none }] true) Q { tmps := #[u0, u1, u2, u3, u4, u5, u6, .pointer (some ⟨P.xw, 0, none⟩), .pointer (some ⟨P.pw, 0, none⟩), u9, u10, .pointer (some ⟨q1, 0, none⟩), u12, u13, u14, u15, u16, u17, u18, u19, u20, u21, u22, u23, u24, u25, u26, u27, u28, u29, u30, u31, u32, u33, u34, u35, u36, u37, u38, u39, u40, u41, u42, u43, u44, u45, u46, u47, u48, u49, u50, u51, u52, u53, u54, u55, u56, u57, u58, u59, u60, u61, u62, u63, u64, u65, u66, u67, u68, u69, u70, u71, u72, u73], defers := [] } w := by
 have hj : plc o.fl 3 < 3 := plc_lt _ _ (by omega)
 have HP := hid hp
 obtain ⟨bd, cd, bf, cf, e1, e2, c1, c2, x0', x1', kd', kf'⟩ := h.rowsX
 rw [e2] at x1'
 have xf' := kf' (plc o.fl 3) hj
 rw [hpt] at xf'
 have nXW : ∀ c, pgm c → P.xw ∉ (comp base m P A B rm c).fp := fun c hc hq => h.sep.ap c 4 (by unfold pgm at hc; omega) P.xw hq (by show P.xw ∈ [P.xw]; simp)
 have nBF : ∀ c, pgm c → bf ∉ (comp base m P A B rm c).fp := fun c hc hq => h.sep.ap c 6 (by unfold pgm at hc; omega) bf hq (by show bf ∈ P.Fx.ownBlock.toList; rw [e2]; simp [Value.ownBlock])
 have lX : P.xw < w.heap.size := World.block_lt_of_cell? _ _ x0'
 have lB : bf < w.heap.size := World.block_lt_of_cell? _ _ xf'
 have l1 : q1 < w.heap.size := hlt_ r1
 have KL := hid (fun w1 (b1 : Below w.heap.size w w1) => lstep_any w1 base m hm P A B rm (h.below b1) hb o had hh sp cap hsb (ho.below b1))
 have B1 := hid (show Below w.heap.size w w.drew from (Below.refl _ w).drew)
 have B2 := hid (show Below w.heap.size w (w.drew.alloc (.cells zzA 43)) from (Below.refl _ w).drew.alloc (Nat.le_refl _) _)
 have AA := hid allocAns
 have LO := hid (show (Tryz.prog.info? 37).map (·.size) = some (o.C (.slice sp o.raw.length cap)).toList.length by rw [size_op]; rfl)
 have k2 : (o.C (.slice sp o.raw.length cap))[2]? = some (.int .i64 o.fl) := rfl
 have ij : ((plc o.fl 3 : Nat) : Int) < 3 := by omega
 have hlt0 : ∀ c q, q ∈ (comp base m P A B rm c).fp → q < w.heap.size := fun c q hq => cm_lt h.sep q c hq
 have HHb := hid h.sep.hb
 clear hp hpt kd' kf' x0' e1 e2 h hh hB ho hsb
 obtain ⟨j, hjj⟩ : ∃ j, j = plc o.fl 3 := ⟨_, rfl⟩
 rw [← hjj] at xf' ij hj
 have hPJ := hid (fun (w4 : World) => show Calls Tryz.prog 10 #[.int .i64 o.fl, .int .i64 3] w4 fun e w' => e = .returned (.int .i64 (j : Nat)) ∧ w4 = w' by rw [hjj]; exact lplace_any w4 o.fl 3 (Or.inr rfl) 3 rfl)
 clear hjj
 obtain ⟨r, hrr⟩ : ∃ r, r = stpF A o := ⟨_, rfl⟩
 rw [← hrr] at KL HK
 refine rgA ((fun w' => w'.heap[q1]? = some (.cells (o.C (.slice sp o.raw.length cap)) 37 (0, 0)) ∧ w'.cell? ⟨P.xw, 1, none⟩ = some (.slice (some ⟨bf, 0, none⟩) 3 cf) ∧ w'.cell? ⟨bf, j, none⟩ = some (.pointer fp))) ⟨r1, x1', xf'⟩ (fun hq0 => ?_)
 refine tkA 0 (.pointer (some ⟨P.pw, 0, none⟩)) rfl hq0 ?_
 go_frame
 refine tqA 1 (.agg ((o.C (.slice sp o.raw.length cap)).toList).toArray) rfl (yieldsIf_load_mid (by rfl) 37 _ rfl q1 (0) rfl ((o.C (.slice sp o.raw.length cap)).toList) _ (fun w hS => op_rng hS.1) Tryz.underlying37 rfl LO.out) hq0 ?_
 go_frame
 refine tkA 2 (.pointer (some ⟨P.xw, 0, none⟩)) rfl hq0 ?_
 go_frame
 refine tkA 6 (.pointer (some ⟨q1, 2, none⟩)) rfl hq0 ?_
 go_frame
 refine tkA 3 (.pointer (some ⟨P.xw, 0, none⟩)) rfl hq0 ?_
 go_frame
 refine tqA 7 (.int .i64 o.fl) rfl (yA (by intro w hS; have hc := op_fl hS.1; go_simp)) hq0 ?_
 go_frame
 refine tkA 4 (.pointer (some ⟨P.xw, 1, none⟩)) rfl hq0 ?_
 go_frame
 refine tqA 5 (.slice (some ⟨bf, 0, none⟩) 3 cf) rfl (yA (by intro w hS; have hc := hS.2.1; go_simp)) hq0 ?_
 go_frame
 refine wpAnyH_ready (rs := [8, 16]) (by kernel_rfl) (by simp) ?_
 refine (consA rfl (fun K hK => ?_) (consA rfl (fun K hK => ?_) AllReadyH.nil))
 · skip
   go_simp
   go_at_call 10
   refine (hPJ.out _).mono ?_
   rintro e w4 ⟨rfl, rfl⟩
   go_wp2_with fail
   refine hK.out _ _ (hq0) ?_
   clear hK K hq0
   intro hq0
   try go_frame
   refine tkA 9 (.pointer (some ⟨bf, j, none⟩)) rfl hq0 ?_
   go_frame
   refine tqA 10 (.pointer fp) rfl (yA (by intro w hS; have hc := hS.2.2; go_simp)) hq0 ?_
   go_frame
   refine tqA 11 (.bool had) rfl (yA (by intro w hS; (rcases HP.out with ⟨rfl, rfl⟩ | ⟨_, rfl, rfl⟩ <;> go_simp))) hq0 ?_
   go_frame
   refine wpAnyH_ready (rs := [12, 16]) (by kernel_rfl) (by simp) ?_
   refine (consA rfl (fun K hK => ?_) (consA rfl (fun K hK => ?_) AllReadyH.nil))
   · skip
     go_simp
     go_at_call 9
     refine (KL.out _ (by first | exact B1.out | exact B2.out)).mono ?_
     rintro e w6 ⟨⟨v6, rfl, hO6⟩, P6, rm6, hp6, hx6, hI6, hB6, hf6⟩
     obtain ⟨sv, cv, rfl, -, -⟩ := id hO6.form
     have hOv := hO6
     have hBw : Below base w w6 := Below.trans (by first | exact B1.out.mono HHb.out | exact B2.out.mono HHb.out) hB6
     have hFw : ∀ k, k < w.heap.size → (∀ c, pgm c → k ∉ (comp base m P A B rm c).fp) → w6.heap[k]? = w.heap[k]? := fun k hk hc => (hf6 k (by first | exact hk | (simp only [al_sz, dr_sz]; omega)) hc).trans (by first | exact B1.out.block k hk | exact B2.out.block k hk)
     try replace hA := (hf6 _ (hlt_ hA) (fun c _ hq => by have := hlt0 c _ hq; have := hgA; omega)).trans hA
     clear hf6 hB6 hO6
     go_wp2_with fail
     refine hK.out _ _ (⟨(hFw q1 l1 hq1).trans r1, (cell_fr (hFw P.xw lX nXW)).trans x1', (cell_fr (hFw bf lB nBF)).trans xf'⟩) ?_
     clear hK K hq0
     intro hq0
     try go_frame
     refine tkA 13 (.tuple #[.agg (r.2.C (.slice sv r.2.raw.length cv)), .bool true]) rfl hq0 ?_
     go_frame
     refine tkA 14 (.agg (r.2.C (.slice sv r.2.raw.length cv))) rfl hq0 ?_
     go_frame
     refine tkA 15 (.bool true) rfl hq0 ?_
     go_frame
     refine rdA 16 rfl (fun K hK => ?_)
     have hA := ans_new hq0.1
     have hgA := ga_le (w := w) hq0.1 (by first | exact Nat.le_refl _ | exact hBw.size)
     try simp only [al_sz, dr_sz] at hA hgA
     try replace hFw := fun k hk hc => ((al_bel _ (.cells zzA 43)).block k (Nat.lt_of_lt_of_le hk hBw.size)).trans (hFw k hk hc)
     try replace hI6 := hI6.below (al_bel _ (.cells zzA 43))
     try replace hOv := hOv.below (al_bel _ (.cells zzA 43)) (Nat.le_refl _)
     try replace hBw := hBw.alloc (Nat.le_trans HHb.out hBw.size) (.cells zzA 43)
     rw [if_pos (by rfl)]
     unfold Oper.wp
     rw [AA.out _ _ _ rfl]
     refine hK.out _ _ (⟨hold hq0.1, cell_al hq0.2.1, cell_al hq0.2.2⟩) ?_
     clear hK K hq0
     intro hq0
     try go_frame
     refine rdA 17 rfl (fun K hK => ?_)
     rw [if_pos (by rfl)]
     refine wp_store_row 43 _ _ rfl _ (r.2.C (.slice sv r.2.raw.length cv)) rfl rfl 43 _ hA (ansN _ _ _ _ _ _ _ _) rfl (ansO _ _ _ _ _ _ _ _ _ _) ?_
     have qA := setRow_heap _ _ _ (r.2.C (.slice sv r.2.raw.length cv)) _ _ hA
     have qI := hI6.aside _ (Nat.le_trans HHb.out hgA) (hI6.not_in hA) (r.2.C (.slice sv r.2.raw.length cv))
     have qO := own_ans hOv hA (r.2.C (.slice sv r.2.raw.length cv))
     have qB := below_setRow hBw (Nat.le_trans HHb.out hgA) (r.2.C (.slice sv r.2.raw.length cv))
     have qF := fun k (hk : k < w.heap.size) (hc : ∀ c, pgm c → k ∉ (comp base m P A B rm c).fp) => (setRow_other _ _ _ (r.2.C (.slice sv r.2.raw.length cv)) (ne_lt hgA hk)).trans (hFw k hk hc)
     refine hK.out _ _ (⟨(setRow_other _ _ _ _ (ne_ty hq0.1 hA (by decide))).trans hq0.1, (cell_aside _ (ne_lt hgA lX)).trans hq0.2.1, (cell_aside _ (ne_lt hgA lB)).trans hq0.2.2⟩) ?_
     clear hK K hq0
     intro hq0
     try go_frame
     refine tkA 18 (.bool true) rfl hq0 ?_
     go_frame
     refine wdA ?_
     subst hrr
     exact HK _ sv cv _ _ _ _ _ _ _ _ _ _ _ _ _ _ _ _ _ hgA qA (Own.srcN9 qO) ⟨P6, rm6, hp6, hx6, qI⟩ qB qF
   · skip
     have hA := ans_new hq0.1
     have hgA := ga_le (w := w) hq0.1 (by first | exact Nat.le_refl _ | exact hBw.size)
     try simp only [al_sz, dr_sz] at hA hgA
     try replace hFw := fun k hk hc => ((al_bel _ (.cells zzA 43)).block k (Nat.lt_of_lt_of_le hk hBw.size)).trans (hFw k hk hc)
     try replace hI6 := hI6.below (al_bel _ (.cells zzA 43))
     try replace hOv := hOv.below (al_bel _ (.cells zzA 43)) (Nat.le_refl _)
     try replace hBw := hBw.alloc (Nat.le_trans HHb.out hBw.size) (.cells zzA 43)
     rw [if_pos (by rfl)]
     unfold Oper.wp
     rw [AA.out _ _ _ rfl]
     refine hK.out _ _ (⟨hold hq0.1, cell_al hq0.2.1, cell_al hq0.2.2⟩) ?_
     clear hK K hq0
     intro hq0
     try go_frame
     refine rdA 12 rfl (fun K hK => ?_)
     go_simp
     go_at_call 9
     refine (KL.out _ (by first | exact B1.out | exact B2.out)).mono ?_
     rintro e w6 ⟨⟨v6, rfl, hO6⟩, P6, rm6, hp6, hx6, hI6, hB6, hf6⟩
     obtain ⟨sv, cv, rfl, -, -⟩ := id hO6.form
     have hOv := hO6
     have hBw : Below base w w6 := Below.trans (by first | exact B1.out.mono HHb.out | exact B2.out.mono HHb.out) hB6
     have hFw : ∀ k, k < w.heap.size → (∀ c, pgm c → k ∉ (comp base m P A B rm c).fp) → w6.heap[k]? = w.heap[k]? := fun k hk hc => (hf6 k (by first | exact hk | (simp only [al_sz, dr_sz]; omega)) hc).trans (by first | exact B1.out.block k hk | exact B2.out.block k hk)
     try replace hA := (hf6 _ (hlt_ hA) (fun c _ hq => by have := hlt0 c _ hq; have := hgA; omega)).trans hA
     clear hf6 hB6 hO6
     go_wp2_with fail
     refine hK.out _ _ (⟨(hFw q1 l1 hq1).trans r1, (cell_fr (hFw P.xw lX nXW)).trans x1', (cell_fr (hFw bf lB nBF)).trans xf'⟩) ?_
     clear hK K hq0
     intro hq0
     try go_frame
     refine tkA 13 (.tuple #[.agg (r.2.C (.slice sv r.2.raw.length cv)), .bool true]) rfl hq0 ?_
     go_frame
     refine tkA 14 (.agg (r.2.C (.slice sv r.2.raw.length cv))) rfl hq0 ?_
     go_frame
     refine tkA 15 (.bool true) rfl hq0 ?_
     go_frame
     refine rdA 17 rfl (fun K hK => ?_)
     rw [if_pos (by rfl)]
     refine wp_store_row 43 _ _ rfl _ (r.2.C (.slice sv r.2.raw.length cv)) rfl rfl 43 _ hA (ansN _ _ _ _ _ _ _ _) rfl (ansO _ _ _ _ _ _ _ _ _ _) ?_
     have qA := setRow_heap _ _ _ (r.2.C (.slice sv r.2.raw.length cv)) _ _ hA
     have qI := hI6.aside _ (Nat.le_trans HHb.out hgA) (hI6.not_in hA) (r.2.C (.slice sv r.2.raw.length cv))
     have qO := own_ans hOv hA (r.2.C (.slice sv r.2.raw.length cv))
     have qB := below_setRow hBw (Nat.le_trans HHb.out hgA) (r.2.C (.slice sv r.2.raw.length cv))
     have qF := fun k (hk : k < w.heap.size) (hc : ∀ c, pgm c → k ∉ (comp base m P A B rm c).fp) => (setRow_other _ _ _ (r.2.C (.slice sv r.2.raw.length cv)) (ne_lt hgA hk)).trans (hFw k hk hc)
     refine hK.out _ _ (⟨(setRow_other _ _ _ _ (ne_ty hq0.1 hA (by decide))).trans hq0.1, (cell_aside _ (ne_lt hgA lX)).trans hq0.2.1, (cell_aside _ (ne_lt hgA lB)).trans hq0.2.2⟩) ?_
     clear hK K hq0
     intro hq0
     try go_frame
     refine tkA 18 (.bool true) rfl hq0 ?_
     go_frame
     refine wdA ?_
     subst hrr
     exact HK _ sv cv _ _ _ _ _ _ _ _ _ _ _ _ _ _ _ _ _ hgA qA (Own.srcN9 qO) ⟨P6, rm6, hp6, hx6, qI⟩ qB qF
 · skip
   have hA := ans_new hq0.1
   have hgA := ga_le (w := w) hq0.1 (by first | exact Nat.le_refl _ | exact hBw.size)
   try simp only [al_sz, dr_sz] at hA hgA
   try replace hFw := fun k hk hc => ((al_bel _ (.cells zzA 43)).block k (Nat.lt_of_lt_of_le hk hBw.size)).trans (hFw k hk hc)
   try replace hI6 := hI6.below (al_bel _ (.cells zzA 43))
   try replace hOv := hOv.below (al_bel _ (.cells zzA 43)) (Nat.le_refl _)
   try replace hBw := hBw.alloc (Nat.le_trans HHb.out hBw.size) (.cells zzA 43)
   rw [if_pos (by rfl)]
   unfold Oper.wp
   rw [AA.out _ _ _ rfl]
   refine hK.out _ _ (⟨hold hq0.1, cell_al hq0.2.1, cell_al hq0.2.2⟩) ?_
   clear hK K hq0
   intro hq0
   try go_frame
   refine rdA 8 rfl (fun K hK => ?_)
   go_simp
   go_at_call 10
   refine (hPJ.out _).mono ?_
   rintro e w4 ⟨rfl, rfl⟩
   go_wp2_with fail
   refine hK.out _ _ (hq0) ?_
   clear hK K hq0
   intro hq0
   try go_frame
   refine tkA 9 (.pointer (some ⟨bf, j, none⟩)) rfl hq0 ?_
   go_frame
   refine tqA 10 (.pointer fp) rfl (yA (by intro w hS; have hc := hS.2.2; go_simp)) hq0 ?_
   go_frame
   refine tqA 11 (.bool had) rfl (yA (by intro w hS; (rcases HP.out with ⟨rfl, rfl⟩ | ⟨_, rfl, rfl⟩ <;> go_simp))) hq0 ?_
   go_frame
   refine rdA 12 rfl (fun K hK => ?_)
   go_simp
   go_at_call 9
   refine (KL.out _ (by first | exact B1.out | exact B2.out)).mono ?_
   rintro e w6 ⟨⟨v6, rfl, hO6⟩, P6, rm6, hp6, hx6, hI6, hB6, hf6⟩
   obtain ⟨sv, cv, rfl, -, -⟩ := id hO6.form
   have hOv := hO6
   have hBw : Below base w w6 := Below.trans (by first | exact B1.out.mono HHb.out | exact B2.out.mono HHb.out) hB6
   have hFw : ∀ k, k < w.heap.size → (∀ c, pgm c → k ∉ (comp base m P A B rm c).fp) → w6.heap[k]? = w.heap[k]? := fun k hk hc => (hf6 k (by first | exact hk | (simp only [al_sz, dr_sz]; omega)) hc).trans (by first | exact B1.out.block k hk | exact B2.out.block k hk)
   try replace hA := (hf6 _ (hlt_ hA) (fun c _ hq => by have := hlt0 c _ hq; have := hgA; omega)).trans hA
   clear hf6 hB6 hO6
   go_wp2_with fail
   refine hK.out _ _ (⟨(hFw q1 l1 hq1).trans r1, (cell_fr (hFw P.xw lX nXW)).trans x1', (cell_fr (hFw bf lB nBF)).trans xf'⟩) ?_
   clear hK K hq0
   intro hq0
   try go_frame
   refine tkA 13 (.tuple #[.agg (r.2.C (.slice sv r.2.raw.length cv)), .bool true]) rfl hq0 ?_
   go_frame
   refine tkA 14 (.agg (r.2.C (.slice sv r.2.raw.length cv))) rfl hq0 ?_
   go_frame
   refine tkA 15 (.bool true) rfl hq0 ?_
   go_frame
   refine rdA 17 rfl (fun K hK => ?_)
   rw [if_pos (by rfl)]
   refine wp_store_row 43 _ _ rfl _ (r.2.C (.slice sv r.2.raw.length cv)) rfl rfl 43 _ hA (ansN _ _ _ _ _ _ _ _) rfl (ansO _ _ _ _ _ _ _ _ _ _) ?_
   have qA := setRow_heap _ _ _ (r.2.C (.slice sv r.2.raw.length cv)) _ _ hA
   have qI := hI6.aside _ (Nat.le_trans HHb.out hgA) (hI6.not_in hA) (r.2.C (.slice sv r.2.raw.length cv))
   have qO := own_ans hOv hA (r.2.C (.slice sv r.2.raw.length cv))
   have qB := below_setRow hBw (Nat.le_trans HHb.out hgA) (r.2.C (.slice sv r.2.raw.length cv))
   have qF := fun k (hk : k < w.heap.size) (hc : ∀ c, pgm c → k ∉ (comp base m P A B rm c).fp) => (setRow_other _ _ _ (r.2.C (.slice sv r.2.raw.length cv)) (ne_lt hgA hk)).trans (hFw k hk hc)
   refine hK.out _ _ (⟨(setRow_other _ _ _ _ (ne_ty hq0.1 hA (by decide))).trans hq0.1, (cell_aside _ (ne_lt hgA lX)).trans hq0.2.1, (cell_aside _ (ne_lt hgA lB)).trans hq0.2.2⟩) ?_
   clear hK K hq0
   intro hq0
   try go_frame
   refine tkA 18 (.bool true) rfl hq0 ?_
   go_frame
   refine wdA ?_
   subst hrr
   exact HK _ sv cv _ _ _ _ _ _ _ _ _ _ _ _ _ _ _ _ _ hgA qA (Own.srcN9 qO) ⟨P6, rm6, hp6, hx6, qI⟩ qB qF
end
end Go.Proofs.YtjhocjjecfdphaaGreatDoor
