import Derived.Test.YtjhocjjecfdphaaGreatDoorQ32
namespace Go.Proofs.YtjhocjjecfdphaaGreatDoor
set_option linter.unusedVariables false
set_option linter.unusedSimpArgs false
set_option maxRecDepth 100000
set_option maxHeartbeats 4000000
section
open Go.RowKit
attribute [local go_sem ↓] Go.wp_at_zero Go.wp_at_succ
def dskF (D : DS) (o : OP) : DS × AN :=
 if o.kd = 10 then (D, { an0 with n := D.np })
 else if o.kd = 11 then (D, { an0 with raw := D.img })
 else if o.kd = 12 then (D, { an0 with n := D.epoch })
 else if o.kd = 13 then (D, { an0 with c1 := D.reads, c2 := D.writes, c3 := D.syncs, c4 := D.ops.length })
 else if o.kd = 14 then (D, { an0 with n := if D.power = true then 1 else 0 })
 else if o.kd = 15 then ((synF D).1, { an0 with e := (synF D).2 })
 else if o.kd = 16 then ((wrtF D o.n o.raw).1, { an0 with e := (wrtF D o.n o.raw).2 })
 else if o.kd = 17 then (D.arm o.n, an0)
 else if o.kd = 18 then (D.crashed o.raw, { an0 with n := D.ops.length })
 else if o.kd = 19 then ((flpF D o.n o.m o.bt).1, { an0 with e := (flpF D o.n o.m o.bt).2 })
 else if o.kd = 20 then ({ D with epoch := D.epoch + 1 }, { an0 with n := D.epoch + 1 })
 else if o.kd = 21 then ((rdaF D o.n).1, { an0 with raw := (rdaF D o.n).2.1, e := (rdaF D o.n).2.2 })
 else (D, an0)
structure OpOk (w : World) (o : OP) (sp : Option Addr) (cap : Nat) : Prop where
 src : Src w sp cap o.raw
 nil : sp = none → cap = 0
 bts : Bts o.raw
 len : o.raw.length ≤ 1048576
 bt : o.bt < 4294967296
 n : o.n ≤ 9223372036854775807
theorem OpOk.below {w w1 : World} {o : OP} {sp : Option Addr} {cap : Nat} (h : OpOk w o sp cap) (hb : Below w.heap.size w w1) : OpOk w1 o sp cap := ⟨h.src.below hb (Nat.le_refl _), h.nil, h.bts, h.len, h.bt, h.n⟩
theorem xyes_any (w : World) (b : Bool) : Calls Tryz.prog 46 #[.bool b] w fun e w' => e = .returned (.int .i64 (if b = true then 1 else 0)) ∧ w = w' := by
 cases b with
 | true =>
   go_enter Tryz.func46, Tryz.ntmps46
   go_wp2
   go_ret
   exact ⟨rfl, rfl⟩
 | false =>
   go_enter Tryz.func46, Tryz.ntmps46
   go_wp2
   go_ret
   exact ⟨rfl, rfl⟩
structure Pro (w w2 : World) (o : OP) (rv : Value) : Prop where
 op : w2.heap[w.heap.size]? = some (.cells (o.C rv) 37 (0, 0))
 an : w2.heap[w.heap.size + 1]? = some (.cells zzA 43 (0, 0))
 bl : Below w.heap.size w w2
 sz : w2.heap.size = w.heap.size + 2
theorem Pro.mk' (w : World) (o : OP) (rv : Value) : Pro w ((w.alloc (.cells (o.C rv) 37)).alloc (.cells zzA 43)) o rv :=
 ⟨hold (hnew w _), by have := hnew (w.alloc (.cells (o.C rv) 37)) (.cells zzA 43); simpa using this, ((Below.refl _ w).alloc (Nat.le_refl _) _).alloc (by simp) _, by simp⟩
theorem Pro.cell {w w2 : World} {o : OP} {rv : Value} (h : Pro w w2 o rv) (j : Nat) : w2.cell? ⟨w.heap.size, j, none⟩ = (o.C rv)[j]? := cell_of_row _ _ _ _ _ _ h.op
theorem Pro.out {w w2 : World} {o : OP} {rv : Value} (h : Pro w w2 o rv) {F : List Nat} (hF : ∀ k ∈ F, k < w.heap.size) : w.heap.size + 1 ∉ F := fun e => by have := hF _ e; omega
theorem Pro.keep {w w2 w3 : World} {o : OP} {rv : Value} (h : Pro w w2 o rv) {F : List Nat} (hF : ∀ k ∈ F, k < w.heap.size) (hf : Fr F w2 w3) : w3.heap[w.heap.size + 1]? = some (.cells zzA 43 (0, 0)) := hf.keep h.an (h.out hF)
theorem Pro.endR {w w2 w3 : World} {o : OP} {rv : Value} (h : Pro w w2 o rv) {base : Nat} {F : List Nat} {p m : Nat} {D : DS} (hF : ∀ k ∈ F, k < w.heap.size) (hx : RX base F p w2 m D w3) (cs : Array Value) : RX base F p w m D (w3.setRow (w.heap.size + 1) cs) := by
 obtain ⟨F', h1, h2, h3⟩ := hx
 have hs := h.sz
 refine ⟨F', h1.of_heap fun k hk => setRow_other _ _ _ _ (fun e => ?_), ⟨h2.os.trans h.bl.os, h2.tape.trans h.bl.tape, h2.output.trans h.bl.output, by rw [setRow_size]; exact Nat.le_trans h.bl.size h2.size, fun k hk hn => ?_⟩, fun k hk => (h3 k hk).imp id (fun q => by omega)⟩
 · rcases h3 k hk with q | q
   · have := hF k q; omega
   · omega
 · rw [setRow_other _ _ _ _ (by omega), h2.block k (by omega) hn, h.bl.block k hk]
theorem Pro.own {w w2 w3 : World} {o : OP} {rv : Value} (h : Pro w w2 o rv) {v : Value} {zs : List Int} (hO : Own w3 w2.heap.size v zs) (cs : Array Value) : Own (w3.setRow (w.heap.size + 1) cs) w.heap.size v zs := by
 have hs := h.sz
 refine Own.base_le (b := w2.heap.size) (hO.of_heap fun k e => setRow_other _ _ _ _ (fun q => ?_)) (by omega)
 have := (hO.block k e).1
 omega
theorem RX.more {base : Nat} {F : List Nat} {p : Nat} {w w1 : World} {m : Nat} {D : DS} (h : RX base F p w m D w1) : RX base F p w (m + 1) D w1 := by
 obtain ⟨F1, h1, h2, h3⟩ := h; exact ⟨F1, h1.more (Nat.le_succ _), h2, h3⟩
theorem xdisk_14 (w : World) (base : Nat) (F : List Nat) (p m : Nat) (hm : m < 400000000000) (hbw : base ≤ w.heap.size) (D : DS) (h : RD w base F p m D) (o : OP) (hk : o.kd = 14) (sp : Option Addr) (cap : Nat) (ho : OpOk w o sp cap) :
   Calls Tryz.prog 18 #[.pointer (some ⟨p, 0, none⟩), .agg (o.C (.slice sp o.raw.length cap))] w fun e w' => Told w.heap.size w' (dskF D o).2 e ∧ RX base F p w (m + 1) (dskF D o).1 w' := by
 have hE : dskF D o = (D, { an0 with n := if D.power = true then 1 else 0 }) := by unfold dskF; rw [if_neg (by rw [hk]; decide), if_neg (by rw [hk]; decide), if_neg (by rw [hk]; decide), if_neg (by rw [hk]; decide), if_pos hk]
 rw [hE]
 have hP := Pro.mk' w o (.slice sp o.raw.length cap)
 have hLT : ∀ k ∈ F, k < w.heap.size := fun k hk => (h.lt k hk).2
 have k0 := hP.cell 0
 obtain ⟨w2, hw2⟩ : ∃ w2, w2 = (w.alloc (.cells (o.C (.slice sp o.raw.length cap)) 37)).alloc (.cells zzA 43) := ⟨_, rfl⟩
 have hW2 := hid hw2
 rw [← hw2] at hP
 have h2 := h.below hP.bl
 have o2 := ho.below hP.bl
 have hb2 : base ≤ w2.heap.size := Nat.le_trans hbw hP.bl.size
 have HC := hid (rPower_any w2 base F p m D h2)
 have HY := hid (xyes_any w2 D.power)
 obtain ⟨yn, hyn⟩ : ∃ yn : Int, yn = (if D.power = true then 1 else 0) := ⟨_, rfl⟩
 rw [← hyn] at HY ⊢
 clear hyn
 have HP := hid hP
 have HLT := hid hLT
 have H2 := hid h2
 clear h ho h2 o2 hP hLT hE hw2
 replace k0 : ((w.alloc (.cells (o.C (.slice sp o.raw.length cap)) 37)).alloc (.cells zzA 43)).cell? ⟨w.heap.size, 0, none⟩ = some (.int .i64 14) := by rw [← hk]; exact k0
 clear hk
 go_enter Tryz.func18, Tryz.ntmps18
 go_wp2_with (first
   | refine wpList_box_op rfl (.tmp 1) rfl o sp o.raw.length cap rfl ?_
   | (go_at_call 30; rw [← hW2.out]; refine HC.out.mono ?_; rintro e w3 ⟨rfl, rfl⟩)
   | (go_at_call 46; refine HY.out.mono ?_; rintro e w4 ⟨rfl, rfl⟩)
   | refine wpA_1 rfl (.tmp 48) rfl yn rfl ?_
   | (refine wpList_store_row rfl 43 (.tmp 4) _ rfl (w.heap.size + 1) (ansC 0 yn (.slice none 0 0) sup0 0 0 0 0) (by first | rfl | simp [Act.eval]) rfl 43 zzA (HP.out.an) (ansN _ _ _ _ _ _ _ _) rfl (ansO _ _ _ _ _ _ _ _ _ _) ?_))
 refine bodyPost_ret (results_c1 Tryz.results18 _ _ (w.heap.size + 1) 43 _ _ _ (by first | rfl | simp) (setRow_heap _ _ _ _ _ _ (HP.out.an)) Tryz.underlying43 rfl (ansN _ _ _ _ _ _ _ _)) rfl ?_
 exact ⟨⟨.slice none 0 0, rfl, HP.out.own ((Own.nil _ _)) _⟩, HP.out.endR HLT.out (RX.refl H2.out) _⟩
theorem xdk1 : (∀ (w : World) (base : Nat) (F : List Nat) (p m : Nat) (hm : m < 400000000000) (hbw : base ≤ w.heap.size) (D : DS) (h : RD w base F p m D) (o : OP) (hk : o.kd = 16) (sp : Option Addr) (cap : Nat) (ho : OpOk w o sp cap), Calls Tryz.prog 18 #[.pointer (some ⟨p, 0, none⟩), .agg (o.C (.slice sp o.raw.length cap))] w fun e w' => Told w.heap.size w' (dskF D o).2 e ∧ RX base F p w (m + 1) (dskF D o).1 w') ∧ (∀ (w : World) (base : Nat) (F : List Nat) (p m : Nat) (hm : m < 400000000000) (hbw : base ≤ w.heap.size) (D : DS) (h : RD w base F p m D) (o : OP) (hk : o.kd = 18) (sp : Option Addr) (cap : Nat) (ho : OpOk w o sp cap), Calls Tryz.prog 18 #[.pointer (some ⟨p, 0, none⟩), .agg (o.C (.slice sp o.raw.length cap))] w fun e w' => Told w.heap.size w' (dskF D o).2 e ∧ RX base F p w (m + 1) (dskF D o).1 w') ∧ (∀ (w : World) (base : Nat) (F : List Nat) (p m : Nat) (hm : m < 400000000000) (hbw : base ≤ w.heap.size) (D : DS) (h : RD w base F p m D) (o : OP) (hk : o.kd = 19) (sp : Option Addr) (cap : Nat) (ho : OpOk w o sp cap), Calls Tryz.prog 18 #[.pointer (some ⟨p, 0, none⟩), .agg (o.C (.slice sp o.raw.length cap))] w fun e w' => Told w.heap.size w' (dskF D o).2 e ∧ RX base F p w (m + 1) (dskF D o).1 w') := by
 refine ⟨?_, ?_, ?_⟩
 intro w base F p m hm hbw D h o hk sp cap ho
 have hE : dskF D o = ((wrtF D o.n o.raw).1, { an0 with e := (wrtF D o.n o.raw).2 }) := by unfold dskF; rw [if_neg (by rw [hk]; decide), if_neg (by rw [hk]; decide), if_neg (by rw [hk]; decide), if_neg (by rw [hk]; decide), if_neg (by rw [hk]; decide), if_neg (by rw [hk]; decide), if_pos hk]
 rotate_left
 intro w base F p m hm hbw D h o hk sp cap ho
 have hE : dskF D o = (D.crashed o.raw, { an0 with n := D.ops.length }) := by unfold dskF; rw [if_neg (by rw [hk]; decide), if_neg (by rw [hk]; decide), if_neg (by rw [hk]; decide), if_neg (by rw [hk]; decide), if_neg (by rw [hk]; decide), if_neg (by rw [hk]; decide), if_neg (by rw [hk]; decide), if_neg (by rw [hk]; decide), if_pos hk]
 rotate_left
 intro w base F p m hm hbw D h o hk sp cap ho
 have hE : dskF D o = ((flpF D o.n o.m o.bt).1, { an0 with e := (flpF D o.n o.m o.bt).2 }) := by unfold dskF; rw [if_neg (by rw [hk]; decide), if_neg (by rw [hk]; decide), if_neg (by rw [hk]; decide), if_neg (by rw [hk]; decide), if_neg (by rw [hk]; decide), if_neg (by rw [hk]; decide), if_neg (by rw [hk]; decide), if_neg (by rw [hk]; decide), if_neg (by rw [hk]; decide), if_pos hk]
 rotate_left
 all_goals
  rw [hE]
  have hP := Pro.mk' w o (.slice sp o.raw.length cap)
  have hLT : ∀ k ∈ F, k < w.heap.size := fun k hk => (h.lt k hk).2
  have k0 := hP.cell 0
 have k4 := hP.cell 4
 have k6 := hP.cell 6
 rotate_left
 have k6 := hP.cell 6
 rotate_left
 have k4 := hP.cell 4
 have k5 := hP.cell 5
 have k7 := hP.cell 7
 rotate_left
 all_goals
  obtain ⟨w2, hw2⟩ : ∃ w2, w2 = (w.alloc (.cells (o.C (.slice sp o.raw.length cap)) 37)).alloc (.cells zzA 43) := ⟨_, rfl⟩
  have hW2 := hid hw2
  rw [← hw2] at hP
  have h2 := h.below hP.bl
  have o2 := ho.below hP.bl
  have hb2 : base ≤ w2.heap.size := Nat.le_trans hbw hP.bl.size
 have HC := hid (rWrite_all w2 base F p m hm hb2 D h2 o.n o.raw o2.bts _ rfl sp cap o2.src o2.nil)
 generalize wrtF D o.n o.raw = Y at *
 rotate_left
 have HC := hid (rCrash_any w2 base F p m hm hb2 D h2 o.raw o2.bts _ rfl (by have := o2.len; omega) sp cap o2.src o2.nil)
 rotate_left
 have HC := hid (rFlip_all w2 base F p m hm hb2 D h2 o.n o.m o.bt o2.bt)
 generalize flpF D o.n o.m o.bt = Y at *
 rotate_left
 all_goals
  have HP := hid hP
  have HLT := hid hLT
  have H2 := hid h2
  clear h ho h2 o2 hP hLT hE hw2
 replace k0 : ((w.alloc (.cells (o.C (.slice sp o.raw.length cap)) 37)).alloc (.cells zzA 43)).cell? ⟨w.heap.size, 0, none⟩ = some (.int .i64 16) := by rw [← hk]; exact k0
 replace k4 : ((w.alloc (.cells (o.C (.slice sp o.raw.length cap)) 37)).alloc (.cells zzA 43)).cell? ⟨w.heap.size, 4, none⟩ = some (.int .i64 o.n) := k4
 replace k6 : ((w.alloc (.cells (o.C (.slice sp o.raw.length cap)) 37)).alloc (.cells zzA 43)).cell? ⟨w.heap.size, 6, none⟩ = some (.slice sp o.raw.length cap) := k6
 rotate_left
 replace k0 : ((w.alloc (.cells (o.C (.slice sp o.raw.length cap)) 37)).alloc (.cells zzA 43)).cell? ⟨w.heap.size, 0, none⟩ = some (.int .i64 18) := by rw [← hk]; exact k0
 replace k6 : ((w.alloc (.cells (o.C (.slice sp o.raw.length cap)) 37)).alloc (.cells zzA 43)).cell? ⟨w.heap.size, 6, none⟩ = some (.slice sp o.raw.length cap) := k6
 rotate_left
 replace k0 : ((w.alloc (.cells (o.C (.slice sp o.raw.length cap)) 37)).alloc (.cells zzA 43)).cell? ⟨w.heap.size, 0, none⟩ = some (.int .i64 19) := by rw [← hk]; exact k0
 replace k4 : ((w.alloc (.cells (o.C (.slice sp o.raw.length cap)) 37)).alloc (.cells zzA 43)).cell? ⟨w.heap.size, 4, none⟩ = some (.int .i64 o.n) := k4
 replace k5 : ((w.alloc (.cells (o.C (.slice sp o.raw.length cap)) 37)).alloc (.cells zzA 43)).cell? ⟨w.heap.size, 5, none⟩ = some (.int .i64 o.m) := k5
 replace k7 : ((w.alloc (.cells (o.C (.slice sp o.raw.length cap)) 37)).alloc (.cells zzA 43)).cell? ⟨w.heap.size, 7, none⟩ = some (.int .u32 o.bt) := k7
 rotate_left
 all_goals
  clear hk
  go_enter Tryz.func18, Tryz.ntmps18
 go_wp2_with (first
   | refine wpList_box_op rfl (.tmp 1) rfl o sp o.raw.length cap rfl ?_
   | (go_at_call 35; rw [← hW2.out]; refine HC.out.mono ?_; rintro e w3 ⟨rfl, hX⟩; have HX := hid hX; have HAN := hid (HP.out.keep HLT.out hX.choose_spec.2.1); clear hX)
   | refine wpA_0 rfl (.tmp 64) rfl Y.2 rfl ?_
   | (refine wpList_store_row rfl 43 (.tmp 4) _ rfl (w.heap.size + 1) (ansC Y.2 0 (.slice none 0 0) sup0 0 0 0 0) (by first | rfl | simp [Act.eval]) rfl 43 zzA (HAN.out) (ansN _ _ _ _ _ _ _ _) rfl (ansO _ _ _ _ _ _ _ _ _ _) ?_))
 rotate_left
 go_wp2_with (first
   | refine wpList_box_op rfl (.tmp 1) rfl o sp o.raw.length cap rfl ?_
   | (go_at_call 48; rw [← hW2.out]; refine HC.out.mono ?_; rintro e w3 ⟨rfl, hX⟩; have HX := hid hX; have HAN := hid (HP.out.keep HLT.out hX.choose_spec.2.1); clear hX)
   | refine wpA_1 rfl (.tmp 78) rfl D.ops.length rfl ?_
   | (refine wpList_store_row rfl 43 (.tmp 4) _ rfl (w.heap.size + 1) (ansC 0 D.ops.length (.slice none 0 0) sup0 0 0 0 0) (by first | rfl | simp [Act.eval]) rfl 43 zzA (HAN.out) (ansN _ _ _ _ _ _ _ _) rfl (ansO _ _ _ _ _ _ _ _ _ _) ?_))
 rotate_left
 go_wp2_with (first
   | refine wpList_box_op rfl (.tmp 1) rfl o sp o.raw.length cap rfl ?_
   | (go_at_call 49; rw [← hW2.out]; refine HC.out.mono ?_; rintro e w3 ⟨rfl, hX⟩; have HX := hid hX; have HAN := hid (HP.out.keep HLT.out hX.choose_spec.2.1); clear hX)
   | refine wpA_0 rfl (.tmp 90) rfl Y.2 rfl ?_
   | (refine wpList_store_row rfl 43 (.tmp 4) _ rfl (w.heap.size + 1) (ansC Y.2 0 (.slice none 0 0) sup0 0 0 0 0) (by first | rfl | simp [Act.eval]) rfl 43 zzA (HAN.out) (ansN _ _ _ _ _ _ _ _) rfl (ansO _ _ _ _ _ _ _ _ _ _) ?_))
 rotate_left
 all_goals
  refine bodyPost_ret (results_c1 Tryz.results18 _ _ (w.heap.size + 1) 43 _ _ _ (by first | rfl | simp) (setRow_heap _ _ _ _ _ _ (HAN.out)) Tryz.underlying43 rfl (ansN _ _ _ _ _ _ _ _)) rfl ?_
  exact ⟨⟨.slice none 0 0, rfl, HP.out.own ((Own.nil _ _)) _⟩, HP.out.endR HLT.out HX.out _⟩
theorem xdk0 : (∀ (w : World) (base : Nat) (F : List Nat) (p m : Nat) (hm : m < 400000000000) (hbw : base ≤ w.heap.size) (D : DS) (h : RD w base F p m D) (o : OP) (hk : o.kd = 10) (sp : Option Addr) (cap : Nat) (ho : OpOk w o sp cap), Calls Tryz.prog 18 #[.pointer (some ⟨p, 0, none⟩), .agg (o.C (.slice sp o.raw.length cap))] w fun e w' => Told w.heap.size w' (dskF D o).2 e ∧ RX base F p w (m + 1) (dskF D o).1 w') ∧ (∀ (w : World) (base : Nat) (F : List Nat) (p m : Nat) (hm : m < 400000000000) (hbw : base ≤ w.heap.size) (D : DS) (h : RD w base F p m D) (o : OP) (hk : o.kd = 11) (sp : Option Addr) (cap : Nat) (ho : OpOk w o sp cap), Calls Tryz.prog 18 #[.pointer (some ⟨p, 0, none⟩), .agg (o.C (.slice sp o.raw.length cap))] w fun e w' => Told w.heap.size w' (dskF D o).2 e ∧ RX base F p w (m + 1) (dskF D o).1 w') ∧ (∀ (w : World) (base : Nat) (F : List Nat) (p m : Nat) (hm : m < 400000000000) (hbw : base ≤ w.heap.size) (D : DS) (h : RD w base F p m D) (o : OP) (hk : o.kd = 12) (sp : Option Addr) (cap : Nat) (ho : OpOk w o sp cap), Calls Tryz.prog 18 #[.pointer (some ⟨p, 0, none⟩), .agg (o.C (.slice sp o.raw.length cap))] w fun e w' => Told w.heap.size w' (dskF D o).2 e ∧ RX base F p w (m + 1) (dskF D o).1 w') ∧ (∀ (w : World) (base : Nat) (F : List Nat) (p m : Nat) (hm : m < 400000000000) (hbw : base ≤ w.heap.size) (D : DS) (h : RD w base F p m D) (o : OP) (hk : o.kd = 13) (sp : Option Addr) (cap : Nat) (ho : OpOk w o sp cap), Calls Tryz.prog 18 #[.pointer (some ⟨p, 0, none⟩), .agg (o.C (.slice sp o.raw.length cap))] w fun e w' => Told w.heap.size w' (dskF D o).2 e ∧ RX base F p w (m + 1) (dskF D o).1 w') ∧ (∀ (w : World) (base : Nat) (F : List Nat) (p m : Nat) (hm : m < 400000000000) (hbw : base ≤ w.heap.size) (D : DS) (h : RD w base F p m D) (o : OP) (hk : o.kd = 15) (sp : Option Addr) (cap : Nat) (ho : OpOk w o sp cap), Calls Tryz.prog 18 #[.pointer (some ⟨p, 0, none⟩), .agg (o.C (.slice sp o.raw.length cap))] w fun e w' => Told w.heap.size w' (dskF D o).2 e ∧ RX base F p w (m + 1) (dskF D o).1 w') ∧ (∀ (w : World) (base : Nat) (F : List Nat) (p m : Nat) (hm : m < 400000000000) (hbw : base ≤ w.heap.size) (D : DS) (h : RD w base F p m D) (o : OP) (hk : o.kd = 20) (sp : Option Addr) (cap : Nat) (ho : OpOk w o sp cap), Calls Tryz.prog 18 #[.pointer (some ⟨p, 0, none⟩), .agg (o.C (.slice sp o.raw.length cap))] w fun e w' => Told w.heap.size w' (dskF D o).2 e ∧ RX base F p w (m + 1) (dskF D o).1 w') := by
 refine ⟨?_, ?_, ?_, ?_, ?_, ?_⟩
 intro w base F p m hm hbw D h o hk sp cap ho
 have hE : dskF D o = (D, { an0 with n := D.np }) := by unfold dskF; rw [if_pos hk]
 rotate_left
 intro w base F p m hm hbw D h o hk sp cap ho
 have hE : dskF D o = (D, { an0 with raw := D.img }) := by unfold dskF; rw [if_neg (by rw [hk]; decide), if_pos hk]
 rotate_left
 intro w base F p m hm hbw D h o hk sp cap ho
 have hE : dskF D o = (D, { an0 with n := D.epoch }) := by unfold dskF; rw [if_neg (by rw [hk]; decide), if_neg (by rw [hk]; decide), if_pos hk]
 rotate_left
 intro w base F p m hm hbw D h o hk sp cap ho
 have hE : dskF D o = (D, { an0 with c1 := D.reads, c2 := D.writes, c3 := D.syncs, c4 := D.ops.length }) := by unfold dskF; rw [if_neg (by rw [hk]; decide), if_neg (by rw [hk]; decide), if_neg (by rw [hk]; decide), if_pos hk]
 rotate_left
 intro w base F p m hm hbw D h o hk sp cap ho
 have hE : dskF D o = ((synF D).1, { an0 with e := (synF D).2 }) := by unfold dskF; rw [if_neg (by rw [hk]; decide), if_neg (by rw [hk]; decide), if_neg (by rw [hk]; decide), if_neg (by rw [hk]; decide), if_neg (by rw [hk]; decide), if_pos hk]
 rotate_left
 intro w base F p m hm hbw D h o hk sp cap ho
 have hE : dskF D o = ({ D with epoch := D.epoch + 1 }, { an0 with n := D.epoch + 1 }) := by unfold dskF; rw [if_neg (by rw [hk]; decide), if_neg (by rw [hk]; decide), if_neg (by rw [hk]; decide), if_neg (by rw [hk]; decide), if_neg (by rw [hk]; decide), if_neg (by rw [hk]; decide), if_neg (by rw [hk]; decide), if_neg (by rw [hk]; decide), if_neg (by rw [hk]; decide), if_neg (by rw [hk]; decide), if_pos hk]
 rotate_left
 all_goals
  rw [hE]
  have hP := Pro.mk' w o (.slice sp o.raw.length cap)
  have hLT : ∀ k ∈ F, k < w.heap.size := fun k hk => (h.lt k hk).2
  have k0 := hP.cell 0
  obtain ⟨w2, hw2⟩ : ∃ w2, w2 = (w.alloc (.cells (o.C (.slice sp o.raw.length cap)) 37)).alloc (.cells zzA 43) := ⟨_, rfl⟩
  have hW2 := hid hw2
  rw [← hw2] at hP
  have h2 := h.below hP.bl
  have o2 := ho.below hP.bl
  have hb2 : base ≤ w2.heap.size := Nat.le_trans hbw hP.bl.size
 have HC := hid (rPages_any w2 base F p m D h2)
 rotate_left
 have HC := hid (rImage_any w2 base F p m hm hb2 D h2)
 rotate_left
 have HC := hid (rEpoch_any w2 base F p m D h2)
 rotate_left
 have HC := hid (rCounts_any w2 base F p m hm D h2)
 rotate_left
 have HC := hid (rSync_all w2 base F p m hm hb2 D h2)
 generalize synF D = Y at *
 rotate_left
 have HC := hid (rClaim_any w2 base F p m hm D h2)
 rotate_left
 all_goals
  have HP := hid hP
  have HLT := hid hLT
  have H2 := hid h2
  clear h ho h2 o2 hP hLT hE hw2
 replace k0 : ((w.alloc (.cells (o.C (.slice sp o.raw.length cap)) 37)).alloc (.cells zzA 43)).cell? ⟨w.heap.size, 0, none⟩ = some (.int .i64 10) := by rw [← hk]; exact k0
 rotate_left
 replace k0 : ((w.alloc (.cells (o.C (.slice sp o.raw.length cap)) 37)).alloc (.cells zzA 43)).cell? ⟨w.heap.size, 0, none⟩ = some (.int .i64 11) := by rw [← hk]; exact k0
 rotate_left
 replace k0 : ((w.alloc (.cells (o.C (.slice sp o.raw.length cap)) 37)).alloc (.cells zzA 43)).cell? ⟨w.heap.size, 0, none⟩ = some (.int .i64 12) := by rw [← hk]; exact k0
 rotate_left
 replace k0 : ((w.alloc (.cells (o.C (.slice sp o.raw.length cap)) 37)).alloc (.cells zzA 43)).cell? ⟨w.heap.size, 0, none⟩ = some (.int .i64 13) := by rw [← hk]; exact k0
 rotate_left
 replace k0 : ((w.alloc (.cells (o.C (.slice sp o.raw.length cap)) 37)).alloc (.cells zzA 43)).cell? ⟨w.heap.size, 0, none⟩ = some (.int .i64 15) := by rw [← hk]; exact k0
 rotate_left
 replace k0 : ((w.alloc (.cells (o.C (.slice sp o.raw.length cap)) 37)).alloc (.cells zzA 43)).cell? ⟨w.heap.size, 0, none⟩ = some (.int .i64 20) := by rw [← hk]; exact k0
 rotate_left
 all_goals
  clear hk
  go_enter Tryz.func18, Tryz.ntmps18
 · go_wp2_with (first
     | refine wpList_box_op rfl (.tmp 1) rfl o sp o.raw.length cap rfl ?_
     | (go_at_call 33; rw [← hW2.out]; refine HC.out.mono ?_; rintro e w3 ⟨rfl, rfl⟩)
     | refine wpA_1 rfl (.tmp 23) rfl (D.np : Nat) rfl ?_
     | (refine wpList_store_row rfl 43 (.tmp 4) _ rfl (w.heap.size + 1) (ansC 0 (D.np : Nat) (.slice none 0 0) sup0 0 0 0 0) (by first | rfl | simp [Act.eval]) rfl 43 zzA (HP.out.an) (ansN _ _ _ _ _ _ _ _) rfl (ansO _ _ _ _ _ _ _ _ _ _) ?_))
   refine bodyPost_ret (results_c1 Tryz.results18 _ _ (w.heap.size + 1) 43 _ _ _ (by first | rfl | simp) (setRow_heap _ _ _ _ _ _ (HP.out.an)) Tryz.underlying43 rfl (ansN _ _ _ _ _ _ _ _)) rfl ?_
   exact ⟨⟨.slice none 0 0, rfl, HP.out.own ((Own.nil _ _)) _⟩, HP.out.endR HLT.out (RX.refl H2.out) _⟩
 · go_wp2_with (first
     | refine wpList_box_op rfl (.tmp 1) rfl o sp o.raw.length cap rfl ?_
     | (go_at_call 43; rw [← hW2.out]; refine HC.out.mono ?_; rintro e w3 ⟨v, rfl, hO, hB⟩; have HO := hid hO; have HB := hid hB; obtain ⟨sv, cv, hv, _, _⟩ := hO.form; subst hv; have HAN := hid ((hB.block _ (by have := HP.out.sz; omega)).trans HP.out.an); clear hO hB)
     | refine wpA_2 rfl (.tmp 29) rfl sv D.img.length cv rfl ?_
     | (refine wpList_store_row rfl 43 (.tmp 4) _ rfl (w.heap.size + 1) (ansC 0 0 (.slice sv D.img.length cv) sup0 0 0 0 0) (by first | rfl | simp [Act.eval]) rfl 43 zzA (HAN.out) (ansN _ _ _ _ _ _ _ _) rfl (ansO _ _ _ _ _ _ _ _ _ _) ?_))
   refine bodyPost_ret (results_c1 Tryz.results18 _ _ (w.heap.size + 1) 43 _ _ _ (by first | rfl | simp) (setRow_heap _ _ _ _ _ _ (HAN.out)) Tryz.underlying43 rfl (ansN _ _ _ _ _ _ _ _)) rfl ?_
   exact ⟨⟨_, rfl, HP.out.own (HO.out) _⟩, HP.out.endR HLT.out ⟨F, (H2.out.below HB.out).more (Nat.le_succ _), Fr.of_below HB.out, Gr.refl _ _⟩ _⟩
 · go_wp2_with (first
     | refine wpList_box_op rfl (.tmp 1) rfl o sp o.raw.length cap rfl ?_
     | (go_at_call 44; rw [← hW2.out]; refine HC.out.mono ?_; rintro e w3 ⟨rfl, rfl⟩)
     | refine wpA_1 rfl (.tmp 35) rfl D.epoch rfl ?_
     | (refine wpList_store_row rfl 43 (.tmp 4) _ rfl (w.heap.size + 1) (ansC 0 D.epoch (.slice none 0 0) sup0 0 0 0 0) (by first | rfl | simp [Act.eval]) rfl 43 zzA (HP.out.an) (ansN _ _ _ _ _ _ _ _) rfl (ansO _ _ _ _ _ _ _ _ _ _) ?_))
   refine bodyPost_ret (results_c1 Tryz.results18 _ _ (w.heap.size + 1) 43 _ _ _ (by first | rfl | simp) (setRow_heap _ _ _ _ _ _ (HP.out.an)) Tryz.underlying43 rfl (ansN _ _ _ _ _ _ _ _)) rfl ?_
   exact ⟨⟨.slice none 0 0, rfl, HP.out.own ((Own.nil _ _)) _⟩, HP.out.endR HLT.out (RX.refl H2.out) _⟩
 · go_wp2_with (first
     | refine wpList_box_op rfl (.tmp 1) rfl o sp o.raw.length cap rfl ?_
     | (go_at_call 45; rw [← hW2.out]; refine HC.out.mono ?_; rintro e w3 ⟨rfl, hB⟩; have HB0 := hid hB; have HAN := hid ((hB.block _ (by have := HP.out.sz; omega)).trans HP.out.an); have HB := hid (fun c => hB.trans (((Below.refl _ w3).alloc (Nat.le_refl _) c).mono hB.size)); clear hB)
     | refine wpA_4 rfl (.tmp 41) rfl D.reads D.writes D.syncs D.ops.length rfl ?_
     | (refine wpList_store_row rfl 43 (.tmp 4) _ rfl (w.heap.size + 1) (ansC 0 0 (.slice none 0 0) sup0 D.reads D.writes D.syncs D.ops.length) (by first | rfl | simp [Act.eval]) rfl 43 zzA (hold HAN.out) (ansN _ _ _ _ _ _ _ _) rfl (ansO _ _ _ _ _ _ _ _ _ _) ?_))
   refine bodyPost_ret (results_c1 Tryz.results18 _ _ (w.heap.size + 1) 43 _ _ _ (by first | rfl | simp) (setRow_heap _ _ _ _ _ _ (hold HAN.out)) Tryz.underlying43 rfl (ansN _ _ _ _ _ _ _ _)) rfl ?_
   exact ⟨⟨.slice none 0 0, rfl, HP.out.own ((Own.nil _ _)) _⟩, HP.out.endR HLT.out ⟨F, (H2.out.below (HB.out _)).more (Nat.le_succ _), Fr.of_below (HB.out _), Gr.refl _ _⟩ _⟩
 · go_wp2_with (first
     | refine wpList_box_op rfl (.tmp 1) rfl o sp o.raw.length cap rfl ?_
     | (go_at_call 36; rw [← hW2.out]; refine HC.out.mono ?_; rintro e w3 ⟨rfl, hX⟩; have HX := hid hX; have HAN := hid (HP.out.keep HLT.out hX.choose_spec.2.1); clear hX)
     | refine wpA_0 rfl (.tmp 54) rfl Y.2 rfl ?_
     | (refine wpList_store_row rfl 43 (.tmp 4) _ rfl (w.heap.size + 1) (ansC Y.2 0 (.slice none 0 0) sup0 0 0 0 0) (by first | rfl | simp [Act.eval]) rfl 43 zzA (HAN.out) (ansN _ _ _ _ _ _ _ _) rfl (ansO _ _ _ _ _ _ _ _ _ _) ?_))
   refine bodyPost_ret (results_c1 Tryz.results18 _ _ (w.heap.size + 1) 43 _ _ _ (by first | rfl | simp) (setRow_heap _ _ _ _ _ _ (HAN.out)) Tryz.underlying43 rfl (ansN _ _ _ _ _ _ _ _)) rfl ?_
   exact ⟨⟨.slice none 0 0, rfl, HP.out.own ((Own.nil _ _)) _⟩, HP.out.endR HLT.out HX.out _⟩
 · go_wp2_with (first
     | refine wpList_box_op rfl (.tmp 1) rfl o sp o.raw.length cap rfl ?_
     | (go_at_call 37; rw [← hW2.out]; refine HC.out.mono ?_; rintro e w3 ⟨rfl, hX⟩; have HX := hid hX; have HAN := hid (HP.out.keep HLT.out hX.choose_spec.2.1); clear hX)
     | refine wpA_1 rfl (.tmp 96) rfl (D.epoch + 1) rfl ?_
     | (refine wpList_store_row rfl 43 (.tmp 4) _ rfl (w.heap.size + 1) (ansC 0 (D.epoch + 1) (.slice none 0 0) sup0 0 0 0 0) (by first | rfl | simp [Act.eval]) rfl 43 zzA (HAN.out) (ansN _ _ _ _ _ _ _ _) rfl (ansO _ _ _ _ _ _ _ _ _ _) ?_))
   refine bodyPost_ret (results_c1 Tryz.results18 _ _ (w.heap.size + 1) 43 _ _ _ (by first | rfl | simp) (setRow_heap _ _ _ _ _ _ (HAN.out)) Tryz.underlying43 rfl (ansN _ _ _ _ _ _ _ _)) rfl ?_
   exact ⟨⟨.slice none 0 0, rfl, HP.out.own ((Own.nil _ _)) _⟩, HP.out.endR HLT.out HX.out _⟩
theorem xdk2 : (∀ (w : World) (base : Nat) (F : List Nat) (p m : Nat) (hm : m < 400000000000) (hbw : base ≤ w.heap.size) (D : DS) (h : RD w base F p m D) (o : OP) (hk : o.kd = 17) (sp : Option Addr) (cap : Nat) (ho : OpOk w o sp cap), Calls Tryz.prog 18 #[.pointer (some ⟨p, 0, none⟩), .agg (o.C (.slice sp o.raw.length cap))] w fun e w' => Told w.heap.size w' (dskF D o).2 e ∧ RX base F p w (m + 1) (dskF D o).1 w') ∧ (∀ (w : World) (base : Nat) (F : List Nat) (p m : Nat) (hm : m < 400000000000) (hbw : base ≤ w.heap.size) (D : DS) (h : RD w base F p m D) (o : OP) (hk : o.kd = 21) (sp : Option Addr) (cap : Nat) (ho : OpOk w o sp cap), Calls Tryz.prog 18 #[.pointer (some ⟨p, 0, none⟩), .agg (o.C (.slice sp o.raw.length cap))] w fun e w' => Told w.heap.size w' (dskF D o).2 e ∧ RX base F p w (m + 1) (dskF D o).1 w') := by
 refine ⟨?_, ?_⟩
 intro w base F p m hm hbw D h o hk sp cap ho
 have hE : dskF D o = (D.arm o.n, an0) := by unfold dskF; rw [if_neg (by rw [hk]; decide), if_neg (by rw [hk]; decide), if_neg (by rw [hk]; decide), if_neg (by rw [hk]; decide), if_neg (by rw [hk]; decide), if_neg (by rw [hk]; decide), if_neg (by rw [hk]; decide), if_pos hk]
 rotate_left
 intro w base F p m hm hbw D h o hk sp cap ho
 have hE : dskF D o = ((rdaF D o.n).1, { an0 with raw := (rdaF D o.n).2.1, e := (rdaF D o.n).2.2 }) := by unfold dskF; rw [if_neg (by rw [hk]; decide), if_neg (by rw [hk]; decide), if_neg (by rw [hk]; decide), if_neg (by rw [hk]; decide), if_neg (by rw [hk]; decide), if_neg (by rw [hk]; decide), if_neg (by rw [hk]; decide), if_neg (by rw [hk]; decide), if_neg (by rw [hk]; decide), if_neg (by rw [hk]; decide), if_neg (by rw [hk]; decide), if_pos hk]
 rotate_left
 all_goals
  rw [hE]
  have hP := Pro.mk' w o (.slice sp o.raw.length cap)
  have hLT : ∀ k ∈ F, k < w.heap.size := fun k hk => (h.lt k hk).2
  have k0 := hP.cell 0
  have k4 := hP.cell 4
  obtain ⟨w2, hw2⟩ : ∃ w2, w2 = (w.alloc (.cells (o.C (.slice sp o.raw.length cap)) 37)).alloc (.cells zzA 43) := ⟨_, rfl⟩
  have hW2 := hid hw2
  rw [← hw2] at hP
  have h2 := h.below hP.bl
  have o2 := ho.below hP.bl
  have hb2 : base ≤ w2.heap.size := Nat.le_trans hbw hP.bl.size
 have HC := hid (rArm_any w2 base F p m D h2 o.n o2.n)
 rotate_left
 have HC := hid (rRead_all w2 base F p m hm hb2 D h2 o.n)
 generalize rdaF D o.n = Y at *
 rotate_left
 all_goals
  have HP := hid hP
  have HLT := hid hLT
  have H2 := hid h2
  clear h ho h2 o2 hP hLT hE hw2
 replace k0 : ((w.alloc (.cells (o.C (.slice sp o.raw.length cap)) 37)).alloc (.cells zzA 43)).cell? ⟨w.heap.size, 0, none⟩ = some (.int .i64 17) := by rw [← hk]; exact k0
 rotate_left
 replace k0 : ((w.alloc (.cells (o.C (.slice sp o.raw.length cap)) 37)).alloc (.cells zzA 43)).cell? ⟨w.heap.size, 0, none⟩ = some (.int .i64 21) := by rw [← hk]; exact k0
 rotate_left
 all_goals
  replace k4 : ((w.alloc (.cells (o.C (.slice sp o.raw.length cap)) 37)).alloc (.cells zzA 43)).cell? ⟨w.heap.size, 4, none⟩ = some (.int .i64 o.n) := k4
  clear hk
  go_enter Tryz.func18, Tryz.ntmps18
 go_wp2_with (first
   | refine wpList_box_op rfl (.tmp 1) rfl o sp o.raw.length cap rfl ?_
   | (go_at_call 47; rw [← hW2.out]; refine HC.out.mono ?_; rintro e w3 ⟨rfl, hX⟩; have HX := hid hX; have HAN := hid (HP.out.keep HLT.out hX.choose_spec.2.1); clear hX)
   | refine wpA_z rfl rfl ?_
   | (refine wpList_store_row rfl 43 (.tmp 4) _ rfl (w.heap.size + 1) (ansC 0 0 (.slice none 0 0) sup0 0 0 0 0) (by first | rfl | simp [Act.eval]) rfl 43 zzA (HAN.out) (ansN _ _ _ _ _ _ _ _) rfl (ansO _ _ _ _ _ _ _ _ _ _) ?_))
 rotate_left
 go_wp2_with (first
   | refine wpList_box_op rfl (.tmp 1) rfl o sp o.raw.length cap rfl ?_
   | (go_at_call 50; rw [← hW2.out]; refine HC.out.mono ?_; rintro e w3 ⟨v, rfl, hO, hX⟩; have HX := hid hX; have HAN := hid (HP.out.keep HLT.out hX.choose_spec.2.1); clear hX; have HO := hid hO; obtain ⟨sv, cv, hv, _, _⟩ := hO.form; subst hv; clear hO)
   | refine wpA_02 rfl (.tmp 107) (.tmp 108) rfl Y.2.2 sv Y.2.1.length cv rfl rfl ?_
   | (refine wpList_store_row rfl 43 (.tmp 4) _ rfl (w.heap.size + 1) (ansC Y.2.2 0 (.slice sv Y.2.1.length cv) sup0 0 0 0 0) (by first | rfl | simp [Act.eval]) rfl 43 zzA (HAN.out) (ansN _ _ _ _ _ _ _ _) rfl (ansO _ _ _ _ _ _ _ _ _ _) ?_))
 rotate_left
 all_goals
  refine bodyPost_ret (results_c1 Tryz.results18 _ _ (w.heap.size + 1) 43 _ _ _ (by first | rfl | simp) (setRow_heap _ _ _ _ _ _ (HAN.out)) Tryz.underlying43 rfl (ansN _ _ _ _ _ _ _ _)) rfl ?_
 · exact ⟨⟨.slice none 0 0, rfl, HP.out.own ((Own.nil _ _)) _⟩, HP.out.endR HLT.out (RX.more HX.out) _⟩
 · exact ⟨⟨_, rfl, HP.out.own (HO.out) _⟩, HP.out.endR HLT.out HX.out _⟩
end
end Go.Proofs.YtjhocjjecfdphaaGreatDoor
