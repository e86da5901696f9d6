import Derived.Test.YtjhocjjecfdphaaGreatDoorQ31
namespace Go.Proofs.YtjhocjjecfdphaaGreatDoor
set_option linter.unusedVariables false
set_option linter.unusedSimpArgs false
set_option maxRecDepth 100000
set_option maxHeartbeats 4000000
section
open Go.RowKit
attribute [local go_sem ↓] Go.wp_at_zero Go.wp_at_succ
def wrtF (D : DS) (q : Int) (data : List Int) : DS × Int := if D.power = false then (D, 2) else if q < 0 ∨ (D.np : Int) ≤ q then (D, 41) else if data.length ≠ 256 then (D, 42) else (D.wr ⟨q.toNat, data⟩, D.actE)
def synF (D : DS) : DS × Int := if D.power = false then (D, 2) else sy D
def flpF (D : DS) (q bit : Int) (pat : Nat) : DS × Int := if q < 0 ∨ (D.np : Int) ≤ q then (D, 41) else if bit < 0 ∨ 2048 ≤ bit then (D, 1) else (D.flipped q.toNat bit.toNat pat, 0)
def rdaF (D : DS) (q : Int) : DS × List Int × Int := if D.power = false then (D, [], 2) else if q < 0 ∨ (D.np : Int) ≤ q then (D, [], 41) else ({ D with reads := D.reads + 1 }, D.readOf q.toNat, 0)
theorem Nx.refl {w : World} {base : Nat} {F : List Nat} {p : Nat} {D : DS} (h : DA w base F p D) : Nx base F p w D w := ⟨F, h, Fr.refl _ _, Gr.refl _ _⟩
theorem RX.refl {w : World} {base : Nat} {F : List Nat} {p m : Nat} {D : DS} (h : RD w base F p m D) : RX base F p w (m + 1) D w := ⟨F, h.more (Nat.le_succ _), Fr.refl _ _, Gr.refl _ _⟩
theorem rWrite_all (w : World) (base : Nat) (F : List Nat) (p m : Nat) (hm : m < 400000000000) (hbw : base ≤ w.heap.size) (D : DS) (h : RD w base F p m D) (q : Int) (data : List Int) (hdb : Bts data) (L : Nat) (hL : data.length = L) (sp : Option Addr) (cap : Nat) (hS : Src w sp cap data) (hnil : sp = none → cap = 0) :
   Calls Tryz.prog 35 #[.pointer (some ⟨p, 0, none⟩), .int .i64 q, .slice sp L cap] w fun e w' => e = .returned (.int .i64 (wrtF D q data).2) ∧ RX base F p w (m + 1) (wrtF D q data).1 w' := by
 unfold wrtF
 by_cases hp0 : D.power = false
 · rw [if_pos hp0]
   refine (rWrite_off' w base F p m D h hp0 q _).mono ?_
   rintro e w' ⟨rfl, rfl⟩; exact ⟨rfl, RX.refl h⟩
 · have hpw : D.power = true := by simpa using hp0
   rw [if_neg hp0]
   by_cases hq : q < 0 ∨ (D.np : Int) ≤ q
   · rw [if_pos hq]
     refine (rWrite_no' w base F p m D h hpw q hq _).mono ?_
     rintro e w' ⟨rfl, rfl⟩; exact ⟨rfl, RX.refl h⟩
   · rw [if_neg hq]
     obtain ⟨k, rfl⟩ : ∃ k : Nat, q = (k : Int) := ⟨q.toNat, by omega⟩
     have hk : k < D.np := by omega
     by_cases hl : data.length = 256
     · rw [if_neg (fun c => c hl), Int.toNat_natCast]
       subst hL
       rw [hl]
       exact rWrite_any w base F p m hm hbw D h hpw k hk data hl hdb sp cap hS hnil
     · rw [if_pos hl]
       refine (rWrite_few' w base F p m D h hpw k hk sp L cap (by simp; omega)).mono ?_
       rintro e w' ⟨rfl, rfl⟩; exact ⟨rfl, RX.refl h⟩
theorem Write_all (w : World) (base : Nat) (F : List Nat) (p : Nat) (hbw : base ≤ w.heap.size) (D : DS) (h : DA w base F p D) (hops : D.ops.length < 400000000000) (hwr : D.writes < 4000000000000000000) (q : Int) (data : List Int) (hdb : Bts data) (L : Nat) (hL : data.length = L) (sp : Option Addr) (cap : Nat) (hS : Src w sp cap data) :
   Calls Tryz.prog 71 #[.pointer (some ⟨p, 0, none⟩), .int .i64 q, .slice sp L cap] w fun e w' => e = .returned (.int .i64 (wrtF D q data).2) ∧ Nx base F p w (wrtF D q data).1 w' := by
 unfold wrtF
 by_cases hp0 : D.power = false
 · rw [if_pos hp0]
   refine (Write_off w base F p D h hp0 q _).mono ?_
   rintro e w' ⟨rfl, rfl⟩; exact ⟨rfl, Nx.refl h⟩
 · have hpw : D.power = true := by simpa using hp0
   rw [if_neg hp0]
   by_cases hq : q < 0 ∨ (D.np : Int) ≤ q
   · rw [if_pos hq]
     refine (Write_no w base F p D h hpw q hq _).mono ?_
     rintro e w' ⟨rfl, rfl⟩; exact ⟨rfl, Nx.refl h⟩
   · rw [if_neg hq]
     obtain ⟨k, rfl⟩ : ∃ k : Nat, q = (k : Int) := ⟨q.toNat, by omega⟩
     have hk : k < D.np := by omega
     by_cases hl : data.length = 256
     · rw [if_neg (fun c => c hl), Int.toNat_natCast]
       subst hL
       rw [hl]
       exact Write_any w base F p D h hbw hpw k hk data hl hdb sp cap hS hops hwr
     · rw [if_pos hl]
       refine (Write_few w base F p D h hpw k ⟨by omega, by omega⟩ sp L cap (by simp; omega)).mono ?_
       rintro e w' ⟨rfl, rfl⟩; exact ⟨rfl, Nx.refl h⟩
theorem rSync_all (w : World) (base : Nat) (F : List Nat) (p m : Nat) (hm : m < 400000000000) (hbw : base ≤ w.heap.size) (D : DS) (h : RD w base F p m D) :
   Calls Tryz.prog 36 #[.pointer (some ⟨p, 0, none⟩)] w fun e w' => e = .returned (.int .i64 (synF D).2) ∧ RX base F p w (m + 1) (synF D).1 w' := by
 unfold synF
 by_cases hp0 : D.power = false
 · rw [if_pos hp0]
   refine (rSync_off' w base F p m D h hp0).mono ?_
   rintro e w' ⟨rfl, rfl⟩; exact ⟨rfl, RX.refl h⟩
 · rw [if_neg hp0]
   exact rSync_any w base F p m hm hbw D h (by simpa using hp0)
theorem Sync_all (w : World) (base : Nat) (F : List Nat) (p : Nat) (D : DS) (h : DA w base F p D) (hsy : D.syncs < 4000000000000000000) :
   Calls Tryz.prog 56 #[.pointer (some ⟨p, 0, none⟩)] w fun e w' => e = .returned (.int .i64 (synF D).2) ∧ Nx base F p w (synF D).1 w' := by
 unfold synF
 by_cases hp0 : D.power = false
 · rw [if_pos hp0]
   refine (Sync_off w base F p D h hp0).mono ?_
   rintro e w' ⟨rfl, rfl⟩; exact ⟨rfl, Nx.refl h⟩
 · have hpw : D.power = true := by simpa using hp0
   rw [if_neg hp0]
   unfold sy
   by_cases ha : D.armed = 1
   · rw [if_pos ha]; exact Sync_last w base F p D h hpw ha
   · rw [if_neg ha]; exact Sync_any w base F p D h hpw ha hsy
theorem rFlip_all (w : World) (base : Nat) (F : List Nat) (p m : Nat) (hm : m < 400000000000) (hbw : base ≤ w.heap.size) (D : DS) (h : RD w base F p m D) (q bit : Int) (pat : Nat) (hp : pat < 4294967296) :
   Calls Tryz.prog 49 #[.pointer (some ⟨p, 0, none⟩), .int .i64 q, .int .i64 bit, .int .u32 pat] w fun e w' => e = .returned (.int .i64 (flpF D q bit pat).2) ∧ RX base F p w (m + 1) (flpF D q bit pat).1 w' := by
 unfold flpF
 by_cases hq : q < 0 ∨ (D.np : Int) ≤ q
 · rw [if_pos hq]
   refine (rFlip_no' w base F p m D h q hq bit _).mono ?_
   rintro e w' ⟨rfl, rfl⟩; exact ⟨rfl, RX.refl h⟩
 · rw [if_neg hq]
   obtain ⟨k, rfl⟩ : ∃ k : Nat, q = (k : Int) := ⟨q.toNat, by omega⟩
   by_cases hb : bit < 0 ∨ 2048 ≤ bit
   · rw [if_pos hb]
     refine (rFlip_out' w base F p m D h k (by omega) bit hb _).mono ?_
     rintro e w' ⟨rfl, rfl⟩; exact ⟨rfl, RX.refl h⟩
   · rw [if_neg hb]
     obtain ⟨b, rfl⟩ : ∃ b : Nat, bit = (b : Int) := ⟨bit.toNat, by omega⟩
     rw [Int.toNat_natCast, Int.toNat_natCast]
     exact rFlip_any w base F p m hm hbw D h k (by omega) b (by omega) pat hp
theorem Flip_all (w : World) (base : Nat) (F : List Nat) (p : Nat) (D : DS) (h : DA w base F p D) (q bit : Int) (pat : Nat) (hp : pat < 4294967296) :
   Calls Tryz.prog 74 #[.pointer (some ⟨p, 0, none⟩), .int .i64 q, .int .i64 bit, .int .u32 pat] w fun e w' => e = .returned (.int .i64 (flpF D q bit pat).2) ∧ Nx base F p w (flpF D q bit pat).1 w' := by
 unfold flpF
 by_cases hq : q < 0 ∨ (D.np : Int) ≤ q
 · rw [if_pos hq]
   refine (Flip_no w base F p D h q hq bit _).mono ?_
   rintro e w' ⟨rfl, rfl⟩; exact ⟨rfl, Nx.refl h⟩
 · rw [if_neg hq]
   by_cases hb : bit < 0 ∨ 2048 ≤ bit
   · rw [if_pos hb]
     refine (Flip_out w base F p D h q ⟨by omega, by omega⟩ bit hb _).mono ?_
     rintro e w' ⟨rfl, rfl⟩; exact ⟨rfl, Nx.refl h⟩
   · rw [if_neg hb]
     obtain ⟨k, rfl⟩ : ∃ k : Nat, q = (k : Int) := ⟨q.toNat, by omega⟩
     obtain ⟨b, rfl⟩ : ∃ b : Nat, bit = (b : Int) := ⟨bit.toNat, by omega⟩
     rw [Int.toNat_natCast, Int.toNat_natCast]
     exact Flip_any w base F p D h k (by omega) b (by omega) pat hp
theorem rRead_all (w : World) (base : Nat) (F : List Nat) (p m : Nat) (hm : m < 400000000000) (hbw : base ≤ w.heap.size) (D : DS) (h : RD w base F p m D) (q : Int) :
   Calls Tryz.prog 50 #[.pointer (some ⟨p, 0, none⟩), .int .i64 q] w fun e w' => ∃ v, e = .returned (.tuple #[v, .int .i64 (rdaF D q).2.2]) ∧ Own w' w.heap.size v (rdaF D q).2.1 ∧ RX base F p w (m + 1) (rdaF D q).1 w' := by
 unfold rdaF
 by_cases hp0 : D.power = false
 · rw [if_pos hp0]
   refine (rRead_off' w base F p m D h hp0 q).mono ?_
   rintro e w' ⟨rfl, rfl⟩; exact ⟨_, rfl, Own.nil _ _, RX.refl h⟩
 · have hpw : D.power = true := by simpa using hp0
   rw [if_neg hp0]
   by_cases hq : q < 0 ∨ (D.np : Int) ≤ q
   · rw [if_pos hq]
     refine (rRead_no' w base F p m D h hpw q hq).mono ?_
     rintro e w' ⟨rfl, rfl⟩; exact ⟨_, rfl, Own.nil _ _, RX.refl h⟩
   · rw [if_neg hq]
     obtain ⟨k, rfl⟩ : ∃ k : Nat, q = (k : Int) := ⟨q.toNat, by omega⟩
     rw [Int.toNat_natCast]
     refine (rRead_any w base F p m hm hbw D h hpw k (by omega) k rfl).mono ?_
     rintro e w' ⟨v, rfl, h1, h2, h3⟩
     exact ⟨v, rfl, h1, F, h2, h3, Gr.refl _ _⟩
theorem Read_all (w : World) (base : Nat) (F : List Nat) (p : Nat) (D : DS) (h : DA w base F p D) (hr : D.reads < 4000000000000000000) (q : Int) :
   Calls Tryz.prog 75 #[.pointer (some ⟨p, 0, none⟩), .int .i64 q] w fun e w' => ∃ v, e = .returned (.tuple #[v, .int .i64 (rdaF D q).2.2]) ∧ Own w' w.heap.size v (rdaF D q).2.1 ∧ Nx base F p w (rdaF D q).1 w' := by
 unfold rdaF
 by_cases hp0 : D.power = false
 · rw [if_pos hp0]
   refine (Read_off w base F p D h hp0 q).mono ?_
   rintro e w' ⟨rfl, rfl⟩; exact ⟨_, rfl, Own.nil _ _, Nx.refl h⟩
 · have hpw : D.power = true := by simpa using hp0
   rw [if_neg hp0]
   by_cases hq : q < 0 ∨ (D.np : Int) ≤ q
   · rw [if_pos hq]
     have h0 := h
     obtain ⟨P, rfl, rfl, hk, hok⟩ := h
     refine (Read_no w base P D hk hok hpw q hq).mono ?_
     rintro e w' ⟨rfl, rfl⟩; exact ⟨_, rfl, Own.nil _ _, Nx.refl h0⟩
   · rw [if_neg hq]
     obtain ⟨k, rfl⟩ : ∃ k : Nat, q = (k : Int) := ⟨q.toNat, by omega⟩
     rw [Int.toNat_natCast]
     exact Read_any w base F p D h hpw k (by omega) hr
structure AN where
 e : Int
 n : Int
 raw : List Int
 s : Sup
 c1 : Int
 c2 : Int
 c3 : Int
 c4 : Int
def ansC (e n : Int) (rv : Value) (s : Sup) (c1 c2 c3 c4 : Int) : Array Value := #[.int .i64 e, .int .i64 n, rv, .int .i64 s.wd, .int .i64 s.ge, .int .i64 s.ma, .int .i64 s.hd, .int .i64 s.pg, .int .i64 c1, .int .i64 c2, .int .i64 c3, .int .i64 c4]
def an0 : AN := ⟨0, 0, [], sup0, 0, 0, 0, 0⟩
def AN.C (a : AN) (rv : Value) : Array Value := ansC a.e a.n rv a.s a.c1 a.c2 a.c3 a.c4
def Told (B : Nat) (w : World) (a : AN) (e : Ending) : Prop := ∃ v, e = .returned (.agg (a.C v)) ∧ Own w B v a.raw
structure OP where
 kd : Int
 dk : Int
 fl : Int
 ow : Bool
 n : Int
 m : Int
 raw : List Int
 bt : Nat
def OP.C (o : OP) (rv : Value) : Array Value := #[.int .i64 o.kd, .int .i64 o.dk, .int .i64 o.fl, .bool o.ow, .int .i64 o.n, .int .i64 o.m, rv, .int .u32 o.bt]
theorem box_op (o : OP) (sp : Option Addr) (l c : Nat) (w : World) : (Instr.box 37 (.agg (o.C (.slice sp l c)))).run Tryz.prog w = .ok (.pointer (some ⟨w.heap.size, 0, none⟩)) (w.alloc (.cells (o.C (.slice sp l c)) 37)) := by kernel_rfl
theorem wpList_box_op {w : World} {ops : Array Oper} {rest : List Oper} {o : Oper} {a : Act} {Q : Exit → Act → World → Prop} (hg : o.guard = none) (x : Operand) (ho : o.op = .box 37 x) (p : OP) (sp : Option Addr) (l c : Nat) (hx : a.eval x = .agg (p.C (.slice sp l c)))
   (h : wpList Tryz.prog ops Q rest (a.put o.dst (.pointer (some ⟨w.heap.size, 0, none⟩))) (w.alloc (.cells (p.C (.slice sp l c)) 37))) : wpList Tryz.prog ops Q (o :: rest) a w := by
 refine wpList_plain hg fun K hK => ?_
 unfold Oper.wp execOp
 simp only [ho, hx, Sem.run_bind, box_op, Result.andThen_ok, Sem.run_pure]
 exact hK _ _ h
theorem size_ans : (Tryz.prog.info? 43).map (·.size) = some 12 := by kernel_rfl
theorem ansN (e n : Int) (rv : Value) (s : Sup) (c1 c2 c3 c4 : Int) : (Tryz.prog.info? 43).map (·.size) = some (ansC e n rv s c1 c2 c3 c4).size := by rw [size_ans]; rfl
theorem ansO (e n : Int) (sp : Option Addr) (l c : Nat) (s : Sup) (c1 c2 c3 c4 : Int) : (ansC e n (.slice sp l c) s c1 c2 c3 c4).all (·.oneCell') = true := by simp [ansC, Value.oneCell']
theorem bA_z (w : World) : (Instr.build 43 #[]).run Tryz.prog w = .ok (.agg (ansC 0 0 (.slice none 0 0) sup0 0 0 0 0)) w := by kernel_rfl
theorem wpA_z {w : World} {ops : Array Oper} {rest : List Oper} {o : Oper} {a : Act} {Q : Exit → Act → World → Prop} (hg : o.guard = none) (ho : o.op = .build 43 #[]) (h : wpList Tryz.prog ops Q rest (a.put o.dst (.agg (ansC 0 0 (.slice none 0 0) sup0 0 0 0 0))) w) : wpList Tryz.prog ops Q (o :: rest) a w := by
 refine wpList_plain hg fun K hK => ?_
 unfold Oper.wp execOp
 simp only [ho, List.map_toArray, List.map_cons, List.map_nil, Sem.run_bind, bA_z, Result.andThen_ok, Sem.run_pure]
 exact hK _ _ h
theorem bA_0 (e : Int) (w : World) : (Instr.build 43 #[(0, .int .i64 e)]).run Tryz.prog w = .ok (.agg (ansC e 0 (.slice none 0 0) sup0 0 0 0 0)) w := by kernel_rfl
theorem wpA_0 {w : World} {ops : Array Oper} {rest : List Oper} {o : Oper} {a : Act} {Q : Exit → Act → World → Prop} (hg : o.guard = none) (x0 : Operand) (ho : o.op = .build 43 #[(0, x0)]) (e : Int) (h0 : a.eval x0 = .int .i64 e) (h : wpList Tryz.prog ops Q rest (a.put o.dst (.agg (ansC e 0 (.slice none 0 0) sup0 0 0 0 0))) w) : wpList Tryz.prog ops Q (o :: rest) a w := by
 refine wpList_plain hg fun K hK => ?_
 unfold Oper.wp execOp
 simp only [ho, List.map_toArray, List.map_cons, List.map_nil, h0, Sem.run_bind, bA_0, Result.andThen_ok, Sem.run_pure]
 exact hK _ _ h
theorem bA_1 (n : Int) (w : World) : (Instr.build 43 #[(1, .int .i64 n)]).run Tryz.prog w = .ok (.agg (ansC 0 n (.slice none 0 0) sup0 0 0 0 0)) w := by kernel_rfl
theorem wpA_1 {w : World} {ops : Array Oper} {rest : List Oper} {o : Oper} {a : Act} {Q : Exit → Act → World → Prop} (hg : o.guard = none) (x1 : Operand) (ho : o.op = .build 43 #[(1, x1)]) (n : Int) (h1 : a.eval x1 = .int .i64 n) (h : wpList Tryz.prog ops Q rest (a.put o.dst (.agg (ansC 0 n (.slice none 0 0) sup0 0 0 0 0))) w) : wpList Tryz.prog ops Q (o :: rest) a w := by
 refine wpList_plain hg fun K hK => ?_
 unfold Oper.wp execOp
 simp only [ho, List.map_toArray, List.map_cons, List.map_nil, h1, Sem.run_bind, bA_1, Result.andThen_ok, Sem.run_pure]
 exact hK _ _ h
theorem bA_2 (sp : Option Addr) (l c : Nat) (w : World) : (Instr.build 43 #[(2, .slice sp l c)]).run Tryz.prog w = .ok (.agg (ansC 0 0 (.slice sp l c) sup0 0 0 0 0)) w := by kernel_rfl
theorem wpA_2 {w : World} {ops : Array Oper} {rest : List Oper} {o : Oper} {a : Act} {Q : Exit → Act → World → Prop} (hg : o.guard = none) (x2 : Operand) (ho : o.op = .build 43 #[(2, x2)]) (sp : Option Addr) (l c : Nat) (h2 : a.eval x2 = .slice sp l c) (h : wpList Tryz.prog ops Q rest (a.put o.dst (.agg (ansC 0 0 (.slice sp l c) sup0 0 0 0 0))) w) : wpList Tryz.prog ops Q (o :: rest) a w := by
 refine wpList_plain hg fun K hK => ?_
 unfold Oper.wp execOp
 simp only [ho, List.map_toArray, List.map_cons, List.map_nil, h2, Sem.run_bind, bA_2, Result.andThen_ok, Sem.run_pure]
 exact hK _ _ h
theorem bA_3 (s : Sup) (w : World) : (Instr.build 43 #[(3, .agg (supC s))]).run Tryz.prog w = .ok (.agg (ansC 0 0 (.slice none 0 0) s 0 0 0 0)) w := by kernel_rfl
theorem wpA_3 {w : World} {ops : Array Oper} {rest : List Oper} {o : Oper} {a : Act} {Q : Exit → Act → World → Prop} (hg : o.guard = none) (x3 : Operand) (ho : o.op = .build 43 #[(3, x3)]) (s : Sup) (h3 : a.eval x3 = .agg (supC s)) (h : wpList Tryz.prog ops Q rest (a.put o.dst (.agg (ansC 0 0 (.slice none 0 0) s 0 0 0 0))) w) : wpList Tryz.prog ops Q (o :: rest) a w := by
 refine wpList_plain hg fun K hK => ?_
 unfold Oper.wp execOp
 simp only [ho, List.map_toArray, List.map_cons, List.map_nil, h3, Sem.run_bind, bA_3, Result.andThen_ok, Sem.run_pure]
 exact hK _ _ h
theorem bA_4 (c1 c2 c3 c4 : Int) (w : World) : (Instr.build 43 #[(4, .agg (cnt4 c1 c2 c3 c4))]).run Tryz.prog w = .ok (.agg (ansC 0 0 (.slice none 0 0) sup0 c1 c2 c3 c4)) w := by kernel_rfl
theorem wpA_4 {w : World} {ops : Array Oper} {rest : List Oper} {o : Oper} {a : Act} {Q : Exit → Act → World → Prop} (hg : o.guard = none) (x4 : Operand) (ho : o.op = .build 43 #[(4, x4)]) (c1 c2 c3 c4 : Int) (h4 : a.eval x4 = .agg (cnt4 c1 c2 c3 c4)) (h : wpList Tryz.prog ops Q rest (a.put o.dst (.agg (ansC 0 0 (.slice none 0 0) sup0 c1 c2 c3 c4))) w) : wpList Tryz.prog ops Q (o :: rest) a w := by
 refine wpList_plain hg fun K hK => ?_
 unfold Oper.wp execOp
 simp only [ho, List.map_toArray, List.map_cons, List.map_nil, h4, Sem.run_bind, bA_4, Result.andThen_ok, Sem.run_pure]
 exact hK _ _ h
theorem bA_01 (e : Int) (n : Int) (w : World) : (Instr.build 43 #[(0, .int .i64 e), (1, .int .i64 n)]).run Tryz.prog w = .ok (.agg (ansC e n (.slice none 0 0) sup0 0 0 0 0)) w := by kernel_rfl
theorem wpA_01 {w : World} {ops : Array Oper} {rest : List Oper} {o : Oper} {a : Act} {Q : Exit → Act → World → Prop} (hg : o.guard = none) (x0 x1 : Operand) (ho : o.op = .build 43 #[(0, x0), (1, x1)]) (e : Int) (n : Int) (h0 : a.eval x0 = .int .i64 e) (h1 : a.eval x1 = .int .i64 n) (h : wpList Tryz.prog ops Q rest (a.put o.dst (.agg (ansC e n (.slice none 0 0) sup0 0 0 0 0))) w) : wpList Tryz.prog ops Q (o :: rest) a w := by
 refine wpList_plain hg fun K hK => ?_
 unfold Oper.wp execOp
 simp only [ho, List.map_toArray, List.map_cons, List.map_nil, h0, h1, Sem.run_bind, bA_01, Result.andThen_ok, Sem.run_pure]
 exact hK _ _ h
theorem bA_02 (e : Int) (sp : Option Addr) (l c : Nat) (w : World) : (Instr.build 43 #[(0, .int .i64 e), (2, .slice sp l c)]).run Tryz.prog w = .ok (.agg (ansC e 0 (.slice sp l c) sup0 0 0 0 0)) w := by kernel_rfl
theorem wpA_02 {w : World} {ops : Array Oper} {rest : List Oper} {o : Oper} {a : Act} {Q : Exit → Act → World → Prop} (hg : o.guard = none) (x0 x2 : Operand) (ho : o.op = .build 43 #[(0, x0), (2, x2)]) (e : Int) (sp : Option Addr) (l c : Nat) (h0 : a.eval x0 = .int .i64 e) (h2 : a.eval x2 = .slice sp l c) (h : wpList Tryz.prog ops Q rest (a.put o.dst (.agg (ansC e 0 (.slice sp l c) sup0 0 0 0 0))) w) : wpList Tryz.prog ops Q (o :: rest) a w := by
 refine wpList_plain hg fun K hK => ?_
 unfold Oper.wp execOp
 simp only [ho, List.map_toArray, List.map_cons, List.map_nil, h0, h2, Sem.run_bind, bA_02, Result.andThen_ok, Sem.run_pure]
 exact hK _ _ h
theorem bA_012 (e : Int) (n : Int) (sp : Option Addr) (l c : Nat) (w : World) : (Instr.build 43 #[(0, .int .i64 e), (1, .int .i64 n), (2, .slice sp l c)]).run Tryz.prog w = .ok (.agg (ansC e n (.slice sp l c) sup0 0 0 0 0)) w := by kernel_rfl
theorem wpA_012 {w : World} {ops : Array Oper} {rest : List Oper} {o : Oper} {a : Act} {Q : Exit → Act → World → Prop} (hg : o.guard = none) (x0 x1 x2 : Operand) (ho : o.op = .build 43 #[(0, x0), (1, x1), (2, x2)]) (e : Int) (n : Int) (sp : Option Addr) (l c : Nat) (h0 : a.eval x0 = .int .i64 e) (h1 : a.eval x1 = .int .i64 n) (h2 : a.eval x2 = .slice sp l c) (h : wpList Tryz.prog ops Q rest (a.put o.dst (.agg (ansC e n (.slice sp l c) sup0 0 0 0 0))) w) : wpList Tryz.prog ops Q (o :: rest) a w := by
 refine wpList_plain hg fun K hK => ?_
 unfold Oper.wp execOp
 simp only [ho, List.map_toArray, List.map_cons, List.map_nil, h0, h1, h2, Sem.run_bind, bA_012, Result.andThen_ok, Sem.run_pure]
 exact hK _ _ h
end
end Go.Proofs.YtjhocjjecfdphaaGreatDoor
