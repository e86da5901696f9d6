import Derived.Test.YtjpcegjgandnjaaGreatDoorQ15
import Derived.Test.YtjpcegjgandnjaaGreatDoorQ13
namespace Go.Proofs.YtjpcegjgandnjaaGreatDoor.Ca
set_option linter.unusedVariables false
set_option linter.unusedSimpArgs false
open Go.RowKit
attribute [local go_sem ↓] Go.wp_at_zero Go.wp_at_succ

theorem Ref.kvs_enter {s : CSi} {L : Bool → List Nat} (h : Ref s L none) {b : Nat} (hb : b ∉ s.bs) (k : Int) (v : Ct) (r : Bool) : kvs (s.enter b k v) (L r) = kvs s (L r) :=
  kvs_congr fun i hi => by
    have : i ≠ b := fun q => hb (q ▸ h.dom r i hi)
    rw [show (s.enter b k v).E i = s.E i from if_neg this]; exact ⟨rfl, rfl⟩
theorem E_enter (s : CSi) (b : Nat) (k : Int) (v : Ct) : (s.enter b k v).E b = ⟨k, v, false, none, none⟩ := if_pos rfl
/-- A new one is clean. -/
theorem Abs.newC {s : CSi} {L : Bool → List Nat} {a : AS Int Ct} (h : Abs s L none a) {b : Nat} (hb : b ∉ s.bs) {k : Int} (hk : s.look k = none) (v : Ct) :
    Abs ((s.enter b k v).pushFirst true b) (updL L true (b :: L true)) none { a with clean := (k, v) :: a.clean } := by
  have hR := h.ref.enter hb hk v
  have hR2 := hR.pushFirst (r := true) (by rw [E_enter]; rfl)
  have hm := Sm.link (s.enter b k v) true none b ((s.enter b k v).row true).first
  refine ⟨hR2, hm.room.trans h.room, ?_, ?_, hm.hits.trans h.hits, hm.misses.trans h.misses, hm.gone.trans h.gone⟩
  · rw [updL_same, CS.pushFirst, kvs_sm hm, kvs_cons, E_enter, h.ref.kvs_enter hb, h.clean]
  · rw [updL_ne _ _ (by decide), CS.pushFirst, kvs_sm hm, h.ref.kvs_enter hb]; exact h.held
theorem del_le (l : List (Int × Ct)) (k : Int) : (delL l k).length ≤ l.length := List.length_filter_le _ _
theorem put_tot (a : AS Int Ct) (k : Int) (v : Ct) : (a.put k v).tot ≤ a.tot + 1 := by
  unfold AS.put
  split
  · unfold AS.tot setL; simp
  · rw [AS.trim_tot]
    have := del_le a.clean k
    unfold AS.tot; simp only [List.length_cons]; omega
theorem trim_room (a : AS Int Ct) : a.trim.clean.length ≤ a.trim.room := by unfold AS.trim; simp only [List.length_take]; omega
theorem CK.base {w : World} {base p m n : Nat} {s : CSi} (h : CK w base p m n s) : base ≤ w.heap.size := by have := h.bp; have := hlt h.cell; omega
theorem Nx.unal {base : Nat} {F : List Nat} {p N : Nat} {w w' : World} {o : Obj} {a : AS Int Ct} (h : Nx base F p N (w.alloc o) a w') : Nx base F p N w a w' := by
  obtain ⟨F', h1, h2, h3⟩ := h
  exact ⟨F', h1, (Fr.alloc' F w o).trans' h2, fun k hk => (h3 k hk).imp id (fun q => by have : (w.alloc o).heap.size ≤ k := q; simp at this; omega)⟩
theorem Abs.look_no {s : CSi} {L : Bool → List Nat} {a : AS Int Ct} (h : Abs s L none a) {k : Int} (hv : a.val k = none) : s.look k = none := by
  cases hl : s.look k with
  | none => rfl
  | some e =>
    obtain ⟨hin, hkey⟩ := h.ref.look_in hl
    rcases hin with hin | hin
    · have := h.findC hin
      rw [hkey] at this
      unfold AS.val at hv
      rw [this.1, this.2] at hv
      cases hv
    · have := h.findH hin
      rw [hkey] at this
      unfold AS.val at hv
      rw [this] at hv
      cases hv
theorem CK.fresh1 {w : World} {base p m n : Nat} {s : CSi} (h : CK w base p m n s) : w.heap.size + 1 ∉ s.bs := fun q => by have := hlt (h.ents _ q); omega
theorem fp_enter1 {w : World} {p m : Nat} {s t : CSi} (k : Int) (v : Ct) (h : t.bs = (s.enter (w.heap.size + 1) k v).bs) : Gr w (fpC p m s) (fpC p m t) := fun i hi => by
  simp only [fpC, h, List.mem_cons] at hi ⊢
  rcases hi with e | e | e
  · exact Or.inl (Or.inl e)
  · exact Or.inl (Or.inr (Or.inl e))
  · rcases List.mem_cons.1 e with e | e
    · exact Or.inr (by omega)
    · exact Or.inl (Or.inr (Or.inr e))
theorem nx_enter {base p m n N : Nat} {s t : CSi} {w w1 w' : World} {k : Int} {v : Ct} {L : Bool → List Nat} {a : AS Int Ct} (h1 : Fr (fpC p m s) w w1) (h : LN base p m (n + 1) (s.enter (w.heap.size + 1) k v) w1 t w') (hA : Abs t L none a) (hn : n ≤ N) (h2 : a.tot ≤ N + 1) (h3 : a.clean.length ≤ a.room) : Nx base (fpC p m s) p N w a w' :=
  ⟨fpC p m t, ⟨m, n + 1, t, L, rfl, h.1, hA, by omega, h2, h3⟩, h1.trans h.2.1 (fp_enter1 k v rfl), fp_enter1 k v h.2.2⟩
set_option maxRecDepth 100000 in
set_option maxHeartbeats 2000000 in
theorem Put_new (w : World) (base : Nat) (F : List Nat) (p N : Nat) (a : AS Int Ct) (h : CA w base F p N a) (k : Int) (v : Ct) (hk : wfK k) (hN : N < 3000000000000000000) (hv : a.val k = none) :
    Calls Tryz.prog 159 #[.pointer (some ⟨p, 0, none⟩), argK k, argV v] w fun x w' => x = .returned (.tuple #[]) ∧ Nx base F p N w (a.put k v) w' := by
  have hz := h.below ((Below.refl w.heap.size w).alloc (Nat.le_refl _) (.cells (ctC v).toArray 166))
  have r0 := hnew w (.cells (ctC v).toArray 166)
  have hnf : w.heap.size ∉ F := fun e => by have := (h.lt _ e).2; omega
  have hs : (w.alloc (.cells (ctC v).toArray 166)).heap.size = w.heap.size + 1 := by simp
  have HUN := hid (fun w' (q : Nx base F p N (w.alloc (.cells (ctC v).toArray 166)) (a.put k v) w') => q.unal)
  have LC := hid (show (Tryz.prog.info? 166).map (·.size) = some (ctC v).length by rw [sizeCt]; rfl)
  clear h
  obtain ⟨m, n, s, L, rfl, hC, hA, h1, h2, h3⟩ := hz
  have hl := hA.look_no hv
  have hpt := put_tot a k v
  have c1 := hC.c1
  have hlk := hC.look_no hk hl
  have hfb := hC.fresh1
  rw [hs] at hfb
  have hA1 := hA.newC hfb hl v
  have e1 : a.put k v = AS.trim { a with clean := (k, v) :: a.clean } := by
    unfold AS.put; rw [hA.findH_no hl]; simp only
    rw [del_none ((find_none_iff _ _).1 (hA.findC_no hl))]
  have HEN := hid (enter_any (w.alloc (.cells (ctC v).toArray 166)).drew base p m n s hC.drew hC.base k v hk (by omega))
  change Hid (Calls _ _ _ _ fun x w' => x = .returned (.pointer (some ⟨(w.alloc (.cells (ctC v).toArray 166)).heap.size + 1, 0, none⟩)) ∧ CK w' base p m (n + 1) (s.enter ((w.alloc (.cells (ctC v).toArray 166)).heap.size + 1) k v) ∧ Fr (fpC p m s) (w.alloc (.cells (ctC v).toArray 166)).drew w') at HEN
  have hR := hA.ref.enter hfb hl v
  have hlen : (L true).length < 4000000000000000000 := by rw [hA.lenC]; unfold AS.tot at h2; omega
  obtain ⟨j1, j2, j3⟩ := hR.putOk true hlen
  have hnx := fun (w1 w2 w3 : World) (q1 : Fr (fpC p m s) (w.alloc (.cells (ctC v).toArray 166)).drew w1) (q2 : LN base p m (n + 1) (s.enter ((w.alloc (.cells (ctC v).toArray 166)).heap.size + 1) k v) w1 ((s.enter ((w.alloc (.cells (ctC v).toArray 166)).heap.size + 1) k v).pushFirst true ((w.alloc (.cells (ctC v).toArray 166)).heap.size + 1)) w2) (q3 : LA base p m (n + 1) ((s.enter ((w.alloc (.cells (ctC v).toArray 166)).heap.size + 1) k v).pushFirst true ((w.alloc (.cells (ctC v).toArray 166)).heap.size + 1)) w2 (AS.trim { a with clean := (k, v) :: a.clean }) w3) => (by
    obtain ⟨t, L', q4, q5⟩ := q3
    refine HUN.out w3 ?_
    rw [e1]
    exact nx_enter ⟨q1.os, q1.tape, q1.output, q1.size, q1.block⟩ (q2.trans q4) q5 h1 (by rw [← e1]; omega) (trim_room _) : Nx base (fpC p m s) p N w (a.put k v) w3)
  rw [hs] at HEN hnx
  have HPF := hid (fun w1 (q : CK w1 base p m (n + 1) (s.enter (w.heap.size + 1 + 1) k v)) => pushFirst_any w1 base p m (n + 1) _ q true (w.heap.size + 1 + 1) List.mem_cons_self j1 j3 2 rfl)
  have HTR := hid (fun w1 w2 (q : LN base p m (n + 1) (s.enter (w.heap.size + 1 + 1) k v) w1 ((s.enter (w.heap.size + 1 + 1) k v).pushFirst true (w.heap.size + 1 + 1)) w2) => trim_any w2 base p m (n + 1) _ q.1 _ _ hA1 (by unfold AS.tot at h2 ⊢; simp only [List.length_cons]; omega))
  have HND := hid hnx
  have HKE := hid (fun w1 (x : Fr (fpC p m s) (w.alloc (.cells (ctC v).toArray 166)).drew w1) => ((x.block _ (hlt r0) hnf).trans r0 : w1.heap[w.heap.size]? = some (.cells (ctC v).toArray 166 (0, 0))))
  have HKP := hid (fun w1 w2 (y : w1.heap[w.heap.size]? = some (.cells (ctC v).toArray 166 (0, 0))) (x : LN base p m (n + 1) (s.enter (w.heap.size + 1 + 1) k v) w1 ((s.enter (w.heap.size + 1 + 1) k v).pushFirst true (w.heap.size + 1 + 1)) w2) => ((x.2.1.block _ (hlt y) (fun e => by
    simp only [fpC, List.mem_cons] at e
    simp only [fpC, List.mem_cons, not_or] at hnf
    rcases e with e | e | e
    · exact hnf.1 e
    · exact hnf.2.1 e
    · rcases List.mem_cons.1 e with e | e
      · omega
      · exact hnf.2.2 e)).trans y : w2.heap[w.heap.size]? = some (.cells (ctC v).toArray 166 (0, 0))))
  clear hC hA hl hpt hA1 hR j1 j2 j3 hlen e1 hfb hv hnx hnf
  simp only [argK, argV] at *
  obtain ⟨H, hH⟩ : ∃ H, H = w.heap.size + 1 + 1 := ⟨_, rfl⟩
  rw [← hH] at HEN HPF HTR HND HKP
  clear hH hs
  generalize ctC v = C at *
  go_enter Tryz.func159, Tryz.ntmps159
  go_wp2
  refine wp_region_noPanic ?_
  refine wp_region_held_drew (S := fun w' => w'.heap[w.heap.size]? = some (.cells C.toArray 166 (0, 0))) (by kernel_rfl) r0 (fun hHeld => ?_)
  refine wpAnyH_take (i := 0) (oi := { dst := some 25, op := Op.move (Operand.tmp 0), type := 128, pos := "cache.go:44", after := #[], guard := none }) (v := .pointer (some ⟨p, 0, none⟩)) rfl (by kernel_rfl) (by kernel_rfl) (by kernel_rfl) (fun _ _ _ h => h) (Or.inl ⟨by rfl, by intro w hS; go_simp⟩) hHeld ?_
  try simp only [Act.put, List.setIfInBounds_toArray, List.set_cons_zero, List.set_cons_succ]
  refine wpAnyH_take (i := 3) (oi := { dst := some 28, op := Op.move (Operand.tmp 0), type := 128, pos := "cache.go:44", after := #[], guard := none }) (v := .pointer (some ⟨p, 0, none⟩)) rfl (by kernel_rfl) (by kernel_rfl) (by kernel_rfl) (fun _ _ _ h => h) (Or.inl ⟨by rfl, by intro w hS; go_simp⟩) hHeld ?_
  try simp only [Act.put, List.setIfInBounds_toArray, List.set_cons_zero, List.set_cons_succ]
  refine wpAnyH_take (i := 4) (oi := { dst := some 29, op := Op.move (Operand.tmp 1), type := 3, pos := "cache.go:44", after := #[], guard := none }) (v := .int .i64 k) rfl (by kernel_rfl) (by kernel_rfl) (by kernel_rfl) (fun _ _ _ h => h) (Or.inl ⟨by rfl, by intro w hS; go_simp⟩) hHeld ?_
  try simp only [Act.put, List.setIfInBounds_toArray, List.set_cons_zero, List.set_cons_succ]
  refine wpAnyH_take (i := 5) (oi := { dst := some 30, op := Op.load 166 (Operand.tmp 5), type := 166, pos := "cache.go:44", after := #[], guard := none }) (v := .agg (C).toArray) rfl (by kernel_rfl) (by kernel_rfl) (by kernel_rfl) (fun _ _ _ h => h) (yieldsIf_load_mid (by rfl) 166 _ rfl w.heap.size (0) rfl (C) _ (fun w hS => rng hS) Tryz.underlying166 rfl LC.out) hHeld ?_
  try simp only [Act.put, List.setIfInBounds_toArray, List.set_cons_zero, List.set_cons_succ]
  refine wpAnyH_take (i := 1) (oi := { dst := some 26, op := Op.nilCheck (Operand.tmp 25), type := 0, pos := "cache.go:44", after := #[{ on := 0, ground := Ground.data }], guard := none }) (v := .pointer (some ⟨p, 0, none⟩)) rfl (by kernel_rfl) (by kernel_rfl) (by kernel_rfl) (fun _ _ _ h => h) (Or.inl ⟨by rfl, by intro w hS; go_simp⟩) hHeld ?_
  try simp only [Act.put, List.setIfInBounds_toArray, List.set_cons_zero, List.set_cons_succ]
  refine wpAnyH_take (i := 2) (oi := { dst := some 27, op := Op.fieldAddr 231 (Operand.tmp 26) 2, type := 0, pos := "cache.go:44", after := #[{ on := 1, ground := Ground.data }], guard := none }) (v := .pointer (some ⟨p, 2, none⟩)) rfl (by kernel_rfl) (by kernel_rfl) (by kernel_rfl) (fun _ _ _ h => h) (Or.inl ⟨by rfl, by intro w hS; go_simp⟩) hHeld ?_
  try simp only [Act.put, List.setIfInBounds_toArray, List.set_cons_zero, List.set_cons_succ]
  refine wpAnyH_ready (rs := [6]) (by kernel_rfl) (by simp) ?_
  refine (AllReadyH.cons (o := { dst := some 31, op := Op.call { callee := Callee.value (Operand.func 187), args := #[Operand.tmp 28, Operand.tmp 29, Operand.tmp 30], argTypes := #[128, 3, 166] }, type := 225, pos := "cache.go:44", after := #[{ on := 3, ground := Ground.data }, { on := 4, ground := Ground.data }, { on := 5, ground := Ground.data }], guard := none }) rfl (fun K hK => ?_) AllReadyH.nil)
  go_simp
  go_at_call 187
  refine (HEN.out).mono ?_
  rintro e w1 ⟨rfl, hc1, hf1⟩
  have HC1 := hid hc1
  have HF1 := hid hf1
  clear hc1 hf1
  go_wp2_with fail
  refine hK.out _ _ (HKE.out w1 HF1.out) (fun hHeld2 => ?_)
  clear hK K hHeld
  have hHeld := hHeld2
  clear hHeld2
  try simp only [Act.put, List.setIfInBounds_toArray, List.set_cons_zero, List.set_cons_succ]
  refine wpAnyH_ready (rs := [7]) (by kernel_rfl) (by simp) ?_
  refine (AllReadyH.cons (o := { dst := some 32, op := Op.call { callee := Callee.value (Operand.func 186), args := #[Operand.tmp 27, Operand.tmp 31], argTypes := #[227, 225] }, type := 0, pos := "cache.go:44", after := #[{ on := 2, ground := Ground.data }, { on := 6, ground := Ground.data }, { on := 6, ground := Ground.chain }], guard := none }) rfl (fun K hK => ?_) AllReadyH.nil)
  go_simp
  go_at_call 186
  refine (HPF.out w1 HC1.out).mono ?_
  rintro e w2 ⟨rfl, hl2⟩
  have HL2 := hid hl2
  clear hl2
  go_wp2_with fail
  refine hK.out _ _ (HKP.out w1 w2 hHeld HL2.out) (fun hHeld2 => ?_)
  clear hK K hHeld
  have hHeld := hHeld2
  clear hHeld2
  try simp only [Act.put, List.setIfInBounds_toArray, List.set_cons_zero, List.set_cons_succ]
  refine wpAnyH_done (by kernel_rfl) ?_ _
  refine NoPanic.normal ?_
  go_wp2_with (go_at_call 188; refine (HTR.out w1 w2 HL2.out).mono ?_; rintro x w3 ⟨rfl, hr⟩)
  go_end0
  exact ⟨rfl, HND.out w1 w2 w3 HF1.out HL2.out hr⟩
end Go.Proofs.YtjpcegjgandnjaaGreatDoor.Ca
namespace Go.Proofs.YtjpcegjgandnjaaGreatDoor.Ca
set_option linter.unusedVariables false
set_option linter.unusedSimpArgs false
open Go.RowKit
attribute [local go_sem ↓] Go.wp_at_zero Go.wp_at_succ

theorem LN.setHeld {base p m n : Nat} {s t : CSi} {w w1 : World} {e : Nat} (h : LN base p m n s w t w1) (he : e ∈ t.bs) (f : Bool) : w1.cell? ⟨e, 3, none⟩ = some (.bool (t.E e).held) ∧ w1.frozen? ⟨e, 3, none⟩ = false ∧ LN base p m n s w (t.setHeld e f) (w1.setCell ⟨e, 3, none⟩ (.bool f)) :=
  ⟨h.1.eh he, h.1.fe he _, h.1.held he f, h.2.1.setCell (mem_b (by rw [← h.2.2]; exact he)) _ _, h.2.2⟩
theorem LN.refl {base p m n : Nat} {s : CSi} {w : World} (h : CK w base p m n s) : LN base p m n s w s w := ⟨h, Fr.refl _ _, rfl⟩
end Go.Proofs.YtjpcegjgandnjaaGreatDoor.Ca
namespace Go.Proofs.YtjpcegjgandnjaaGreatDoor.Ca
set_option linter.unusedVariables false
set_option linter.unusedSimpArgs false
open Go.RowKit
attribute [local go_sem ↓] Go.wp_at_zero Go.wp_at_succ

theorem run_max (x y : Int) (w : World) : (Builtin.max_ #[3, 3] 3 #[.int .i64 x, .int .i64 y]).run Tryz.prog w = .ok (.int .i64 (if y > x then y else x)) w := by
  simp [Builtin.max_, Builtin.max2, List.foldlM]
theorem run_min (x y : Int) (w : World) : (Builtin.min_ #[3, 3] 3 #[.int .i64 x, .int .i64 y]).run Tryz.prog w = .ok (.int .i64 (if y < x then y else x)) w := by
  simp [Builtin.min_, Builtin.min2, List.foldlM]
end Go.Proofs.YtjpcegjgandnjaaGreatDoor.Ca
namespace Go.Proofs.YtjpcegjgandnjaaGreatDoor.Ca
set_option linter.unusedVariables false
set_option linter.unusedSimpArgs false
open Go.RowKit
attribute [local go_sem ↓] Go.wp_at_zero Go.wp_at_succ

theorem build_cache (r : Int) (m : Nat) (w : World) : (Instr.build 231 #[(0, .int .i64 r), (1, .map (some m))]).run Tryz.prog w = .ok (.agg #[.int .i64 r, .map (some m), .pointer none, .pointer none, .int .i64 0, .pointer none, .pointer none, .int .i64 0, .int .i64 0, .int .i64 0, .int .i64 0, .int .i64 0, .int .i64 0]) w := by kernel_rfl
def newA (room : Int) : AS Int Ct := ⟨(min (max room 0) 4096).toNat, [], [], 0, 0, 0⟩
def newS (room : Int) : CSi := ⟨min (max room 0) 4096, ⟨none, none, 0⟩, ⟨none, none, 0⟩, 0, 0, 0, fun _ => ⟨0, ct0, false, none, none⟩, [], fun _ => none⟩
theorem newS_abs (room : Int) : Abs (newS room) (fun _ => []) none (newA room) := by
  refine ⟨⟨fun r => by cases r <;> exact ⟨rfl, rfl, rfl, trivial⟩, fun r => List.nodup_nil, fun b hb => (by cases hb), fun e he => (by cases he), fun r b hb => (by cases hb), fun e he => (by cases he), fun r b hb => (by cases hb), fun b hb => ?_, fun k b hb => (by cases hb)⟩, ?_, rfl, rfl, rfl, rfl, rfl⟩
  · rcases hb with ⟨r, hr⟩ | h
    · cases hr
    · cases h
  · show min (max room 0) 4096 = (((min (max room 0) 4096).toNat : Nat) : Int)
    omega
theorem mapIs_nil : MapIs (.map []) (fun _ => none) := ⟨Maps.isMap_empty, fun k _ _ => ⟨rfl, rfl⟩, fun k b _ h => by cases h⟩
set_option maxHeartbeats 400000 in
theorem New_any (w : World) (room : Int) :
    Calls Tryz.prog 74 #[.int .i64 room] w fun x w' => x = .returned (.pointer (some ⟨w.heap.size + 1, 0, none⟩)) ∧ CA w' w.heap.size [w.heap.size + 1, w.heap.size] (w.heap.size + 1) 0 (newA room) ∧ Below w.heap.size w w' := by
  have hmm := @run_makeMap Tryz.prog
  have hbd := build_cache (min (max room 0) 4096) w.heap.size
  have hmx := run_max room 0
  rw [show (if (0 : Int) > room then (0 : Int) else room) = max room 0 by split <;> omega] at hmx
  have hmn := run_min (max room 0) 4096
  rw [show (if (4096 : Int) < max room 0 then (4096 : Int) else max room 0) = min (max room 0) 4096 by split <;> omega] at hmn
  have hS : (newS room).room = min (max room 0) 4096 := rfl
  have HS := hid hS
  clear hS
  generalize max room 0 = r0 at *
  generalize min r0 4096 = r1 at *
  go_enter Tryz.func74, Tryz.ntmps74
  go_wp2
  go_ret
  have hB1 : Below w.heap.size w (w.alloc (.map #[] 0)) := (Below.refl _ w).alloc (Nat.le_refl _) _
  have hB2 : ∀ o, Below (w.alloc (.map #[] 0)).heap.size (w.alloc (.map #[] 0)) ((w.alloc (.map #[] 0)).alloc o) := fun o => (Below.refl _ _).alloc (Nat.le_refl _) o
  have hs : (w.alloc (.map #[] 0)).heap.size = w.heap.size + 1 := by simp
  refine ⟨rfl, ⟨w.heap.size, 0, newS room, fun _ => [], rfl, ⟨?_, fun b hb => (by cases hb), ⟨_, ?_, mapIs_nil⟩, fun b hb => (by cases hb), by omega, Nat.le_refl _, fun b hb => (by cases hb)⟩, newS_abs room, Nat.le_refl _, by simp [AS.tot, newA], by simp [newA]⟩, hB1.alloc (by rw [hs]; omega) _⟩
  · have := hnew (w.alloc (.map #[] 0)) (.cells (ccells w.heap.size (newS room)) 231)
    rw [hs] at this
    rw [show ccells w.heap.size (newS room) = #[.int .i64 r1, .map (some w.heap.size), .pointer none, .pointer none, .int .i64 0, .pointer none, .pointer none, .int .i64 0, .int .i64 0, .int .i64 0, .int .i64 0, .int .i64 0, .int .i64 0] by unfold ccells; rw [HS.out]; rfl] at this ⊢
    exact this
  · exact ownsMap_heap' (World.ownsMap_made w Tryz.prog 3 _) ((hB2 _).block w.heap.size (by rw [hs]; omega))
/-! Tally. -/
end Go.Proofs.YtjpcegjgandnjaaGreatDoor.Ca
namespace Go.Proofs.YtjpcegjgandnjaaGreatDoor
set_option linter.unusedVariables false
set_option linter.unusedSimpArgs false
open Go.RowKit
open Go.Proofs.YtjpcegjgandnjaaGreatDoor.Ca (Ct ct0 ctC argV AS)
attribute [local go_sem ↓] Go.wp_at_zero Go.wp_at_succ

/-! A store in memory. -/
structure Sto where
  p : Nat
  g : Nat
  st : Nat
  pc : Nat
  F : List Nat
  FC : List Nat
  lb : List Nat
  D : DS
  s : Sup
  nx : Nat
  ep : Int
  N : Nat
  a : AS Int Ct
  sv : Value
  cts : List Ct
  vs : List (Int × List Int)
def stC (g pc : Nat) (sv : Value) : List Value := [.pointer (some ⟨g, 0, none⟩), .func (.func 73) #[.pointer (some ⟨g, 0, none⟩)] #[], .pointer (some ⟨pc, 0, none⟩), sv]
/-- What a content holds. -/
structure CtIs (w : World) (base : Nat) (lb : List Nat) (c : Ct) (v : Int × List Int) : Prop where
  kd : c.kd = v.1
  ow : Own w base (.slice c.sp c.n c.c) v.2
  bl : ∀ k, (Value.slice c.sp c.n c.c).ownBlock = some k → k ∈ lb
  kk : 1 ≤ v.1 ∧ v.1 ≤ 3
  le : v.2.length ≤ 246
  by8 : Byts v.2
theorem CtIs.to {w w1 : World} {base : Nat} {lb lb1 : List Nat} {c : Ct} {v : Int × List Int} (h : CtIs w base lb c v) (hl : ∀ k ∈ lb, k ∈ lb1) (hk : ∀ k ∈ lb, w1.heap[k]? = w.heap[k]?) : CtIs w1 base lb1 c v :=
  ⟨h.kd, h.ow.of_heap fun k e => hk k (h.bl k e), fun k e => hl k (h.bl k e), h.kk, h.le, h.by8⟩
def heldL : Int → List Ct → List (Int × Ct)
  | _, [] => []
  | n, c :: r => (n, c) :: heldL (n + 1) r
theorem heldL_snoc : ∀ (l : List Ct) (n : Int) (c : Ct), heldL n (l ++ [c]) = heldL n l ++ [(n + l.length, c)]
  | [], n, c => by simp [heldL]
  | x :: l, n, c => by
    simp only [List.cons_append, heldL, heldL_snoc l (n + 1) c, List.length_cons]
    rw [show n + 1 + (l.length : Int) = n + ((l.length + 1 : Nat) : Int) by push_cast; omega]
theorem heldL_at : ∀ (l : List Ct) (n : Int) (j : Nat) (h : j < l.length), Ca.findL (heldL n l) (n + j) = some (l.getD j ct0)
  | [], n, j, h => by simp at h
  | x :: l, n, 0, h => by simp [heldL, Ca.findL]
  | x :: l, n, j + 1, h => by
    have e := heldL_at l (n + 1) j (by simpa using h)
    have hne : ¬ (n = n + ((j + 1 : Nat) : Int)) := by push_cast; omega
    simp only [heldL, Ca.findL, List.find?_cons, decide_eq_true_eq, hne, decide_false, List.getD_cons_succ]
    rw [show n + ((j + 1 : Nat) : Int) = n + 1 + (j : Int) by push_cast; omega]
    exact e
theorem heldL_no : ∀ (l : List Ct) (n k : Int), (k < n ∨ n + l.length ≤ k) → Ca.findL (heldL n l) k = none
  | [], n, k, h => rfl
  | x :: l, n, k, h => by
    have hne : ¬ (n = k) := by simp at h; omega
    have e := heldL_no l (n + 1) k (by simp at h; omega)
    simp only [heldL, Ca.findL, List.find?_cons, hne, decide_false]
    exact e
structure SK (w : World) (base : Nat) (S : Sto) : Prop where
  da : DA w base S.F S.p S.D
  fk : FK w S.g S.p S.s S.nx S.ep
  ca : Ca.CA w base S.FC S.pc S.N S.a
  sk : w.heap[S.st]? = some (.cells (stC S.g S.pc S.sv).toArray 131 (0, 0))
  so : w.ownsRow base 166 2 S.sv S.cts.length (S.cts.flatMap ctC)
  lb : ∀ k ∈ S.lb, base ≤ k ∧ ∃ cs, w.heap[k]? = some (.cells cs 5 (0, 0))
  cl : S.cts.length = S.vs.length
  cv : ∀ j, j < S.cts.length → CtIs w base S.lb (S.cts.getD j ct0) (S.vs.getD j (0, []))
  ck : ∀ x ∈ S.a.clean, ∃ v, CtIs w base S.lb x.2 v ∧ 2 ≤ x.1 ∧ x.1 < S.s.ma ∧ unpackF x.1 (S.D.readOf x.1.toNat) = (v.1, v.2, 0)
  hd : S.a.held = heldL S.s.ma S.cts
  a1 : Apart S.F S.FC
  a2 : Apart S.F S.lb
  a3 : Apart S.FC S.lb
  bg : base ≤ S.g
  bs : base ≤ S.st
  bp : base ≤ S.pc
theorem SK.lt_g {w : World} {base : Nat} {S : Sto} (h : SK w base S) : S.g < w.heap.size := hlt_ h.fk
theorem SK.lt_st {w : World} {base : Nat} {S : Sto} (h : SK w base S) : S.st < w.heap.size := hlt_ h.sk
theorem SK.base {w : World} {base : Nat} {S : Sto} (h : SK w base S) : base ≤ w.heap.size := by have := h.lt_g; have := h.bg; omega
theorem SK.sv_ty {w : World} {base : Nat} {S : Sto} (h : SK w base S) {k : Nat} (e : S.sv.ownBlock = some k) : base ≤ k ∧ ∃ cs, w.heap[k]? = some (.cells cs 166 (0, 0)) := by
  obtain ⟨h1, cur, h2⟩ := ownsRow_block h.so k e; exact ⟨h1, cur, h2⟩
/-- Blocks that are all as they were: all stays. -/
theorem SK.of_heap {w w1 : World} {base : Nat} {S : Sto} (h : SK w base S) (hk : ∀ k, k = S.g ∨ k = S.st ∨ k ∈ S.F ∨ k ∈ S.FC ∨ S.sv.ownBlock = some k ∨ k ∈ S.lb → w1.heap[k]? = w.heap[k]?) (hs : w.heap.size ≤ w1.heap.size) : SK w1 base S := by
  have hl : ∀ k ∈ S.lb, w1.heap[k]? = w.heap[k]? := fun k q => hk k (by simp [q])
  refine ⟨h.da.of_heap fun k q => hk k (by simp [q]), (hk S.g (by simp)).trans h.fk, ?_, (hk S.st (by simp)).trans h.sk, ownsRow_heap h.so fun k e => hk k (by simp [e]), fun k q => ⟨(h.lb k q).1, ?_⟩, h.cl, fun j hj => (h.cv j hj).to (fun k q => q) hl, fun x hx => ?_, h.hd, h.a1, h.a2, h.a3, h.bg, h.bs, h.bp⟩
  · obtain ⟨m, n, s, L, e, c, r⟩ := h.ca
    exact ⟨m, n, s, L, e, c.of_heap fun i hi => hk i (by rw [e]; simp [hi]), r⟩
  · obtain ⟨cs, hc⟩ := (h.lb k q).2
    exact ⟨cs, (hl k q).trans hc⟩
  · obtain ⟨v, h1, h2⟩ := h.ck x hx
    exact ⟨v, h1.to (fun k q => q) hl, h2⟩
theorem SK.in_lt {w : World} {base : Nat} {S : Sto} (h : SK w base S) {k : Nat} (hk : k = S.g ∨ k = S.st ∨ k ∈ S.F ∨ k ∈ S.FC ∨ S.sv.ownBlock = some k ∨ k ∈ S.lb) : base ≤ k ∧ k < w.heap.size := by
  rcases hk with e | e | e | e | e | e
  · rw [e]; exact ⟨h.bg, h.lt_g⟩
  · rw [e]; exact ⟨h.bs, h.lt_st⟩
  · exact h.da.lt k e
  · exact h.ca.lt k e
  · obtain ⟨h1, cs, h2⟩ := h.sv_ty e; exact ⟨h1, hlt_ h2⟩
  · obtain ⟨h1, cs, h2⟩ := h.lb k e; exact ⟨h1, hlt_ h2⟩
theorem SK.below {w w1 : World} {base : Nat} {S : Sto} (h : SK w base S) (hb : Below w.heap.size w w1) : SK w1 base S := h.of_heap (fun k hk => hb.block k (h.in_lt hk).2) hb.size
theorem SK.drew {w : World} {base : Nat} {S : Sto} (h : SK w base S) : SK w.drew base S := h.below (Below.refl _ _).drew
theorem SK.c0 {w : World} {base : Nat} {S : Sto} (h : SK w base S) : w.cell? ⟨S.st, 0, none⟩ = some (.pointer (some ⟨S.g, 0, none⟩)) := by rw [cell_of_row _ _ _ _ _ _ h.sk]; rfl
theorem SK.c1 {w : World} {base : Nat} {S : Sto} (h : SK w base S) : w.cell? ⟨S.st, 1, none⟩ = some (.func (.func 73) #[.pointer (some ⟨S.g, 0, none⟩)] #[]) := by rw [cell_of_row _ _ _ _ _ _ h.sk]; rfl
theorem SK.c2 {w : World} {base : Nat} {S : Sto} (h : SK w base S) : w.cell? ⟨S.st, 2, none⟩ = some (.pointer (some ⟨S.pc, 0, none⟩)) := by rw [cell_of_row _ _ _ _ _ _ h.sk]; rfl
theorem SK.c3 {w : World} {base : Nat} {S : Sto} (h : SK w base S) : w.cell? ⟨S.st, 3, none⟩ = some S.sv := by rw [cell_of_row _ _ _ _ _ _ h.sk]; rfl
theorem SK.fz {w : World} {base : Nat} {S : Sto} (h : SK w base S) (j : Nat) : w.frozen? ⟨S.st, j, none⟩ = false := frozen_of_row _ _ _ _ _ h.sk
theorem SK.svf {w : World} {base : Nat} {S : Sto} (h : SK w base S) : ∃ sp cap, S.sv = .slice sp S.cts.length cap := ownsRow_form h.so
theorem wpList_fieldS2 {ops : Array Oper} {rest : List Oper} {o : Oper} {a : Act} {w : World} {Q : Exit → Act → World → Prop} (hg : o.guard = none) (x : Operand) (ho : o.op = .field 99 x 2) (s2 : Sup) (y : Int) (hy : s2.ma = y) (hx : a.eval x = .agg (supC s2))
    (h : wpList Tryz.prog ops Q rest (a.put o.dst (.int .i64 y)) w) : wpList Tryz.prog ops Q (o :: rest) a w := by
  refine wpList_plain hg fun K hK => ?_
  unfold Oper.wp
  have e : (execOp a.eval o).run Tryz.prog w = .ok (.value (.int .i64 y)) w := by
    subst hy
    unfold execOp
    simp only [ho, hx]
    kernel_rfl
  rw [e]
  exact hK _ _ h
set_option maxRecDepth 100000 in
set_option maxHeartbeats 400000 in
theorem oLive_any (w : World) (base : Nat) (S : Sto) (h : SK w base S) :
    Calls Tryz.prog 28 #[.pointer (some ⟨S.st, 0, none⟩)] w fun e w' => e = .returned (.int .i64 (liveF S.D S.ep)) ∧ Below w.heap.size w w' := by
  have HL := hid (Live_any w base S.F S.p S.D h.da S.g S.s S.nx S.ep h.fk)
  have c0 := h.c0
  clear h
  go_enter Tryz.func28, Tryz.ntmps28
  go_wp2_with fail
  refine HL.out.mono ?_
  rintro e w1 ⟨rfl, hb⟩
  go_wp2
  go_ret
  exact ⟨rfl, hb⟩
set_option maxRecDepth 100000 in
set_option maxHeartbeats 400000 in
theorem omark_any (w : World) (base : Nat) (S : Sto) (h : SK w base S) :
    Calls Tryz.prog 166 #[.pointer (some ⟨S.st, 0, none⟩)] w fun e w' => e = .returned (.int .i64 S.s.ma) ∧ Below w.heap.size w w' := by
  have HL := hid (FSuper_any w S.g S.p S.s S.nx S.ep h.fk)
  have c0 := h.c0
  clear h
  go_enter Tryz.func166, Tryz.ntmps166
  go_wp2_with fail
  refine HL.out.mono ?_
  rintro e w1 ⟨rfl, hb⟩
  go_wp2_with (first | refine wpList_fieldS2 rfl _ rfl S.s S.s.ma rfl rfl ?_)
  go_ret
  exact ⟨rfl, hb⟩
set_option maxRecDepth 100000 in
set_option maxHeartbeats 400000 in
theorem oPages_any (w : World) (base : Nat) (S : Sto) (h : SK w base S) :
    Calls Tryz.prog 30 #[.pointer (some ⟨S.st, 0, none⟩)] w fun e w' => e = .returned (.int .i64 S.D.np) ∧ w = w' := by
  have HL := hid (Pages_any w base S.F S.p S.D h.da)
  have c0 := h.c0
  have g0 := h.fk.c0
  clear h
  go_enter Tryz.func30, Tryz.ntmps30
  go_wp2_with fail
  refine HL.out.mono ?_
  rintro e w1 ⟨rfl, rfl⟩
  go_wp2
  go_ret
  exact ⟨rfl, rfl⟩
end Go.Proofs.YtjpcegjgandnjaaGreatDoor
namespace Go.Proofs.YtjpcegjgandnjaaGreatDoor
set_option linter.unusedVariables false
set_option linter.unusedSimpArgs false
open Go.RowKit
open Go.Proofs.YtjpcegjgandnjaaGreatDoor.Ca (Ct ct0 ctC argV AS)
attribute [local go_sem ↓] Go.wp_at_zero Go.wp_at_succ

set_option maxRecDepth 100000 in
set_option maxHeartbeats 1000000 in
theorem oNext_any (w : World) (base : Nat) (S : Sto) (h : SK w base S) (hl : S.cts.length ≤ 100000) (hm : 0 ≤ S.s.ma ∧ S.s.ma ≤ 100000) :
    Calls Tryz.prog 128 #[.pointer (some ⟨S.st, 0, none⟩)] w fun e w' => e = .returned (.int .i64 (S.s.ma + S.cts.length)) ∧ Below w.heap.size w w' := by
  have HM := hid (fun w1 (q : Below w.heap.size w w1) => omark_any w1 base S (h.below q))
  have c3 := h.c3
  have hst := h.lt_st
  obtain ⟨sp, cap, e⟩ := h.svf
  rw [e] at c3
  clear h e
  generalize S.cts.length = n at *
  generalize S.s.ma = ma at *
  generalize S.st = st at *
  obtain ⟨m0, m1⟩ := hm
  have i0 : (n : Int) ≤ 100000 := by omega
  go_enter Tryz.func128, Tryz.ntmps128
  go_wp2
  refine wp_region_noPanic ?_
  refine wp_region_held_drew (S := fun w' => Below w.heap.size w w') (by kernel_rfl) (Below.refl _ _).drew (fun hHeld => ?_)
  refine wpAnyH_take (i := 0) (oi := { dst := some 3, op := Op.move (Operand.tmp 0), type := 92, pos := "store.go:52", after := #[], guard := none }) (v := .pointer (some ⟨st, 0, none⟩)) rfl (by kernel_rfl) (by kernel_rfl) (by kernel_rfl) (fun _ _ _ h => h) (Or.inl ⟨by rfl, by intro w hS; go_simp⟩) hHeld ?_
  try simp only [Act.put, List.setIfInBounds_toArray, List.set_cons_zero, List.set_cons_succ]
  refine wpAnyH_take (i := 2) (oi := { dst := some 5, op := Op.move (Operand.tmp 0), type := 92, pos := "store.go:52", after := #[], guard := none }) (v := .pointer (some ⟨st, 0, none⟩)) rfl (by kernel_rfl) (by kernel_rfl) (by kernel_rfl) (fun _ _ _ h => h) (Or.inl ⟨by rfl, by intro w hS; go_simp⟩) hHeld ?_
  try simp only [Act.put, List.setIfInBounds_toArray, List.set_cons_zero, List.set_cons_succ]
  refine wpAnyH_take (i := 3) (oi := { dst := some 6, op := Op.nilCheck (Operand.tmp 5), type := 0, pos := "store.go:52", after := #[{ on := 2, ground := Ground.data }], guard := none }) (v := .pointer (some ⟨st, 0, none⟩)) rfl (by kernel_rfl) (by kernel_rfl) (by kernel_rfl) (fun _ _ _ h => h) (Or.inl ⟨by rfl, by intro w hS; go_simp⟩) hHeld ?_
  try simp only [Act.put, List.setIfInBounds_toArray, List.set_cons_zero, List.set_cons_succ]
  refine wpAnyH_take (i := 4) (oi := { dst := some 7, op := Op.fieldAddr 131 (Operand.tmp 6) 3, type := 0, pos := "store.go:52", after := #[{ on := 3, ground := Ground.data }], guard := none }) (v := .pointer (some ⟨st, 3, none⟩)) rfl (by kernel_rfl) (by kernel_rfl) (by kernel_rfl) (fun _ _ _ h => h) (Or.inl ⟨by rfl, by intro w hS; go_simp⟩) hHeld ?_
  try simp only [Act.put, List.setIfInBounds_toArray, List.set_cons_zero, List.set_cons_succ]
  refine wpAnyH_take (i := 5) (oi := { dst := some 8, op := Op.load 129 (Operand.tmp 7), type := 129, pos := "store.go:52", after := #[{ on := 4, ground := Ground.data }], guard := none }) (v := .slice sp n cap) rfl (by kernel_rfl) (by kernel_rfl) (by kernel_rfl) (fun _ _ _ h => h) (Or.inl ⟨by rfl, by intro w hS; have hc := (hS.cell (p := ⟨st, 3, none⟩) hst).trans c3; go_simp⟩) hHeld ?_
  try simp only [Act.put, List.setIfInBounds_toArray, List.set_cons_zero, List.set_cons_succ]
  refine wpAnyH_take (i := 6) (oi := { dst := some 9, op := Op.call { callee := Callee.builtin Builtin.len, args := #[Operand.tmp 8], argTypes := #[129] }, type := 3, pos := "store.go:52", after := #[{ on := 5, ground := Ground.data }], guard := none }) (v := .int .i64 n) rfl (by kernel_rfl) (by kernel_rfl) (by kernel_rfl) (fun _ _ _ h => h) (Or.inl ⟨by rfl, by intro w hS; go_simp⟩) hHeld ?_
  try simp only [Act.put, List.setIfInBounds_toArray, List.set_cons_zero, List.set_cons_succ]
  refine wpAnyH_ready (rs := [1]) (by kernel_rfl) (by simp) ?_
  refine (AllReadyH.cons (o := { dst := some 4, op := Op.call { callee := Callee.value (Operand.func 166), args := #[Operand.tmp 3], argTypes := #[92] }, type := 3, pos := "store.go:52", after := #[{ on := 0, ground := Ground.data }], guard := none }) rfl (fun K hK => ?_) AllReadyH.nil)
  go_simp
  go_at_call 166
  refine (HM.out _ hHeld).mono ?_
  rintro e w4 ⟨rfl, hb4⟩
  go_wp2_with fail
  refine hK.out _ _ (hHeld.trans (hb4.mono hHeld.size)) (fun hHeld2 => ?_)
  clear hK K hHeld
  have hHeld := hHeld2
  clear hHeld2
  clear hb4
  try simp only [Act.put, List.setIfInBounds_toArray, List.set_cons_zero, List.set_cons_succ]
  refine wpAnyH_take (i := 7) (oi := { dst := some 10, op := Op.binOp BinOp.add 3 (Operand.tmp 4) (Operand.tmp 9) 3, type := 3, pos := "store.go:52", after := #[{ on := 1, ground := Ground.data }, { on := 6, ground := Ground.data }], guard := none }) (v := .int .i64 (ma + n)) rfl (by kernel_rfl) (by kernel_rfl) (by kernel_rfl) (fun _ _ _ h => h) (Or.inl ⟨by rfl, by intro w hS; (go_simp; all_goals exact wrap_i64_id _ (by omega) (by omega))⟩) hHeld ?_
  try simp only [Act.put, List.setIfInBounds_toArray, List.set_cons_zero, List.set_cons_succ]
  refine wpAnyH_take (i := 8) (oi := { dst := some 2, op := Op.assign (Operand.tmp 10), type := 3, pos := "store.go:52", after := #[{ on := 7, ground := Ground.data }, { on := 1, ground := Ground.chain }, { on := 0, ground := Ground.phase }, { on := 1, ground := Ground.phase }, { on := 2, ground := Ground.phase }, { on := 3, ground := Ground.phase }, { on := 4, ground := Ground.phase }, { on := 5, ground := Ground.phase }, { on := 6, ground := Ground.phase }, { on := 7, ground := Ground.phase }], guard := none }) (v := .int .i64 (ma + n)) rfl (by kernel_rfl) (by kernel_rfl) (by kernel_rfl) (fun _ _ _ h => h) (Or.inl ⟨by rfl, by intro w hS; go_simp⟩) hHeld ?_
  try simp only [Act.put, List.setIfInBounds_toArray, List.set_cons_zero, List.set_cons_succ]
  refine wpAnyH_done (by kernel_rfl) ?_ _
  refine NoPanic.normal ?_
  go_wp2
  go_ret
  exact ⟨rfl, hHeld⟩
set_option maxRecDepth 100000 in
set_option maxHeartbeats 1000000 in
theorem ohas_any (w : World) (base : Nat) (S : Sto) (h : SK w base S) (hl : S.cts.length ≤ 100000) (hm : 0 ≤ S.s.ma ∧ S.s.ma ≤ 100000) (q : Int) :
    Calls Tryz.prog 157 #[.pointer (some ⟨S.st, 0, none⟩), .int .i64 q] w fun e w' => e = .returned (.bool (decide (2 ≤ q ∧ q < S.s.ma + S.cts.length))) ∧ Below w.heap.size w w' := by
  have HN := hid (oNext_any w base S h hl hm)
  clear h
  by_cases h1 : 2 ≤ q
  · by_cases h2 : q < S.s.ma + S.cts.length
    · rw [decide_eq_true ⟨h1, h2⟩]
      generalize S.s.ma + (S.cts.length : Int) = t at *
      go_enter Tryz.func157, Tryz.ntmps157
      go_wp2_with fail
      refine HN.out.mono ?_
      rintro e w1 ⟨rfl, hb⟩
      go_wp2
      go_ret
      exact ⟨congrArg (fun b => Ending.returned (Value.bool b)) (by first | rfl | simp [h2] | (simp; omega)), hb⟩
    · rw [decide_eq_false (fun x => h2 x.2)]
      generalize S.s.ma + (S.cts.length : Int) = t at *
      go_enter Tryz.func157, Tryz.ntmps157
      go_wp2_with fail
      refine HN.out.mono ?_
      rintro e w1 ⟨rfl, hb⟩
      go_wp2
      go_ret
      exact ⟨congrArg (fun b => Ending.returned (Value.bool b)) (by first | rfl | simp [h2] | (simp; omega)), hb⟩
  · rw [decide_eq_false (fun x => h1 x.1)]
    clear HN
    go_enter Tryz.func157, Tryz.ntmps157
    go_wp2
    go_ret
    exact ⟨congrArg (fun b => Ending.returned (Value.bool b)) (by first | rfl | simp [h1] | (simp; omega)), Below.refl _ _⟩
theorem allocSu (a : Act) (o : Oper) (w : World) (ho : o.op = .alloc 99) : (execOp a.eval o).run Tryz.prog w = .ok (.value (.pointer (some ⟨w.heap.size, 0, none⟩))) (w.alloc (.cells (supC sup0) 99)) := by
  unfold execOp
  rw [ho]
  kernel_rfl
set_option maxRecDepth 100000 in
set_option maxHeartbeats 400000 in
theorem copied_any (w : World) (zs : List Int) (sp : Option Addr) (cap : Nat) (hS : Src w sp cap zs) (hn : sp = none → cap = 0) (hl : zs.length ≤ 1000) :
    Calls Tryz.prog 160 #[.slice sp zs.length cap] w fun e w' => ∃ v, e = .returned v ∧ Own w' w.heap.size v zs ∧ Below w.heap.size w w' := by
  have hE := Own.nil w w.heap.size
  have i0 : (zs.length : Int) ≤ 1000 := by omega
  go_enter Tryz.func160, Tryz.ntmps160
  go_wp2_with (first | (at_builtin; refine wpList_append_wide rfl (.const (.slice none 0 0)) (.tmp 3) rfl w.heap.size _ [] zs rfl hE sp cap rfl hn hS (by simp; omega) (Nat.le_refl _) ?_; intro v2 w2 hO2 hg2 hd2))
  go_ret
  exact ⟨_, rfl, hO2, grown_keeps hg2 (fun k hk => by cases hk) (Nat.le_refl _)⟩
end Go.Proofs.YtjpcegjgandnjaaGreatDoor
namespace Go.Proofs.YtjpcegjgandnjaaGreatDoor
set_option linter.unusedVariables false
set_option linter.unusedSimpArgs false
open Go.RowKit
open Go.Proofs.YtjpcegjgandnjaaGreatDoor.Ca (Ct ct0 ctC argV AS)
attribute [local go_sem ↓] Go.wp_at_zero Go.wp_at_succ

set_option maxRecDepth 100000 in
set_option maxHeartbeats 400000 in
theorem oSuper_any (w : World) (base : Nat) (S : Sto) (h : SK w base S) :
    Calls Tryz.prog 29 #[.pointer (some ⟨S.st, 0, none⟩)] w fun e w' => e = .returned (.agg (supC S.s)) ∧ Below w.heap.size w w' := by
  have b0 := below_new w (.cells (supC sup0) 99)
  have r0 := hnew w (.cells (supC sup0) 99)
  have HL := hid (FSuper_any _ S.g S.p S.s S.nx S.ep (h.below b0).fk)
  have c0 : (w.alloc (.cells #[.int .i64 0, .int .i64 0, .int .i64 0, .int .i64 0, .int .i64 0] 99)).cell? ⟨S.st, 0, none⟩ = some (.pointer (some ⟨S.g, 0, none⟩)) := (h.below b0).c0
  have hz := b0.size
  clear h
  generalize S.s = s at *
  go_enter Tryz.func29, Tryz.ntmps29
  go_wp2_with fail
  refine HL.out.mono ?_
  rintro e w1 ⟨rfl, hb⟩
  have r1 := (hb.block w.heap.size (by simp)).trans r0
  have b1 := b0.trans (hb.mono hz)
  clear hb b0 r0 HL c0
  go_wp2_with (first
    | (refine wpList_store_row (by rfl) 99 (.tmp 2) (.tmp 7) (by rfl) w.heap.size (supC s) (by rfl) (by rfl) 99 (supC sup0) (by exact r1) (supN _) (supS _ _) (supO _) ?_))
  exact bodyPost_ret (v := .agg (supC s)) (results_cell_row Tryz.results29 _ _ w.heap.size 99 _ _ _ rfl (setRow_heap _ _ _ _ _ _ r1) Tryz.underlying99 rfl (by rw [size_super]; rfl)) rfl ⟨rfl, below_setRow b1 (Nat.le_refl _) _⟩
theorem Ca.CA.base_le {w : World} {base b2 : Nat} {F : List Nat} {p N : Nat} {a : AS Int Ct} (h : Ca.CA w base F p N a) (hb : b2 ≤ base) : Ca.CA w b2 F p N a := by
  obtain ⟨m, n, s, L, e, c, r⟩ := h
  exact ⟨m, n, s, L, e, ⟨c.cell, c.ents, c.mp, c.kwf, Nat.le_trans hb c.bp, Nat.le_trans hb c.bm, fun b q => Nat.le_trans hb (c.bb b q)⟩, r⟩
theorem build_store (g pc : Nat) (w : World) : (Instr.build 131 #[(0, .pointer (some ⟨g, 0, none⟩)), (1, .func (.func 73) #[.pointer (some ⟨g, 0, none⟩)] #[]), (2, .pointer (some ⟨pc, 0, none⟩))]).run Tryz.prog w = .ok (.agg #[.pointer (some ⟨g, 0, none⟩), .func (.func 73) #[.pointer (some ⟨g, 0, none⟩)] #[], .pointer (some ⟨pc, 0, none⟩), .slice none 0 0]) w := by kernel_rfl
set_option maxRecDepth 100000 in
set_option maxHeartbeats 1000000 in
theorem oNew_any (w : World) (base : Nat) (F : List Nat) (p : Nat) (D : DS) (h : DA w base F p D) (g : Nat) (s : Sup) (nx ep : Int) (hf : FK w g p s nx ep) (hbg : base ≤ g) (hlv : liveF D ep = 0) (room : Int) (hr : 0 ≤ room ∧ room ≤ 4096) (m : Nat) (hm : s.ma = m) :
    Calls Tryz.prog 47 #[.pointer (some ⟨g, 0, none⟩), .int .i64 room] w fun e w' => ∃ st pc FC, e = .returned (.tuple #[.pointer (some ⟨st, 0, none⟩), .int .i64 0]) ∧ SK w' base ⟨p, g, st, pc, F, FC, [], D, s, m, ep, 0, Ca.newA room, .slice none 0 0, [], []⟩ ∧ w.heap.size ≤ st ∧ (∀ k ∈ FC, w.heap.size ≤ k) ∧ Fr (g :: F) w w' := by
  have HL := hid (Live_any w base F p D h g s nx ep hf)
  rw [hlv] at HL
  have HFO := hid (fun (w1 : World) (hb : Below w.heap.size w w1) => Forget_any w1 base F p D (h.below hb) g s nx ep (hf.below hb))
  have HW := hid (hlt_ hf)
  obtain ⟨r0, r1⟩ := hr
  have HHR := hid (show 0 ≤ room ∧ room ≤ 4096 from ⟨r0, r1⟩)
  have hbd := build_store g
  clear h hf hlv
  go_enter Tryz.func47, Tryz.ntmps47
  go_wp2_with fail
  refine HL.out.mono ?_
  rintro e w1 ⟨rfl, hb1⟩
  have HB1 := hid hb1
  clear hb1 HL
  go_wp2_with (first | (go_at_call 72; refine (HFO.out w1 HB1.out).mono ?_; rintro e w2 ⟨rfl, hD2, hF2, hf2⟩; have HD2 := hid hD2; have HF2 := hid hF2; have Hf2 := hid hf2; clear hD2 hF2 hf2))
  refine (Ca.New_any w2 room).mono ?_
  rintro e w3 ⟨rfl, hc3, hb3⟩
  have HC3 := hid hc3
  have HB3 := hid hb3
  clear hc3 hb3
  go_wp2
  go_ret2
  have hw2 : base ≤ w2.heap.size := Nat.le_trans hbg (Nat.le_of_lt (Nat.lt_of_lt_of_le HW.out (Nat.le_trans HB1.out.size Hf2.out.size)))
  have hw12 : w.heap.size ≤ w2.heap.size := Nat.le_trans HB1.out.size Hf2.out.size
  have hw3 := HB3.out.size
  have hb4 := HB3.out.alloc hw3 (.cells #[.pointer (some ⟨g, 0, none⟩), .func (.func 73) #[.pointer (some ⟨g, 0, none⟩)] #[], .pointer (some ⟨w2.heap.size + 1, 0, none⟩), .slice none 0 0] 131)
  refine ⟨w3.heap.size, w2.heap.size + 1, [w2.heap.size + 1, w2.heap.size], rfl, ⟨HD2.out.below hb4, ?_, (HC3.out.below (below_new w3 _)).base_le hw2, hnew w3 _, ownsRow_none _ _ _ _, fun k hk => absurd hk (by simp), rfl, fun j hj => absurd hj (by simp), fun x hx => absurd hx (by simp [Ca.newA]), rfl, ?_, fun k _ q => absurd q (by simp), fun k _ q => absurd q (by simp), hbg, Nat.le_trans hw2 hw3, by show base ≤ w2.heap.size + 1; omega⟩, Nat.le_trans hw12 hw3, ?_, ?_⟩
  · show FK _ g p s (m : Int) ep
    rw [← hm]
    exact HF2.out.below hb4
  · intro k hk q
    have := (HD2.out.lt k hk).2
    simp at q
    omega
  · intro k hk
    simp at hk
    omega
  · exact ((Fr.of_below (F := g :: F) HB1.out).trans Hf2.out (Gr.refl _ _)).tail (F' := g :: F) hb4
end Go.Proofs.YtjpcegjgandnjaaGreatDoor
