import Derived.Test.YtjlakgojbfglhaaG18
namespace Go.Proofs.Ytjlakgojbfglhaa
set_option linter.unusedVariables false
set_option linter.unusedSimpArgs false
open Go.RowKit
attribute [local go_sem ↓] Go.wp_at_zero Go.wp_at_succ

/-! An act of the book. -/
set_option maxRecDepth 100000 in
set_option maxHeartbeats 1000000 in
theorem Append_full (w : World) (base : Nat) (F : List Nat) (p : Nat) (D : DS) (h : DA w base F p D) (g : Nat) (s : Sup) (ep : Int) (q : Nat) (hf : FK w g p s q ep) (hlv : liveF D ep = 0) (hq : q = D.np) (kd : Int) (hk : kindOk kd = true) (l : List Int) (hl : l.length ≤ 246) (sp : Option Addr) (cap : Nat) :
    Calls Try.prog 10 #[.pointer (some ⟨g, 0, none⟩), .int .i64 kd, .slice sp l.length cap] w fun e w' => e = .returned (.tuple #[.int .i64 0, .int .i64 5]) ∧ Below w.heap.size w w' := by
  have hnp := h.ok.np
  obtain ⟨k1, k3⟩ := (kindOk_iff kd).1 hk
  have HL := hid (Live_any w base F p D h g s q ep hf)
  rw [hlv] at HL
  have HD := hid h
  have HF := hid hf
  have hll : (l.length : Int) ≤ 246 := by omega
  have hqn : ((q : Int) == (D.np : Int)) = true := by rw [hq]; simp
  clear h hf hnp hl hk hlv hq
  go_enter Try.func10, Try.ntmps10
  go_wp2_with fail
  refine HL.out.mono ?_
  rintro e w1 ⟨rfl, hb1⟩
  have HB1 := hid hb1
  have HD1 := hid (HD.out.below hb1)
  have HK1 := hid (HF.out.below hb1)
  have hgl1 : g < w1.heap.size := hlt_ HK1.out
  have c0 := hid (show w1.cell? ⟨g, 0, none⟩ = some (.pointer (some ⟨p, 0, none⟩)) from HK1.out.cell 0)
  have c6 := hid (show w1.cell? ⟨g, 6, none⟩ = some (.int .i64 (q : Int)) from HK1.out.cell 6)
  clear hb1 HL
  go_wp2
  refine wp_region_noPanic ?_
  refine wp_region_held_drew (S := fun w' => Below w1.heap.size w1 w') (by kernel_rfl) (Below.refl _ _).drew (fun hHeld => ?_)
  refine wpAnyH_take (i := 0) (oi := { dst := some 26, op := Op.move (Operand.tmp 0), type := 25, pos := "file.go:80", after := #[], guard := none }) (v := .pointer (some ⟨g, 0, none⟩)) rfl (by kernel_rfl) (by kernel_rfl) (by kernel_rfl) (fun _ _ _ h => h) (Or.inl ⟨by rfl, by intro w hS; go_simp⟩) hHeld ?_
  try simp only [Act.put, List.setIfInBounds_toArray, List.set_cons_zero, List.set_cons_succ]
  refine wpAnyH_take (i := 4) (oi := { dst := some 30, op := Op.move (Operand.tmp 0), type := 25, pos := "file.go:80", after := #[], guard := none }) (v := .pointer (some ⟨g, 0, none⟩)) rfl (by kernel_rfl) (by kernel_rfl) (by kernel_rfl) (fun _ _ _ h => h) (Or.inl ⟨by rfl, by intro w hS; go_simp⟩) hHeld ?_
  try simp only [Act.put, List.setIfInBounds_toArray, List.set_cons_zero, List.set_cons_succ]
  refine wpAnyH_take (i := 1) (oi := { dst := some 27, op := Op.nilCheck (Operand.tmp 26), type := 0, pos := "file.go:80", after := #[{ on := 0, ground := Ground.data }], guard := none }) (v := .pointer (some ⟨g, 0, none⟩)) rfl (by kernel_rfl) (by kernel_rfl) (by kernel_rfl) (fun _ _ _ h => h) (Or.inl ⟨by rfl, by intro w hS; go_simp⟩) hHeld ?_
  try simp only [Act.put, List.setIfInBounds_toArray, List.set_cons_zero, List.set_cons_succ]
  refine wpAnyH_take (i := 5) (oi := { dst := some 31, op := Op.nilCheck (Operand.tmp 30), type := 0, pos := "file.go:80", after := #[{ on := 4, ground := Ground.data }], guard := none }) (v := .pointer (some ⟨g, 0, none⟩)) rfl (by kernel_rfl) (by kernel_rfl) (by kernel_rfl) (fun _ _ _ h => h) (Or.inl ⟨by rfl, by intro w hS; go_simp⟩) hHeld ?_
  try simp only [Act.put, List.setIfInBounds_toArray, List.set_cons_zero, List.set_cons_succ]
  refine wpAnyH_take (i := 2) (oi := { dst := some 28, op := Op.fieldAddr 66 (Operand.tmp 27) 2, type := 0, pos := "file.go:80", after := #[{ on := 1, ground := Ground.data }], guard := none }) (v := .pointer (some ⟨g, 6, none⟩)) rfl (by kernel_rfl) (by kernel_rfl) (by kernel_rfl) (fun _ _ _ h => h) (Or.inl ⟨by rfl, by intro w hS; go_simp⟩) hHeld ?_
  try simp only [Act.put, List.setIfInBounds_toArray, List.set_cons_zero, List.set_cons_succ]
  refine wpAnyH_take (i := 6) (oi := { dst := some 32, op := Op.fieldAddr 66 (Operand.tmp 31) 0, type := 0, pos := "file.go:80", after := #[{ on := 5, ground := Ground.data }], guard := none }) (v := .pointer (some ⟨g, 0, none⟩)) rfl (by kernel_rfl) (by kernel_rfl) (by kernel_rfl) (fun _ _ _ h => h) (Or.inl ⟨by rfl, by intro w hS; go_simp⟩) hHeld ?_
  try simp only [Act.put, List.setIfInBounds_toArray, List.set_cons_zero, List.set_cons_succ]
  refine wpAnyH_take (i := 3) (oi := { dst := some 29, op := Op.load 3 (Operand.tmp 28), type := 3, pos := "file.go:80", after := #[{ on := 2, ground := Ground.data }], guard := none }) (v := .int .i64 (q : Int)) rfl (by kernel_rfl) (by kernel_rfl) (by kernel_rfl) (fun _ _ _ h => h) (Or.inl ⟨by rfl, by intro w hS; have hc := (hS.cell (p := ⟨g, 6, none⟩) hgl1).trans c6.out; go_simp⟩) hHeld ?_
  try simp only [Act.put, List.setIfInBounds_toArray, List.set_cons_zero, List.set_cons_succ]
  refine wpAnyH_take (i := 7) (oi := { dst := some 33, op := Op.load 24 (Operand.tmp 32), type := 24, pos := "file.go:80", after := #[{ on := 6, ground := Ground.data }], guard := none }) (v := .pointer (some ⟨p, 0, none⟩)) rfl (by kernel_rfl) (by kernel_rfl) (by kernel_rfl) (fun _ _ _ h => h) (Or.inl ⟨by rfl, by intro w hS; have hc := (hS.cell (p := ⟨g, 0, none⟩) hgl1).trans c0.out; go_simp⟩) hHeld ?_
  try simp only [Act.put, List.setIfInBounds_toArray, List.set_cons_zero, List.set_cons_succ]
  refine wpAnyH_ready (rs := [8]) (by kernel_rfl) (by simp) ?_
  refine (AllReadyH.cons (o := { dst := some 34, op := Op.call { callee := Callee.value (Operand.func 8), args := #[Operand.tmp 33], argTypes := #[24] }, type := 3, pos := "file.go:80", after := #[{ on := 7, ground := Ground.data }], guard := none }) rfl (fun K hK => ?_) AllReadyH.nil)
  go_simp
  go_at_call 8
  refine (Pages_any _ base F p D (HD1.out.below hHeld)).mono ?_
  rintro e w4 ⟨rfl, rfl⟩
  go_wp2_with fail
  refine hK.out _ _ (hHeld) (fun hHeld2 => ?_)
  clear hK K hHeld
  have hHeld := hHeld2
  clear hHeld2
  try simp only [Act.put, List.setIfInBounds_toArray, List.set_cons_zero, List.set_cons_succ]
  refine wpAnyH_take (i := 9) (oi := { dst := some 35, op := Op.binOp BinOp.eql 3 (Operand.tmp 29) (Operand.tmp 34) 3, type := 4, pos := "file.go:80", after := #[{ on := 3, ground := Ground.data }, { on := 8, ground := Ground.data }], guard := none }) (v := .bool true) rfl (by kernel_rfl) (by kernel_rfl) (by kernel_rfl) (fun _ _ _ h => h) (Or.inl ⟨by rfl, by intro w hS; (have he2 := hqn; go_simp)⟩) hHeld ?_
  try simp only [Act.put, List.setIfInBounds_toArray, List.set_cons_zero, List.set_cons_succ]
  refine wpAnyH_done (by kernel_rfl) ?_ _
  refine NoPanic.normal ?_
  go_wp2
  go_ret2
  exact ⟨rfl, HB1.out.trans (hHeld.mono HB1.out.size)⟩
/-- What an act leaves. -/
def AO (base p g gb : Nat) (F G : List Nat) (w : World) (n c : Nat) (ep : Int) (D : DS) (s : Sup) (Z : Prop) (er : Int) (w' : World) : Prop := ∃ (D' : DS) (s' : Sup) (nx' : Nat) (B' : Bk) (F' G' : List Nat), DA w' base F' p D' ∧ FK w' g p s' nx' ep ∧ BA w' base G' gb B' ∧ Apart F' G' ∧ Fr (g :: (F ++ G)) w w' ∧ Gr w F F' ∧ Gr w G G' ∧ Kp D s D' s' ∧ (Z → er = 0 ∧ D'.armed = 0) ∧ ((er = 0 ∧ Lv D' s' nx' ep B' n (c + 1)) ∨ (er = 2 ∧ D'.power = false ∧ D'.epoch = ep ∧ s'.ma ≤ B'.mrk ∧ Cr D' B' n (c + 1)))
theorem Fr.inl {F G : List Nat} {g : Nat} {w w1 : World} (h : Fr F w w1) : Fr (g :: (F ++ G)) w w1 := h.mono fun k hk => List.mem_cons_of_mem _ (List.mem_append_left _ hk)
theorem Fr.inr {F G : List Nat} {g : Nat} {w w1 : World} (h : Fr G w w1) : Fr (g :: (F ++ G)) w w1 := h.mono fun k hk => List.mem_cons_of_mem _ (List.mem_append_right _ hk)
theorem Fr.ing {F G : List Nat} {g : Nat} {w w1 : World} (h : Fr (g :: F) w w1) : Fr (g :: (F ++ G)) w w1 := h.mono fun k hk => by
  rcases List.mem_cons.1 hk with e | e
  · rw [e]; exact List.mem_cons_self
  · exact List.mem_cons_of_mem _ (List.mem_append_left _ e)
theorem FK.apart {w : World} {g p : Nat} {s : Sup} {nx ep : Int} (h : FK w g p s nx ep) {base : Nat} {G : List Nat} {gb : Nat} {B : Bk} : True := trivial
def actV (kind N : Int) (sp : Option Addr) (l c : Nat) : Array Value := #[.int .i64 kind, .int .i64 N, .slice sp l c]
set_option maxRecDepth 100000 in
set_option maxHeartbeats 1000000 in
theorem act0_in (w : World) (base : Nat) (F : List Nat) (p : Nat) (D : DS) (h : DA w base F p D) (hbw : base ≤ w.heap.size) (g : Nat) (s : Sup) (nx : Nat) (ep : Int) (hf : FK w g p s nx ep) (G : List Nat) (gb : Nat) (B : Bk) (hb : BA w base G gb B) (hap : Apart F G) (hgG : g ∉ G) (n c : Nat) (hlv : Lv D s nx ep B n c) (hc : c ≤ 1000) (kind N : Int) (hN : -9223372036854775808 ≤ N ∧ N ≤ 9223372036854775807) (l : List Int) (h8 : Byts l) (sp : Option Addr) (cap : Nat) (hS : Src w sp cap l) (hlm : l.length ≤ 140737488355000) (k1 : (kind == 1) = false) (k2 : (kind == 2) = false) (k3 : (kind == 3) = false) (k4 : (kind == 4) = false) :
    Calls Try.prog 13 #[.pointer (some ⟨gb, 0, none⟩), .pointer (some ⟨p, 0, none⟩), .pointer (some ⟨g, 0, none⟩), .agg (actV kind N sp l.length cap)] w fun e w' => ∃ er, e = .returned (.tuple #[.int .i64 er, .bool true]) ∧ AO base p g gb F G w n c ep D s (D.armed = 0) er w'  := by
  have hnp := h.ok.np
  have B0 := below_new w (.cells (actV kind N sp l.length cap) 35)
  have cA := hnew w (.cells (actV kind N sp l.length cap) 35)
  have cA0 : (w.alloc (.cells (actV kind N sp l.length cap) 35)).cell? ⟨w.heap.size, 0, none⟩ = some (.int .i64 kind) := by rw [cell_of_row _ _ _ _ _ _ cA]; rfl
  have cA1 : (w.alloc (.cells (actV kind N sp l.length cap) 35)).cell? ⟨w.heap.size, 1, none⟩ = some (.int .i64 N) := by rw [cell_of_row _ _ _ _ _ _ cA]; rfl
  have cA2 : (w.alloc (.cells (actV kind N sp l.length cap) 35)).cell? ⟨w.heap.size, 2, none⟩ = some (.slice sp l.length cap) := by rw [cell_of_row _ _ _ _ _ _ cA]; rfl
  have HF0 := hid (hf.below B0)
  have HD0 := hid (h.below B0)
  have HBB0 := hid (hb.below B0)
  have HNX := hid (FNext_any _ g p s nx ep HF0.out)
  have HB0 := hid B0
  have HD := hid h
  have HF := hid hf
  have HBB := hid hb
  have HAP := hid hap
  have HLV := hid hlv
  have HCC := hid hc
  clear h hf hb hap hlv hnp hS hN h8 B0
  go_enter Try.func13, Try.ntmps13
  go_wp2_with (first | (go_at_call 7; refine HNX.out.mono ?_; rintro e w1 ⟨rfl, rfl⟩))
  go_ret2
  exact ⟨0, rfl, D, s, nx, B, F, G, HD0.out, HF0.out, HBB0.out, HAP.out, (Fr.of_below (F := F) HB0.out).inl, Gr.refl _ _, Gr.refl _ _, Kp.same rfl, fun q => ⟨rfl, q⟩, Or.inl ⟨rfl, HLV.out.more⟩⟩
set_option maxRecDepth 100000 in
set_option maxHeartbeats 1000000 in
theorem act4_in (w : World) (base : Nat) (F : List Nat) (p : Nat) (D : DS) (h : DA w base F p D) (hbw : base ≤ w.heap.size) (g : Nat) (s : Sup) (nx : Nat) (ep : Int) (hf : FK w g p s nx ep) (G : List Nat) (gb : Nat) (B : Bk) (hb : BA w base G gb B) (hap : Apart F G) (hgG : g ∉ G) (n c : Nat) (hlv : Lv D s nx ep B n c) (hc : c ≤ 1000) (N : Int) (hN : -9223372036854775808 ≤ N ∧ N ≤ 9223372036854775807) (l : List Int) (h8 : Byts l) (sp : Option Addr) (cap : Nat) (hS : Src w sp cap l) (hlm : l.length ≤ 140737488355000) :
    Calls Try.prog 13 #[.pointer (some ⟨gb, 0, none⟩), .pointer (some ⟨p, 0, none⟩), .pointer (some ⟨g, 0, none⟩), .agg (actV 4 N sp l.length cap)] w fun e w' => ∃ er, e = .returned (.tuple #[.int .i64 er, .bool true]) ∧ AO base p g gb F G w n c ep D s (False) er w'  := by
  have hnp := h.ok.np
  have B0 := below_new w (.cells (actV 4 N sp l.length cap) 35)
  have cA := hnew w (.cells (actV 4 N sp l.length cap) 35)
  have cA0 : (w.alloc (.cells (actV 4 N sp l.length cap) 35)).cell? ⟨w.heap.size, 0, none⟩ = some (.int .i64 4) := by rw [cell_of_row _ _ _ _ _ _ cA]; rfl
  have cA1 : (w.alloc (.cells (actV 4 N sp l.length cap) 35)).cell? ⟨w.heap.size, 1, none⟩ = some (.int .i64 N) := by rw [cell_of_row _ _ _ _ _ _ cA]; rfl
  have cA2 : (w.alloc (.cells (actV 4 N sp l.length cap) 35)).cell? ⟨w.heap.size, 2, none⟩ = some (.slice sp l.length cap) := by rw [cell_of_row _ _ _ _ _ _ cA]; rfl
  have HF0 := hid (hf.below B0)
  have HD0 := hid (h.below B0)
  have HBB0 := hid (hb.below B0)
  have HNX := hid (FNext_any _ g p s nx ep HF0.out)
  have HB0 := hid B0
  have HD := hid h
  have HF := hid hf
  have HBB := hid hb
  have HAP := hid hap
  have HLV := hid hlv
  have HCC := hid hc
  have hm1 : 0 ≤ N % 12 ∧ N % 12 ≤ 11 := by omega
  have HPL := hid (place_any (w.alloc (.cells (actV 4 N sp l.length cap) 35)) N 12 (by decide) (by decide) hN.1 hN.2 12 rfl)
  obtain ⟨m, hm⟩ : ∃ m, m = N % 12 := ⟨_, rfl⟩
  rw [show ((12 : Nat) : Int) = 12 from rfl, ← hm] at HPL
  rw [← hm] at hm1
  obtain ⟨m0, m1⟩ := hm1
  have HAR := hid (Arm_any _ base F p D HD0.out (1 + m) (by omega))
  clear h hf hb hap hlv hnp hS hN h8 B0 hm
  go_enter Try.func13, Try.ntmps13
  go_wp2_with (first | (go_at_call 7; refine HNX.out.mono ?_; rintro e w1 ⟨rfl, rfl⟩) | (go_at_call 11; refine HPL.out.mono ?_; rintro e w1 ⟨rfl, rfl⟩) | (go_at_call 28; refine HAR.out.mono ?_; rintro e w2 ⟨rfl, hN2⟩))
  go_ret2
  obtain ⟨F2, q1, q2, q3⟩ := hN2
  have q4 : Gr w F F2 := fun k hk => (q3 k hk).imp id (fun x => Nat.le_trans HB0.out.size x)
  refine ⟨0, rfl, D.arm (1 + m), s, nx, B, F2, G, q1, HF0.out.other HD0.out q2, HBB0.out.other q2 HAP.out, HAP.out.step (fun k hk => (HBB.out.lt k hk).2) q4, (((Fr.of_below (F := F) HB0.out).trans q2 (Gr.refl _ _))).inl, q4, Gr.refl _ _, Kp.same (by unfold DS.arm; split <;> rfl), fun q => q.elim, Or.inl ⟨rfl, HLV.out.arm _ (by omega)⟩⟩
set_option maxRecDepth 100000 in
set_option maxHeartbeats 1000000 in
theorem act3_in (w : World) (base : Nat) (F : List Nat) (p : Nat) (D : DS) (h : DA w base F p D) (hbw : base ≤ w.heap.size) (g : Nat) (s : Sup) (nx : Nat) (ep : Int) (hf : FK w g p s nx ep) (G : List Nat) (gb : Nat) (B : Bk) (hb : BA w base G gb B) (hap : Apart F G) (hgG : g ∉ G) (n c : Nat) (hlv : Lv D s nx ep B n c) (hc : c ≤ 1000) (N : Int) (hN : -9223372036854775808 ≤ N ∧ N ≤ 9223372036854775807) (l : List Int) (h8 : Byts l) (sp : Option Addr) (cap : Nat) (hS : Src w sp cap l) (hlm : l.length ≤ 140737488355000) :
    Calls Try.prog 13 #[.pointer (some ⟨gb, 0, none⟩), .pointer (some ⟨p, 0, none⟩), .pointer (some ⟨g, 0, none⟩), .agg (actV 3 N sp l.length cap)] w fun e w' => ∃ er, e = .returned (.tuple #[.int .i64 er, .bool true]) ∧ AO base p g gb F G w n c ep D s (D.armed = 0) er w'  := by
  have hnp := h.ok.np
  have B0 := below_new w (.cells (actV 3 N sp l.length cap) 35)
  have cA := hnew w (.cells (actV 3 N sp l.length cap) 35)
  have cA0 : (w.alloc (.cells (actV 3 N sp l.length cap) 35)).cell? ⟨w.heap.size, 0, none⟩ = some (.int .i64 3) := by rw [cell_of_row _ _ _ _ _ _ cA]; rfl
  have cA1 : (w.alloc (.cells (actV 3 N sp l.length cap) 35)).cell? ⟨w.heap.size, 1, none⟩ = some (.int .i64 N) := by rw [cell_of_row _ _ _ _ _ _ cA]; rfl
  have cA2 : (w.alloc (.cells (actV 3 N sp l.length cap) 35)).cell? ⟨w.heap.size, 2, none⟩ = some (.slice sp l.length cap) := by rw [cell_of_row _ _ _ _ _ _ cA]; rfl
  have HF0 := hid (hf.below B0)
  have HD0 := hid (h.below B0)
  have HBB0 := hid (hb.below B0)
  have HNX := hid (FNext_any _ g p s nx ep HF0.out)
  have HB0 := hid B0
  have HD := hid h
  have HF := hid hf
  have HBB := hid hb
  have HAP := hid hap
  have HLV := hid hlv
  have HCC := hid hc
  have HFG := hid (Forget_any _ base F p D HD0.out g s nx ep HF0.out)
  have HMK := hid hlv.bk.1
  have HGG := hid hgG
  clear h hf hb hap hlv hnp hS hN h8 B0 hgG
  go_enter Try.func13, Try.ntmps13
  go_wp2_with (first | (go_at_call 7; refine HNX.out.mono ?_; rintro e w1 ⟨rfl, rfl⟩))
  refine HFG.out.mono ?_
  rintro e w2 ⟨rfl, hD2, hK2, hF2⟩
  have HBA2 := hid (HBB0.out.other hF2 (fun k hk e => by rcases List.mem_cons.1 hk with q | q; exact HGG.out (q ▸ e); exact HAP.out k q e))
  have HD2 := hid hD2
  have HK2 := hid hK2
  have HF2 := hid hF2
  clear hD2 hK2 hF2 HFG HNX
  go_wp2
  have X3 : Hid (w2.drew.cell? ⟨gb, 2, none⟩ = some (.int .i64 B.mrk) ∧ FK w2.drew g p s s.ma ep) := hid ⟨by obtain ⟨lv, kv, vs, hh⟩ := HBA2.out; show w2.cell? _ = _; rw [cell_of_row _ _ _ _ _ _ hh.cell]; rfl, HK2.out⟩
  refine wp_region_noPanic ?_
  refine wp_region_held_drew (S := fun w' => w'.cell? ⟨gb, 2, none⟩ = some (.int .i64 B.mrk) ∧ FK w' g p s s.ma ep) (by kernel_rfl) X3.out (fun hHeld => ?_)
  refine wpAnyH_take (i := 0) (oi := { dst := some 153, op := Op.move (Operand.tmp 2), type := 25, pos := "outright.go:118", after := #[], guard := none }) (v := .pointer (some ⟨g, 0, none⟩)) rfl (by kernel_rfl) (by kernel_rfl) (by kernel_rfl) (fun _ _ _ h => h) (Or.inl ⟨by rfl, by intro w hS; go_simp⟩) hHeld ?_
  try simp only [Act.put, List.setIfInBounds_toArray, List.set_cons_zero, List.set_cons_succ]
  refine wpAnyH_take (i := 2) (oi := { dst := some 155, op := Op.move (Operand.tmp 0), type := 28, pos := "outright.go:118", after := #[{ on := 7, ground := Ground.gcOnly Departure.lateStores }], guard := none }) (v := .pointer (some ⟨gb, 0, none⟩)) rfl (by kernel_rfl) (by kernel_rfl) (by kernel_rfl) (fun _ _ _ h => h) (Or.inl ⟨by rfl, by intro w hS; go_simp⟩) hHeld ?_
  try simp only [Act.put, List.setIfInBounds_toArray, List.set_cons_zero, List.set_cons_succ]
  refine wpAnyH_take (i := 3) (oi := { dst := some 156, op := Op.nilCheck (Operand.tmp 155), type := 0, pos := "outright.go:118", after := #[{ on := 2, ground := Ground.data }, { on := 7, ground := Ground.gcOnly Departure.lateStores }], guard := none }) (v := .pointer (some ⟨gb, 0, none⟩)) rfl (by kernel_rfl) (by kernel_rfl) (by kernel_rfl) (fun _ _ _ h => h) (Or.inl ⟨by rfl, by intro w hS; go_simp⟩) hHeld ?_
  try simp only [Act.put, List.setIfInBounds_toArray, List.set_cons_zero, List.set_cons_succ]
  refine wpAnyH_take (i := 4) (oi := { dst := some 157, op := Op.fieldAddr 32 (Operand.tmp 156) 2, type := 0, pos := "outright.go:118", after := #[{ on := 3, ground := Ground.data }, { on := 7, ground := Ground.gcOnly Departure.lateStores }], guard := none }) (v := .pointer (some ⟨gb, 2, none⟩)) rfl (by kernel_rfl) (by kernel_rfl) (by kernel_rfl) (fun _ _ _ h => h) (Or.inl ⟨by rfl, by intro w hS; go_simp⟩) hHeld ?_
  try simp only [Act.put, List.setIfInBounds_toArray, List.set_cons_zero, List.set_cons_succ]
  refine wpAnyH_take (i := 5) (oi := { dst := some 158, op := Op.load 3 (Operand.tmp 157), type := 3, pos := "outright.go:118", after := #[{ on := 4, ground := Ground.data }, { on := 7, ground := Ground.gcOnly Departure.lateStores }], guard := none }) (v := .int .i64 B.mrk) rfl (by kernel_rfl) (by kernel_rfl) (by kernel_rfl) (fun _ _ _ h => h) (Or.inl ⟨by rfl, by intro w hS; have hc := hS.1; go_simp⟩) hHeld ?_
  try simp only [Act.put, List.setIfInBounds_toArray, List.set_cons_zero, List.set_cons_succ]
  refine wpAnyH_ready (rs := [1]) (by kernel_rfl) (by simp) ?_
  refine (AllReadyH.cons (o := { dst := some 154, op := Op.call { callee := Callee.value (Operand.func 7), args := #[Operand.tmp 153], argTypes := #[25] }, type := 3, pos := "outright.go:118", after := #[{ on := 0, ground := Ground.data }], guard := none }) rfl (fun K hK => ?_) AllReadyH.nil)
  go_simp
  go_at_call 7
  refine (FNext_any _ g p s s.ma ep hHeld.2).mono ?_
  rintro e w4 ⟨rfl, rfl⟩
  go_wp2_with fail
  refine hK.out _ _ (hHeld) (fun hHeld2 => ?_)
  clear hK K hHeld
  have hHeld := hHeld2
  clear hHeld2
  try simp only [Act.put, List.setIfInBounds_toArray, List.set_cons_zero, List.set_cons_succ]
  refine wpAnyH_take (i := 6) (oi := { dst := some 159, op := Op.binOp BinOp.eql 3 (Operand.tmp 154) (Operand.tmp 158) 3, type := 4, pos := "outright.go:118", after := #[{ on := 1, ground := Ground.data }, { on := 5, ground := Ground.data }, { on := 7, ground := Ground.gcOnly Departure.lateStores }], guard := none }) (v := .bool true) rfl (by kernel_rfl) (by kernel_rfl) (by kernel_rfl) (fun _ _ _ h => h) (Or.inl ⟨by rfl, by intro w hS; (have he2 := HMK.out; go_simp)⟩) hHeld ?_
  try simp only [Act.put, List.setIfInBounds_toArray, List.set_cons_zero, List.set_cons_succ]
  refine wpAnyH_take (i := 7) (oi := { dst := some 8, op := Op.assign (Operand.const (Value.int IntKind.i64 0)), type := 46, pos := "outright.go:118", after := #[{ on := 1, ground := Ground.chain }, { on := 0, ground := Ground.textOnly Departure.lateStores }, { on := 1, ground := Ground.textOnly Departure.lateStoresUnsure }, { on := 2, ground := Ground.textOnly Departure.lateStores }, { on := 3, ground := Ground.textOnly Departure.lateStores }, { on := 4, ground := Ground.textOnly Departure.lateStores }, { on := 5, ground := Ground.textOnly Departure.lateStores }, { on := 6, ground := Ground.textOnly Departure.lateStores }], guard := none }) (v := .int IntKind.i64 0) rfl (by kernel_rfl) (by kernel_rfl) (by kernel_rfl) (fun _ _ _ h => h) (Or.inl ⟨by rfl, by intro w hS; go_simp⟩) hHeld ?_
  try simp only [Act.put, List.setIfInBounds_toArray, List.set_cons_zero, List.set_cons_succ]
  refine wpAnyH_take (i := 8) (oi := { dst := some 9, op := Op.assign (Operand.tmp 159), type := 4, pos := "outright.go:118", after := #[{ on := 6, ground := Ground.data }, { on := 7, ground := Ground.chain }, { on := 0, ground := Ground.phase }, { on := 1, ground := Ground.phase }, { on := 2, ground := Ground.phase }, { on := 3, ground := Ground.phase }, { on := 4, ground := Ground.phase }, { on := 5, ground := Ground.phase }, { on := 6, ground := Ground.phase }, { on := 7, ground := Ground.phase }], guard := none }) (v := .bool true) rfl (by kernel_rfl) (by kernel_rfl) (by kernel_rfl) (fun _ _ _ h => h) (Or.inl ⟨by rfl, by intro w hS; go_simp⟩) hHeld ?_
  try simp only [Act.put, List.setIfInBounds_toArray, List.set_cons_zero, List.set_cons_succ]
  refine wpAnyH_done (by kernel_rfl) ?_ _
  refine NoPanic.normal ?_
  go_wp2
  go_ret2
  obtain ⟨m, hm1, hm2⟩ := HLV.out.forget
  refine ⟨0, rfl, D, s, m, B, F, G, HD2.out.drew, by have := HK2.out.drew; rw [hm1] at this; exact this, HBA2.out.of_heap (Nat.le_refl _) (fun k hk => rfl), HAP.out, ((((Fr.of_below (F := g :: F) HB0.out)).trans HF2.out (Gr.refl _ _))).drew.ing, Gr.refl _ _, Gr.refl _ _, Kp.same rfl, fun q => ⟨rfl, q⟩, Or.inl ⟨rfl, hm2⟩⟩
end Go.Proofs.Ytjlakgojbfglhaa
