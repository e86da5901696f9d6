import Derived.Test.YtcifbnldohmbnabOb
import Derived.Test.YtcifbnldohmbnabRa3
namespace Go.Proofs.Ytcifbnldohmbnab
set_option linter.unusedVariables false
set_option linter.unusedSimpArgs false
open Go.RowKit
attribute [local go_sem ↓] Go.wp_at_zero Go.wp_at_succ

def bitV (k : List Int) (n : Int) : Int := if n < 0 ∨ 256 ≤ n then 0 else bitK k n.toNat
theorem Bit_all (w : World) (k : List Int) (hk : k.length = 32) (hb : Byts k) (n : Int) :
    Calls Try.prog 14 #[.agg (ints .u8 k).toArray, .int .i64 n] w fun e w' => e = .returned (.int .i64 (bitV k n)) ∧ Below w.heap.size w w' := by
  unfold bitV
  by_cases h : n < 0 ∨ 256 ≤ n
  · rw [if_pos h]; exact Bit_out w k hk n h
  · rw [if_neg h]
    obtain ⟨i, rfl⟩ := Int.eq_ofNat_of_zero_le (show 0 ≤ n by omega)
    exact Bit_in w k hk hb i (by omega)
theorem rBit_all (w : World) (k : List Int) (hk : k.length = 32) (hb : Byts k) (n : Int) :
    Calls Try.prog 15 #[.agg (ints .u8 k).toArray, .int .i64 n] w fun e w' => e = .returned (.int .i64 (bitV k n)) ∧ Below w.heap.size w w' := by
  unfold bitV
  by_cases h : n < 0 ∨ 256 ≤ n
  · rw [if_pos h]; exact rBit_out w k hk n h
  · rw [if_neg h]
    obtain ⟨i, rfl⟩ := Int.eq_ofNat_of_zero_le (show 0 ≤ n by omega)
    exact rBit_in w k hk hb i (by omega)
theorem O_k {w W0 : World} {g t : Nat} {fr : Nat × Nat} {m : MO} {p : BOp} (h : w.heap[g]? = some (.cells (encO m).toArray t fr)) (hm : SaysO W0 m p) : w.cell? ⟨g, 0, none⟩ = some (.int .i64 p.kind) := by
  rw [cell_of_row _ _ _ _ _ _ h, ← hm.k]; simp [encO]
theorem O_n {w W0 : World} {g t : Nat} {fr : Nat × Nat} {m : MO} {p : BOp} (h : w.heap[g]? = some (.cells (encO m).toArray t fr)) (hm : SaysO W0 m p) : w.cell? ⟨g, 1, none⟩ = some (.int .i64 p.n) := by
  rw [cell_of_row _ _ _ _ _ _ h, ← hm.n]; simp [encO]
theorem O_a {w W0 : World} {g t : Nat} {fr : Nat × Nat} {m : MO} {p : BOp} (h : w.heap[g]? = some (.cells (encO m).toArray t fr)) (hm : SaysO W0 m p) : w.rangeAt g 2 (ints .u8 p.a) := fun j v hv => by
  have hj := (List.getElem?_eq_some_iff.1 hv).1
  rw [cell_of_row _ _ _ _ _ _ h, List.getElem?_toArray, ← hv, ← hm.a, show 2 + j = j + 1 + 1 by omega]
  simp only [encO, List.singleton_append, List.getElem?_cons_succ]
  rw [List.getElem?_append_left (by rw [hm.a]; exact hj)]
theorem O_b {w W0 : World} {g t : Nat} {fr : Nat × Nat} {m : MO} {p : BOp} (h : w.heap[g]? = some (.cells (encO m).toArray t fr)) (hm : SaysO W0 m p) : w.rangeAt g 34 (ints .u8 p.b) := fun j v hv => by
  have hj := (List.getElem?_eq_some_iff.1 hv).1
  have hl : (ints .u8 m.a).length = 32 := by rw [ints_len, hm.a, hm.la]
  rw [cell_of_row _ _ _ _ _ _ h, List.getElem?_toArray, ← hv, ← hm.b, show 34 + j = 32 + j + 1 + 1 by omega]
  simp only [encO, List.singleton_append, List.getElem?_cons_succ]
  rw [List.getElem?_append_right (by omega), hl, show 32 + j - 32 = j by omega, List.getElem?_append_left (by rw [hm.b]; exact hj)]
theorem opSize : (Try.prog.info? 30).map (·.size) = some 69 := by kernel_rfl
set_option maxRecDepth 100000 in
set_option maxHeartbeats 1000000 in
theorem keysPlay_any (w W0 : World) (m : MO) (p : BOp) (hm : SaysO W0 m p) :
    Calls Try.prog 11 #[.agg (encO m).toArray] w fun e w' => e = .returned (.bool true) ∧ Below w.heap.size w w' := by
  have hia : (Try.prog.info? 26).map (·.size) = some (ints .u8 p.a).length := by rw [keySize, ints_len, hm.la]
  have hib : (Try.prog.info? 26).map (·.size) = some (ints .u8 p.b).length := by rw [keySize, ints_len, hm.lb]
  have g1 := hnew w (.cells (encO m).toArray 30)
  have g2 : Below w.heap.size w (w.alloc (.cells (encO m).toArray 30)) := (Below.refl _ _).alloc (Nat.le_refl _) _
  have c0 := O_k g1 hm
  have keepS : ∀ {g : Nat} {u v : World}, (u.heap[g]? = some (.cells (encO m).toArray 30) ∧ Below w.heap.size w u) → Below u.heap.size u v → (v.heap[g]? = some (.cells (encO m).toArray 30) ∧ Below w.heap.size w v) := fun h hb' => ⟨hbel hb' h.1 (hlt_ h.1), h.2.trans (hb'.mono h.2.size)⟩
  go_enter Try.func11, Try.ntmps11
  by_cases k1 : p.kind = 1
  · have KA := hid (fun w => Bit_all w p.a hm.la hm.ya p.n)
    have KB := hid (fun w => rBit_all w p.a hm.la hm.ya p.n)
    generalize bitV p.a p.n = bt at *
    go_wp2
    generalize w.alloc (.cells (encO m).toArray 30) = w0 at *
    generalize hg : w.heap.size = g at *
    refine wp_region_noPanic ?_
    refine wp_region_held_drew (S := fun w' => w'.heap[g]? = some (.cells (encO m).toArray 30) ∧ Below g w w') (by kernel_rfl) ⟨g1, g2.drew⟩ (fun hHeld => ?_)
    refine wpAnyH_take (i := 0) (oi := { dst := some 7, op := Op.fieldAddr 30 (Operand.tmp 1) 2, type := 0, pos := "law.go:128", after := #[], guard := none }) (v := .pointer (some ⟨g, 2, none⟩)) rfl (by kernel_rfl) (by kernel_rfl) (by kernel_rfl) (fun _ _ _ h => h) (Or.inl ⟨by rfl, by intro w hS; go_simp⟩) hHeld ?_
    try simp only [Act.put, List.setIfInBounds_toArray, List.set_cons_zero, List.set_cons_succ]
    refine wpAnyH_take (i := 2) (oi := { dst := some 9, op := Op.fieldAddr 30 (Operand.tmp 1) 1, type := 0, pos := "law.go:128", after := #[], guard := none }) (v := .pointer (some ⟨g, 1, none⟩)) rfl (by kernel_rfl) (by kernel_rfl) (by kernel_rfl) (fun _ _ _ h => h) (Or.inl ⟨by rfl, by intro w hS; go_simp⟩) hHeld ?_
    try simp only [Act.put, List.setIfInBounds_toArray, List.set_cons_zero, List.set_cons_succ]
    refine wpAnyH_take (i := 5) (oi := { dst := some 12, op := Op.fieldAddr 30 (Operand.tmp 1) 2, type := 0, pos := "law.go:128", after := #[], guard := none }) (v := .pointer (some ⟨g, 2, none⟩)) rfl (by kernel_rfl) (by kernel_rfl) (by kernel_rfl) (fun _ _ _ h => h) (Or.inl ⟨by rfl, by intro w hS; go_simp⟩) hHeld ?_
    try simp only [Act.put, List.setIfInBounds_toArray, List.set_cons_zero, List.set_cons_succ]
    refine wpAnyH_take (i := 7) (oi := { dst := some 14, op := Op.fieldAddr 30 (Operand.tmp 1) 1, type := 0, pos := "law.go:128", after := #[], guard := none }) (v := .pointer (some ⟨g, 1, none⟩)) rfl (by kernel_rfl) (by kernel_rfl) (by kernel_rfl) (fun _ _ _ h => h) (Or.inl ⟨by rfl, by intro w hS; go_simp⟩) hHeld ?_
    try simp only [Act.put, List.setIfInBounds_toArray, List.set_cons_zero, List.set_cons_succ]
    refine wpAnyH_take (i := 1) (oi := { dst := some 8, op := Op.load 26 (Operand.tmp 7), type := 26, pos := "law.go:128", after := #[{ on := 0, ground := Ground.data }], guard := none }) (v := .agg (ints .u8 p.a).toArray) rfl (by kernel_rfl) (by kernel_rfl) (by kernel_rfl) (fun _ _ _ h => h) (yieldsIf_load_mid (by rfl) 26 _ rfl g (2) rfl (ints .u8 p.a) _ (fun w hS => O_a hS.1 hm) Try.underlying26 rfl hia) hHeld ?_
    try simp only [Act.put, List.setIfInBounds_toArray, List.set_cons_zero, List.set_cons_succ]
    refine wpAnyH_take (i := 3) (oi := { dst := some 10, op := Op.load 3 (Operand.tmp 9), type := 3, pos := "law.go:128", after := #[{ on := 2, ground := Ground.data }], guard := none }) (v := .int .i64 p.n) rfl (by kernel_rfl) (by kernel_rfl) (by kernel_rfl) (fun _ _ _ h => h) (Or.inl ⟨by rfl, by intro w hS; have hc := O_n hS.1 hm; go_simp⟩) hHeld ?_
    try simp only [Act.put, List.setIfInBounds_toArray, List.set_cons_zero, List.set_cons_succ]
    refine wpAnyH_take (i := 6) (oi := { dst := some 13, op := Op.load 26 (Operand.tmp 12), type := 26, pos := "law.go:128", after := #[{ on := 5, ground := Ground.data }], guard := none }) (v := .agg (ints .u8 p.a).toArray) rfl (by kernel_rfl) (by kernel_rfl) (by kernel_rfl) (fun _ _ _ h => h) (yieldsIf_load_mid (by rfl) 26 _ rfl g (2) rfl (ints .u8 p.a) _ (fun w hS => O_a hS.1 hm) Try.underlying26 rfl hia) hHeld ?_
    try simp only [Act.put, List.setIfInBounds_toArray, List.set_cons_zero, List.set_cons_succ]
    refine wpAnyH_take (i := 8) (oi := { dst := some 15, op := Op.load 3 (Operand.tmp 14), type := 3, pos := "law.go:128", after := #[{ on := 7, ground := Ground.data }], guard := none }) (v := .int .i64 p.n) rfl (by kernel_rfl) (by kernel_rfl) (by kernel_rfl) (fun _ _ _ h => h) (Or.inl ⟨by rfl, by intro w hS; have hc := O_n hS.1 hm; go_simp⟩) hHeld ?_
    try simp only [Act.put, List.setIfInBounds_toArray, List.set_cons_zero, List.set_cons_succ]
    refine wpAnyH_ready (rs := [4]) (by kernel_rfl) (by simp) ?_
    refine (AllReadyH.cons (o := { dst := some 11, op := Op.call { callee := Callee.value (Operand.func 14), args := #[Operand.tmp 8, Operand.tmp 10], argTypes := #[26, 3] }, type := 3, pos := "law.go:128", after := #[{ on := 1, ground := Ground.data }, { on := 3, ground := Ground.data }], guard := none }) rfl (fun K hK => ?_) AllReadyH.nil)
    go_simp
    go_at_call 14
    refine (KA.out _).mono ?_
    rintro e w4 ⟨rfl, hb4⟩
    go_wp2_with fail
    refine hK.out _ _ (keepS hHeld hb4) (fun hHeld2 => ?_)
    clear hK K hHeld
    have hHeld := hHeld2
    clear hHeld2
    clear hb4
    try simp only [Act.put, List.setIfInBounds_toArray, List.set_cons_zero, List.set_cons_succ]
    refine wpAnyH_ready (rs := [9]) (by kernel_rfl) (by simp) ?_
    refine (AllReadyH.cons (o := { dst := some 16, op := Op.call { callee := Callee.value (Operand.func 15), args := #[Operand.tmp 13, Operand.tmp 15], argTypes := #[26, 3] }, type := 3, pos := "law.go:128", after := #[{ on := 6, ground := Ground.data }, { on := 8, ground := Ground.data }, { on := 4, ground := Ground.chain }], guard := none }) rfl (fun K hK => ?_) AllReadyH.nil)
    go_simp
    go_at_call 15
    refine (KB.out _).mono ?_
    rintro e w4 ⟨rfl, hb4⟩
    go_wp2_with fail
    refine hK.out _ _ (keepS hHeld hb4) (fun hHeld2 => ?_)
    clear hK K hHeld
    have hHeld := hHeld2
    clear hHeld2
    clear hb4
    try simp only [Act.put, List.setIfInBounds_toArray, List.set_cons_zero, List.set_cons_succ]
    refine wpAnyH_take (i := 10) (oi := { dst := some 17, op := Op.binOp BinOp.eql 3 (Operand.tmp 11) (Operand.tmp 16) 3, type := 4, pos := "law.go:128", after := #[{ on := 4, ground := Ground.data }, { on := 9, ground := Ground.data }], guard := none }) (v := .bool true) rfl (by kernel_rfl) (by kernel_rfl) (by kernel_rfl) (fun _ _ _ h => h) (Or.inl ⟨by rfl, by intro w hS; go_simp⟩) hHeld ?_
    try simp only [Act.put, List.setIfInBounds_toArray, List.set_cons_zero, List.set_cons_succ]
    refine wpAnyH_take (i := 11) (oi := { dst := some 2, op := Op.assign (Operand.tmp 17), type := 4, pos := "law.go:128", after := #[{ on := 10, ground := Ground.data }, { on := 9, ground := Ground.chain }, { on := 0, ground := Ground.phase }, { on := 1, ground := Ground.phase }, { on := 2, ground := Ground.phase }, { on := 3, ground := Ground.phase }, { on := 4, ground := Ground.phase }, { on := 5, ground := Ground.phase }, { on := 6, ground := Ground.phase }, { on := 7, ground := Ground.phase }, { on := 8, ground := Ground.phase }, { on := 9, ground := Ground.phase }, { on := 10, ground := Ground.phase }], guard := none }) (v := .bool true) rfl (by kernel_rfl) (by kernel_rfl) (by kernel_rfl) (fun _ _ _ h => h) (Or.inl ⟨by rfl, by intro w hS; go_simp⟩) hHeld ?_
    try simp only [Act.put, List.setIfInBounds_toArray, List.set_cons_zero, List.set_cons_succ]
    refine wpAnyH_done (by kernel_rfl) ?_ _
    refine NoPanic.normal ?_
    have hf := hHeld.2
    clear hHeld keepS
    go_wp2
    go_ret
    exact ⟨rfl, by rw [hg]; exact hf⟩
  · by_cases k2 : p.kind = 2
    · go_wp2
      generalize w.alloc (.cells (encO m).toArray 30) = w0 at *
      generalize hg : w.heap.size = g at *
      refine wp_region_noPanic ?_
      refine wp_region_held_drew (S := fun w' => w'.heap[g]? = some (.cells (encO m).toArray 30) ∧ Below g w w') (by kernel_rfl) ⟨g1, g2.drew⟩ (fun hHeld => ?_)
      refine wpAnyH_take (i := 0) (oi := { dst := some 20, op := Op.fieldAddr 30 (Operand.tmp 1) 2, type := 0, pos := "law.go:130", after := #[], guard := none }) (v := .pointer (some ⟨g, 2, none⟩)) rfl (by kernel_rfl) (by kernel_rfl) (by kernel_rfl) (fun _ _ _ h => h) (Or.inl ⟨by rfl, by intro w hS; go_simp⟩) hHeld ?_
      try simp only [Act.put, List.setIfInBounds_toArray, List.set_cons_zero, List.set_cons_succ]
      refine wpAnyH_take (i := 2) (oi := { dst := some 22, op := Op.fieldAddr 30 (Operand.tmp 1) 3, type := 0, pos := "law.go:130", after := #[], guard := none }) (v := .pointer (some ⟨g, 34, none⟩)) rfl (by kernel_rfl) (by kernel_rfl) (by kernel_rfl) (fun _ _ _ h => h) (Or.inl ⟨by rfl, by intro w hS; go_simp⟩) hHeld ?_
      try simp only [Act.put, List.setIfInBounds_toArray, List.set_cons_zero, List.set_cons_succ]
      refine wpAnyH_take (i := 5) (oi := { dst := some 25, op := Op.fieldAddr 30 (Operand.tmp 1) 2, type := 0, pos := "law.go:130", after := #[], guard := none }) (v := .pointer (some ⟨g, 2, none⟩)) rfl (by kernel_rfl) (by kernel_rfl) (by kernel_rfl) (fun _ _ _ h => h) (Or.inl ⟨by rfl, by intro w hS; go_simp⟩) hHeld ?_
      try simp only [Act.put, List.setIfInBounds_toArray, List.set_cons_zero, List.set_cons_succ]
      refine wpAnyH_take (i := 7) (oi := { dst := some 27, op := Op.fieldAddr 30 (Operand.tmp 1) 3, type := 0, pos := "law.go:130", after := #[], guard := none }) (v := .pointer (some ⟨g, 34, none⟩)) rfl (by kernel_rfl) (by kernel_rfl) (by kernel_rfl) (fun _ _ _ h => h) (Or.inl ⟨by rfl, by intro w hS; go_simp⟩) hHeld ?_
      try simp only [Act.put, List.setIfInBounds_toArray, List.set_cons_zero, List.set_cons_succ]
      refine wpAnyH_take (i := 1) (oi := { dst := some 21, op := Op.load 26 (Operand.tmp 20), type := 26, pos := "law.go:130", after := #[{ on := 0, ground := Ground.data }], guard := none }) (v := .agg (ints .u8 p.a).toArray) rfl (by kernel_rfl) (by kernel_rfl) (by kernel_rfl) (fun _ _ _ h => h) (yieldsIf_load_mid (by rfl) 26 _ rfl g (2) rfl (ints .u8 p.a) _ (fun w hS => O_a hS.1 hm) Try.underlying26 rfl hia) hHeld ?_
      try simp only [Act.put, List.setIfInBounds_toArray, List.set_cons_zero, List.set_cons_succ]
      refine wpAnyH_take (i := 3) (oi := { dst := some 23, op := Op.load 26 (Operand.tmp 22), type := 26, pos := "law.go:130", after := #[{ on := 2, ground := Ground.data }], guard := none }) (v := .agg (ints .u8 p.b).toArray) rfl (by kernel_rfl) (by kernel_rfl) (by kernel_rfl) (fun _ _ _ h => h) (yieldsIf_load_mid (by rfl) 26 _ rfl g (34) rfl (ints .u8 p.b) _ (fun w hS => O_b hS.1 hm) Try.underlying26 rfl hib) hHeld ?_
      try simp only [Act.put, List.setIfInBounds_toArray, List.set_cons_zero, List.set_cons_succ]
      refine wpAnyH_take (i := 6) (oi := { dst := some 26, op := Op.load 26 (Operand.tmp 25), type := 26, pos := "law.go:130", after := #[{ on := 5, ground := Ground.data }], guard := none }) (v := .agg (ints .u8 p.a).toArray) rfl (by kernel_rfl) (by kernel_rfl) (by kernel_rfl) (fun _ _ _ h => h) (yieldsIf_load_mid (by rfl) 26 _ rfl g (2) rfl (ints .u8 p.a) _ (fun w hS => O_a hS.1 hm) Try.underlying26 rfl hia) hHeld ?_
      try simp only [Act.put, List.setIfInBounds_toArray, List.set_cons_zero, List.set_cons_succ]
      refine wpAnyH_take (i := 8) (oi := { dst := some 28, op := Op.load 26 (Operand.tmp 27), type := 26, pos := "law.go:130", after := #[{ on := 7, ground := Ground.data }], guard := none }) (v := .agg (ints .u8 p.b).toArray) rfl (by kernel_rfl) (by kernel_rfl) (by kernel_rfl) (fun _ _ _ h => h) (yieldsIf_load_mid (by rfl) 26 _ rfl g (34) rfl (ints .u8 p.b) _ (fun w hS => O_b hS.1 hm) Try.underlying26 rfl hib) hHeld ?_
      try simp only [Act.put, List.setIfInBounds_toArray, List.set_cons_zero, List.set_cons_succ]
      refine wpAnyH_ready (rs := [4]) (by kernel_rfl) (by simp) ?_
      refine (AllReadyH.cons (o := { dst := some 24, op := Op.call { callee := Callee.value (Operand.func 16), args := #[Operand.tmp 21, Operand.tmp 23], argTypes := #[26, 26] }, type := 3, pos := "law.go:130", after := #[{ on := 1, ground := Ground.data }, { on := 3, ground := Ground.data }], guard := none }) rfl (fun K hK => ?_) AllReadyH.nil)
      go_simp
      go_at_call 16
      refine (Common_any _ p.a p.b hm.ya hm.yb hm.la hm.lb).mono ?_
      rintro e w4 ⟨c, rfl, hcom, hb4⟩
      go_wp2_with fail
      refine hK.out _ _ (keepS hHeld hb4) (fun hHeld2 => ?_)
      clear hK K hHeld
      have hHeld := hHeld2
      clear hHeld2
      clear hb4
      try simp only [Act.put, List.setIfInBounds_toArray, List.set_cons_zero, List.set_cons_succ]
      refine wpAnyH_ready (rs := [9]) (by kernel_rfl) (by simp) ?_
      refine (AllReadyH.cons (o := { dst := some 29, op := Op.call { callee := Callee.value (Operand.func 17), args := #[Operand.tmp 26, Operand.tmp 28], argTypes := #[26, 26] }, type := 3, pos := "law.go:130", after := #[{ on := 6, ground := Ground.data }, { on := 8, ground := Ground.data }, { on := 4, ground := Ground.chain }], guard := none }) rfl (fun K hK => ?_) AllReadyH.nil)
      go_simp
      go_at_call 17
      refine (rCommon_any _ p.a p.b hm.ya hm.yb hm.la hm.lb c hcom).mono ?_
      rintro e w4 ⟨rfl, hb4⟩
      go_wp2_with fail
      refine hK.out _ _ (keepS hHeld hb4) (fun hHeld2 => ?_)
      clear hK K hHeld
      have hHeld := hHeld2
      clear hHeld2
      clear hb4
      try simp only [Act.put, List.setIfInBounds_toArray, List.set_cons_zero, List.set_cons_succ]
      refine wpAnyH_take (i := 10) (oi := { dst := some 30, op := Op.binOp BinOp.eql 3 (Operand.tmp 24) (Operand.tmp 29) 3, type := 4, pos := "law.go:130", after := #[{ on := 4, ground := Ground.data }, { on := 9, ground := Ground.data }], guard := none }) (v := .bool true) rfl (by kernel_rfl) (by kernel_rfl) (by kernel_rfl) (fun _ _ _ h => h) (Or.inl ⟨by rfl, by intro w hS; go_simp⟩) hHeld ?_
      try simp only [Act.put, List.setIfInBounds_toArray, List.set_cons_zero, List.set_cons_succ]
      refine wpAnyH_take (i := 11) (oi := { dst := some 2, op := Op.assign (Operand.tmp 30), type := 4, pos := "law.go:130", after := #[{ on := 10, ground := Ground.data }, { on := 9, ground := Ground.chain }, { on := 0, ground := Ground.phase }, { on := 1, ground := Ground.phase }, { on := 2, ground := Ground.phase }, { on := 3, ground := Ground.phase }, { on := 4, ground := Ground.phase }, { on := 5, ground := Ground.phase }, { on := 6, ground := Ground.phase }, { on := 7, ground := Ground.phase }, { on := 8, ground := Ground.phase }, { on := 9, ground := Ground.phase }, { on := 10, ground := Ground.phase }], guard := none }) (v := .bool true) rfl (by kernel_rfl) (by kernel_rfl) (by kernel_rfl) (fun _ _ _ h => h) (Or.inl ⟨by rfl, by intro w hS; go_simp⟩) hHeld ?_
      try simp only [Act.put, List.setIfInBounds_toArray, List.set_cons_zero, List.set_cons_succ]
      refine wpAnyH_done (by kernel_rfl) ?_ _
      refine NoPanic.normal ?_
      have hf := hHeld.2
      clear hHeld keepS
      go_wp2
      go_ret
      exact ⟨rfl, by rw [hg]; exact hf⟩
    · have KA := hid (fun w => Compare_any w p.a p.b hm.ya hm.yb hm.la hm.lb)
      have KB := hid (fun w => rCompare_any w p.a p.b hm.ya hm.yb hm.la hm.lb)
      generalize cmpK p.a p.b = bt at *
      go_wp2
      generalize w.alloc (.cells (encO m).toArray 30) = w0 at *
      generalize hg : w.heap.size = g at *
      refine wp_region_noPanic ?_
      refine wp_region_held_drew (S := fun w' => w'.heap[g]? = some (.cells (encO m).toArray 30) ∧ Below g w w') (by kernel_rfl) ⟨g1, g2.drew⟩ (fun hHeld => ?_)
      refine wpAnyH_take (i := 0) (oi := { dst := some 31, op := Op.fieldAddr 30 (Operand.tmp 1) 2, type := 0, pos := "law.go:132", after := #[], guard := none }) (v := .pointer (some ⟨g, 2, none⟩)) rfl (by kernel_rfl) (by kernel_rfl) (by kernel_rfl) (fun _ _ _ h => h) (Or.inl ⟨by rfl, by intro w hS; go_simp⟩) hHeld ?_
      try simp only [Act.put, List.setIfInBounds_toArray, List.set_cons_zero, List.set_cons_succ]
      refine wpAnyH_take (i := 2) (oi := { dst := some 33, op := Op.fieldAddr 30 (Operand.tmp 1) 3, type := 0, pos := "law.go:132", after := #[], guard := none }) (v := .pointer (some ⟨g, 34, none⟩)) rfl (by kernel_rfl) (by kernel_rfl) (by kernel_rfl) (fun _ _ _ h => h) (Or.inl ⟨by rfl, by intro w hS; go_simp⟩) hHeld ?_
      try simp only [Act.put, List.setIfInBounds_toArray, List.set_cons_zero, List.set_cons_succ]
      refine wpAnyH_take (i := 5) (oi := { dst := some 36, op := Op.fieldAddr 30 (Operand.tmp 1) 2, type := 0, pos := "law.go:132", after := #[], guard := none }) (v := .pointer (some ⟨g, 2, none⟩)) rfl (by kernel_rfl) (by kernel_rfl) (by kernel_rfl) (fun _ _ _ h => h) (Or.inl ⟨by rfl, by intro w hS; go_simp⟩) hHeld ?_
      try simp only [Act.put, List.setIfInBounds_toArray, List.set_cons_zero, List.set_cons_succ]
      refine wpAnyH_take (i := 7) (oi := { dst := some 38, op := Op.fieldAddr 30 (Operand.tmp 1) 3, type := 0, pos := "law.go:132", after := #[], guard := none }) (v := .pointer (some ⟨g, 34, none⟩)) rfl (by kernel_rfl) (by kernel_rfl) (by kernel_rfl) (fun _ _ _ h => h) (Or.inl ⟨by rfl, by intro w hS; go_simp⟩) hHeld ?_
      try simp only [Act.put, List.setIfInBounds_toArray, List.set_cons_zero, List.set_cons_succ]
      refine wpAnyH_take (i := 1) (oi := { dst := some 32, op := Op.load 26 (Operand.tmp 31), type := 26, pos := "law.go:132", after := #[{ on := 0, ground := Ground.data }], guard := none }) (v := .agg (ints .u8 p.a).toArray) rfl (by kernel_rfl) (by kernel_rfl) (by kernel_rfl) (fun _ _ _ h => h) (yieldsIf_load_mid (by rfl) 26 _ rfl g (2) rfl (ints .u8 p.a) _ (fun w hS => O_a hS.1 hm) Try.underlying26 rfl hia) hHeld ?_
      try simp only [Act.put, List.setIfInBounds_toArray, List.set_cons_zero, List.set_cons_succ]
      refine wpAnyH_take (i := 3) (oi := { dst := some 34, op := Op.load 26 (Operand.tmp 33), type := 26, pos := "law.go:132", after := #[{ on := 2, ground := Ground.data }], guard := none }) (v := .agg (ints .u8 p.b).toArray) rfl (by kernel_rfl) (by kernel_rfl) (by kernel_rfl) (fun _ _ _ h => h) (yieldsIf_load_mid (by rfl) 26 _ rfl g (34) rfl (ints .u8 p.b) _ (fun w hS => O_b hS.1 hm) Try.underlying26 rfl hib) hHeld ?_
      try simp only [Act.put, List.setIfInBounds_toArray, List.set_cons_zero, List.set_cons_succ]
      refine wpAnyH_take (i := 6) (oi := { dst := some 37, op := Op.load 26 (Operand.tmp 36), type := 26, pos := "law.go:132", after := #[{ on := 5, ground := Ground.data }], guard := none }) (v := .agg (ints .u8 p.a).toArray) rfl (by kernel_rfl) (by kernel_rfl) (by kernel_rfl) (fun _ _ _ h => h) (yieldsIf_load_mid (by rfl) 26 _ rfl g (2) rfl (ints .u8 p.a) _ (fun w hS => O_a hS.1 hm) Try.underlying26 rfl hia) hHeld ?_
      try simp only [Act.put, List.setIfInBounds_toArray, List.set_cons_zero, List.set_cons_succ]
      refine wpAnyH_take (i := 8) (oi := { dst := some 39, op := Op.load 26 (Operand.tmp 38), type := 26, pos := "law.go:132", after := #[{ on := 7, ground := Ground.data }], guard := none }) (v := .agg (ints .u8 p.b).toArray) rfl (by kernel_rfl) (by kernel_rfl) (by kernel_rfl) (fun _ _ _ h => h) (yieldsIf_load_mid (by rfl) 26 _ rfl g (34) rfl (ints .u8 p.b) _ (fun w hS => O_b hS.1 hm) Try.underlying26 rfl hib) hHeld ?_
      try simp only [Act.put, List.setIfInBounds_toArray, List.set_cons_zero, List.set_cons_succ]
      refine wpAnyH_ready (rs := [4]) (by kernel_rfl) (by simp) ?_
      refine (AllReadyH.cons (o := { dst := some 35, op := Op.call { callee := Callee.value (Operand.func 18), args := #[Operand.tmp 32, Operand.tmp 34], argTypes := #[26, 26] }, type := 3, pos := "law.go:132", after := #[{ on := 1, ground := Ground.data }, { on := 3, ground := Ground.data }], guard := none }) rfl (fun K hK => ?_) AllReadyH.nil)
      go_simp
      go_at_call 18
      refine (KA.out _).mono ?_
      rintro e w4 ⟨rfl, hb4⟩
      go_wp2_with fail
      refine hK.out _ _ (keepS hHeld hb4) (fun hHeld2 => ?_)
      clear hK K hHeld
      have hHeld := hHeld2
      clear hHeld2
      clear hb4
      try simp only [Act.put, List.setIfInBounds_toArray, List.set_cons_zero, List.set_cons_succ]
      refine wpAnyH_ready (rs := [9]) (by kernel_rfl) (by simp) ?_
      refine (AllReadyH.cons (o := { dst := some 40, op := Op.call { callee := Callee.value (Operand.func 19), args := #[Operand.tmp 37, Operand.tmp 39], argTypes := #[26, 26] }, type := 3, pos := "law.go:132", after := #[{ on := 6, ground := Ground.data }, { on := 8, ground := Ground.data }, { on := 4, ground := Ground.chain }], guard := none }) rfl (fun K hK => ?_) AllReadyH.nil)
      go_simp
      go_at_call 19
      refine (KB.out _).mono ?_
      rintro e w4 ⟨rfl, hb4⟩
      go_wp2_with fail
      refine hK.out _ _ (keepS hHeld hb4) (fun hHeld2 => ?_)
      clear hK K hHeld
      have hHeld := hHeld2
      clear hHeld2
      clear hb4
      try simp only [Act.put, List.setIfInBounds_toArray, List.set_cons_zero, List.set_cons_succ]
      refine wpAnyH_take (i := 10) (oi := { dst := some 41, op := Op.binOp BinOp.eql 3 (Operand.tmp 35) (Operand.tmp 40) 3, type := 4, pos := "law.go:132", after := #[{ on := 4, ground := Ground.data }, { on := 9, ground := Ground.data }], guard := none }) (v := .bool true) rfl (by kernel_rfl) (by kernel_rfl) (by kernel_rfl) (fun _ _ _ h => h) (Or.inl ⟨by rfl, by intro w hS; go_simp⟩) hHeld ?_
      try simp only [Act.put, List.setIfInBounds_toArray, List.set_cons_zero, List.set_cons_succ]
      refine wpAnyH_take (i := 11) (oi := { dst := some 2, op := Op.assign (Operand.tmp 41), type := 4, pos := "law.go:132", after := #[{ on := 10, ground := Ground.data }, { on := 9, ground := Ground.chain }, { on := 0, ground := Ground.phase }, { on := 1, ground := Ground.phase }, { on := 2, ground := Ground.phase }, { on := 3, ground := Ground.phase }, { on := 4, ground := Ground.phase }, { on := 5, ground := Ground.phase }, { on := 6, ground := Ground.phase }, { on := 7, ground := Ground.phase }, { on := 8, ground := Ground.phase }, { on := 9, ground := Ground.phase }, { on := 10, ground := Ground.phase }], guard := none }) (v := .bool true) rfl (by kernel_rfl) (by kernel_rfl) (by kernel_rfl) (fun _ _ _ h => h) (Or.inl ⟨by rfl, by intro w hS; go_simp⟩) hHeld ?_
      try simp only [Act.put, List.setIfInBounds_toArray, List.set_cons_zero, List.set_cons_succ]
      refine wpAnyH_done (by kernel_rfl) ?_ _
      refine NoPanic.normal ?_
      have hf := hHeld.2
      clear hHeld keepS
      go_wp2
      go_ret
      exact ⟨rfl, by rw [hg]; exact hf⟩
set_option maxRecDepth 100000 in
set_option maxHeartbeats 1000000 in
/-- A step of a kind from 1 to 3. -/
theorem plays_keys (w W0 : World) (m : MO) (p : BOp) (hm : SaysO W0 m p) (h1 : 1 ≤ p.kind) (h3 : p.kind ≤ 3) :
    Calls Try.prog 10 #[.agg (encO m).toArray] w fun e w' => e = .returned (.bool true) ∧ Below w.heap.size w w' := by
  have g1 := hnew w (.cells (encO m).toArray 30)
  have g2 : Below w.heap.size w (w.alloc (.cells (encO m).toArray 30)) := (Below.refl _ _).alloc (Nat.le_refl _) _
  have c0 := O_k g1 hm
  have SO := hid (show (encO m).toArray.size = 69 by simpa using hm.len)
  have KC := hid (fun w => keysPlay_any w W0 m p hm)
  have hk : p.kind = 1 ∨ p.kind = 2 ∨ p.kind = 3 := by omega
  generalize p.kind = kd at *
  go_enter Try.func10, Try.ntmps10
  clear h1 h3
  rcases hk with rfl | rfl | rfl
  all_goals
    go_wp2_with (first | refine wpList_load_row rfl 30 _ rfl _ rfl 30 _ _ _ (by exact g1) Try.underlying30 rfl (by rw [opSize, SO.out]) ?_)
    refine (KC.out _).mono ?_
    rintro e w1 ⟨rfl, hB1⟩
    go_wp2
    go_ret
    exact ⟨rfl, g2.trans (hB1.mono (by simp))⟩
set_option maxRecDepth 100000 in
set_option maxHeartbeats 1000000 in
theorem upTo_any (w : World) (ps : List BOp) (sp : Option Addr) (cap b o : Nat) (ms : List MO) (hS : Scr w sp ps b o ms) (hlen : ps.length ≤ 140737488351232) (lo hi : Int)
    (hp : ∀ i, i < ps.length → lo ≤ (ps.getD i dB).kind → (ps.getD i dB).kind ≤ hi → ∀ w', Below w.heap.size w w' → Calls Try.prog 10 #[.agg (encO (ms.getD i dO)).toArray] w' fun e w'' => e = .returned (.bool true) ∧ Below w'.heap.size w' w'') :
    Calls Try.prog 9 #[.slice sp ps.length cap, .int .i64 lo, .int .i64 hi] w fun e w' => e = .returned (.bool true) ∧ Below w.heap.size w w' := by
  have i0 : (ps.length : Int) ≤ 140737488351232 := by omega
  go_enter Try.func9, Try.ntmps9
  go_wp2
  go_loopw [7] (fun i wr => ∃ n : Nat, n ≤ ps.length ∧ i = .int .i64 n ∧ Below w.heap.size w wr) (fun i _ => ps.length - (intOf i).toNat)
  case atStart => exact ⟨0, by omega, rfl, Below.refl _ _⟩
  case round =>
    obtain ⟨n, hn, rfl, hB⟩ := hrel
    by_cases hlt : n < ps.length
    · have i1 : (n : Int) < (ps.length : Int) := by omega
      obtain ⟨hb, rfl⟩ := hS.pos (by omega)
      have rg := rng_below (hS.rd n hlt) hB hb
      have hm := hS.says n hlt
      have hq := hid (hp n hlt)
      have hl69 := hm.len
      have SO := hid (show (encO (ms.getD n dO)).toArray.size = 69 by simpa using hm.len)
      have oo := hm.one
      have g1 := hnew wr (.cells (encO (ms.getD n dO)).toArray 30)
      have g2 : Below w.heap.size w (wr.alloc (.cells (encO (ms.getD n dO)).toArray 30)) := hB.alloc hB.size _
      have c0 := O_k g1 hm
      have hio : (Try.prog.info? 30).map (·.size) = some (encO (ms.getD n dO)).length := by rw [opSize, hl69]
      clear hm hl69
      generalize ms.getD n dO = m at *
      generalize (ps.getD n dB).kind = kd at *
      by_cases h1 : lo ≤ kd
      · by_cases h2 : kd ≤ hi
        · have KC := hid (hq.out h1 h2 _ g2)
          clear hq
          go_wp2_with (first
            | refine wpList_load_mid rfl 30 _ rfl b (o + n * 69) rfl (encO m) _ rg Try.underlying30 rfl hio ?_
            | (refine wpList_store_row rfl 30 _ _ rfl _ _ rfl rfl 30 _ (by exact hnew _ _) (by rw [opSize, SO.out]) (by rw [SO.out]; rfl) (all_oneCell_toArray oo) ?_; rw [setRow_alloc])
            | refine wpList_load_row rfl 30 _ rfl _ rfl 30 _ _ _ (by exact g1) Try.underlying30 rfl (by rw [opSize, SO.out]) ?_)
          refine KC.out.mono ?_
          rintro e w1 ⟨rfl, hB1⟩
          have hB2 : Below w.heap.size w w1 := g2.trans (hB1.mono g2.size)
          go_wp2
          all_goals exact ⟨⟨n + 1, by omega, by go_num, hB2⟩, by simp [intOf]; omega⟩
        · have h2' : decide (kd ≤ hi) = false := by rw [decide_eq_false_iff_not]; exact h2
          clear hq
          go_wp2_with (first
            | refine wpList_load_mid rfl 30 _ rfl b (o + n * 69) rfl (encO m) _ rg Try.underlying30 rfl hio ?_
            | (refine wpList_store_row rfl 30 _ _ rfl _ _ rfl rfl 30 _ (by exact hnew _ _) (by rw [opSize, SO.out]) (by rw [SO.out]; rfl) (all_oneCell_toArray oo) ?_; rw [setRow_alloc]))
          all_goals exact ⟨⟨n + 1, by omega, by go_num, g2⟩, by simp [intOf]; omega⟩
      · have h1' : decide (lo ≤ kd) = false := by rw [decide_eq_false_iff_not]; exact h1
        clear hq
        go_wp2_with (first
          | refine wpList_load_mid rfl 30 _ rfl b (o + n * 69) rfl (encO m) _ rg Try.underlying30 rfl hio ?_
          | (refine wpList_store_row rfl 30 _ _ rfl _ _ rfl rfl 30 _ (by exact hnew _ _) (by rw [opSize, SO.out]) (by rw [SO.out]; rfl) (all_oneCell_toArray oo) ?_; rw [setRow_alloc]))
        all_goals exact ⟨⟨n + 1, by omega, by go_num, g2⟩, by simp [intOf]; omega⟩
    · obtain rfl : n = ps.length := by omega
      clear hlt
      go_wp2
      go_ret
      exact ⟨rfl, hB⟩
set_option maxRecDepth 100000 in
theorem keys_walk (w : World) (ps : List BOp) (sp : Option Addr) (cap b o : Nat) (ms : List MO) (hS : Scr w sp ps b o ms) (hlen : ps.length ≤ 140737488351232) :
    Calls Try.prog 3 #[.slice sp ps.length cap] w fun e w' => e = .returned (.bool true) ∧ Below w.heap.size w w' := by
  have KC := hid (upTo_any w ps sp cap b o ms hS hlen 1 3 fun i hi h1 h3 w' _ => plays_keys w' w _ _ (hS.says i hi) h1 h3)
  go_enter Try.func3, Try.ntmps3
  go_wp2_with fail
  refine KC.out.mono ?_
  rintro e w1 ⟨rfl, hB1⟩
  go_wp2
  go_ret
  exact ⟨rfl, hB1⟩
end Go.Proofs.Ytcifbnldohmbnab
