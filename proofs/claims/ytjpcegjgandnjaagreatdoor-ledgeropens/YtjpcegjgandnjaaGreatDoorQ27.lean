import Derived.Test.YtjpcegjgandnjaaGreatDoorQ25
import Derived.Test.YtjpcegjgandnjaaGreatDoorQ26
namespace Go.Proofs.YtjpcegjgandnjaaGreatDoor
set_option linter.unusedVariables false
set_option linter.unusedSimpArgs false
open Go.RowKit Go.Extern.Stop Go.Stop Go.Extern
attribute [local go_sem ↓] Go.wp_at_zero Go.wp_at_succ

theorem TabP.later {n : Int} {w w' : World} (h : TabP n w) (hb : Below w.heap.size w w') : TabP n w' := h.imp id fun k w1 h1 => k w1 (hb.trans (h1.mono hb.size))
def at4 : ByteArray := ⟨#[32, 97, 116, 32]⟩
def colon : ByteArray := ⟨#[58, 32]⟩
/-- What Where tells. -/
def whereB (c : ByteArray) (n : Int) : ByteArray := if n = -1 then c else (c ++ at4) ++ ⟨(Lib.itoa n).toArray⟩
theorem itoa_size (n : Int) (h0 : -9223372036854775808 ≤ n) (h1 : n ≤ 9223372036854775807) : (⟨(Lib.itoa n).toArray⟩ : ByteArray).size ≤ 21 := by
  have := Lib.itoa_length_le n h0 h1
  simpa [ByteArray.size] using this
theorem whereB_size (c : ByteArray) (n : Int) (h0 : -9223372036854775808 ≤ n) (h1 : n ≤ 9223372036854775807) : (whereB c n).size ≤ c.size + 25 := by
  unfold whereB
  split
  · omega
  · have := itoa_size n h0 h1
    rw [ByteArray.size_append, ByteArray.size_append, show at4.size = 4 from rfl]; omega
theorem strAdd (a b : ByteArray) (h : a.size + b.size ≤ 9223372036854775807) (w : World) : (Op.stringOp .add a b).run Tryz.prog w = .ok (.string (a ++ b)) w := run_string_add_sum w a b h
set_option maxRecDepth 100000 in
set_option maxHeartbeats 4000000 in
theorem dec_zero (w : World) : Calls Tryz.prog 44 #[.int .i64 0] w fun e w' => e = .returned (.string ⟨(Lib.itoa 0).toArray⟩) ∧ Below w.heap.size w w' := by
  have e : (⟨(Lib.itoa 0).toArray⟩ : ByteArray) = ⟨#[48]⟩ := by
    unfold Lib.itoa; rw [if_neg (by decide)]; rw [Lib.decDigits.eq_1, dif_pos (by decide)]; rfl
  rw [e]
  go_enter Tryz.func44, Tryz.ntmps44
  go_wp2
  go_ret
  exact ⟨rfl, Below.refl _ _⟩
theorem decimal_all (w : World) (n : Int) (h0 : -9223372036854775808 ≤ n) (h1 : n ≤ 9223372036854775807) :
    Calls Tryz.prog 44 #[.int .i64 n] w fun e w' => e = .returned (.string ⟨(Lib.itoa n).toArray⟩) ∧ Below w.heap.size w w' := by
  by_cases h : n = 0
  · subst h; exact dec_zero w
  · exact decimal_any w n h0 h1 h
set_option maxRecDepth 100000 in
set_option maxHeartbeats 4000000 in
theorem rwhere_any (w : World) (c : ByteArray) (n : Int) (h0 : -9223372036854775808 ≤ n) (h1 : n ≤ 9223372036854775807) (hc : c.size ≤ 140737488351232) :
    Calls Tryz.prog 21 #[.string c, .int .i64 n] w fun e w' => e = .returned (.string (whereB c n)) ∧ Below w.heap.size w w' := by
  by_cases h : n = -1
  · subst h
    rw [show whereB c (-1) = c from if_pos rfl]
    go_enter Tryz.func21, Tryz.ntmps21
    go_wp2
    go_ret
    exact ⟨rfl, Below.refl _ _⟩
  · rw [show whereB c n = (c ++ at4) ++ ⟨(Lib.itoa n).toArray⟩ from if_neg h]
    have hn : (n == -1) = false := by simpa using h
    have D := hid (decimal_all w n h0 h1)
    have hi := itoa_size n h0 h1
    have a1 := strAdd c at4 (by rw [show at4.size = 4 from rfl]; omega)
    have a2 := strAdd (c ++ at4) ⟨(Lib.itoa n).toArray⟩ (by rw [ByteArray.size_append, show at4.size = 4 from rfl]; omega)
    unfold at4 at *
    generalize c ++ (⟨#[32, 97, 116, 32]⟩ : ByteArray) = c2 at *
    generalize (⟨(Lib.itoa n).toArray⟩ : ByteArray) = d at *
    generalize c2 ++ d = c3 at *
    clear hi h
    go_enter Tryz.func21, Tryz.ntmps21
    go_wp2_with fail
    refine D.out.mono ?_
    rintro _ w1 ⟨rfl, hb⟩
    go_wp2
    go_ret
    exact ⟨rfl, hb⟩
set_option maxRecDepth 100000 in
set_option maxHeartbeats 4000000 in
theorem pwhere_any (w : World) (n : Int) (hT : TabP n w) (c : ByteArray) (h0 : -9223372036854775808 ≤ n) (h1 : n ≤ 9223372036854775807) (hc : c.size ≤ 140737488351232) :
    Calls Tryz.prog 230 #[.agg #[.string c, .int .i64 n]] w fun e w' => e = .returned (.string (whereB c n)) ∧ Below w.heap.size w w' := by
  by_cases h : n = -1
  · subst h
    rw [show whereB c (-1) = c from if_pos rfl]
    go_enter Tryz.func230, Tryz.ntmps230
    go_wp2
    go_ret
    exact ⟨rfl, bel1 _ _⟩
  · rw [show whereB c n = (c ++ at4) ++ ⟨(Lib.itoa n).toArray⟩ from if_neg h]
    have hn : (n == -1) = false := by simpa using h
    have hi := itoa_size n h0 h1
    have a1 := strAdd c at4 (by rw [show at4.size = 4 from rfl]; omega)
    have a2 := strAdd (c ++ at4) ⟨(Lib.itoa n).toArray⟩ (by rw [ByteArray.size_append, show at4.size = 4 from rfl]; omega)
    have I := hid (fun (w' : World) (hb : Below (w.alloc (.cells #[.string c, .int .i64 n] 74)).heap.size (w.alloc (.cells #[.string c, .int .i64 n] 74)) w') => itoa_any w' n (hT.later (bel3 (bel1 w _) hb)) h)
    have k0 : (w.alloc (.cells #[.string c, .int .i64 n] 74)).cell? ⟨w.heap.size, 0, none⟩ = some (.string c) := World.cell?_alloc_at (w := w) _ 74 w.heap.size 0 rfl
    have k1 : (w.alloc (.cells #[.string c, .int .i64 n] 74)).cell? ⟨w.heap.size, 1, none⟩ = some (.int .i64 n) := World.cell?_alloc_at (w := w) _ 74 w.heap.size 1 rfl
    unfold at4 at *
    generalize c ++ (⟨#[32, 97, 116, 32]⟩ : ByteArray) = c2 at *
    generalize (⟨(Lib.itoa n).toArray⟩ : ByteArray) = d at *
    generalize c2 ++ d = c3 at *
    clear hi h
    go_enter Tryz.func230, Tryz.ntmps230
    go_wp2
    refine wp_region_noPanic ?_
    refine wp_region_held_drew (S := fun w' => Below (w.alloc (.cells #[.string c, .int .i64 n] 74)).heap.size (w.alloc (.cells #[.string c, .int .i64 n] 74)) w') (by kernel_rfl) (Below.refl _ _).drew (fun hHeld => ?_)
    refine wpAnyH_take (i := 0) (oi := { dst := some 8, op := Op.fieldAddr 74 (Operand.tmp 1) 0, type := 0, pos := "fault.go:97", after := #[], guard := none }) (v := .pointer (some ⟨w.heap.size, 0, none⟩)) rfl (by kernel_rfl) (by kernel_rfl) (by kernel_rfl) (fun _ _ _ h => h) (Or.inl ⟨by rfl, by intro w hS; go_simp⟩) hHeld ?_
    try simp only [Act.put, List.setIfInBounds_toArray, List.set_cons_zero, List.set_cons_succ]
    refine wpAnyH_take (i := 3) (oi := { dst := some 11, op := Op.fieldAddr 74 (Operand.tmp 1) 1, type := 0, pos := "fault.go:97", after := #[], guard := none }) (v := .pointer (some ⟨w.heap.size, 1, none⟩)) rfl (by kernel_rfl) (by kernel_rfl) (by kernel_rfl) (fun _ _ _ h => h) (Or.inl ⟨by rfl, by intro w hS; go_simp⟩) hHeld ?_
    try simp only [Act.put, List.setIfInBounds_toArray, List.set_cons_zero, List.set_cons_succ]
    refine wpAnyH_take (i := 1) (oi := { dst := some 9, op := Op.load 9 (Operand.tmp 8), type := 9, pos := "fault.go:97", after := #[{ on := 0, ground := Ground.data }], guard := none }) (v := .string c) rfl (by kernel_rfl) (by kernel_rfl) (by kernel_rfl) (fun _ _ _ h => h) (Or.inl ⟨by rfl, by intro w hS; have hc := ((hS.cell (block_lt_of_cell k0)).trans k0); go_simp⟩) hHeld ?_
    try simp only [Act.put, List.setIfInBounds_toArray, List.set_cons_zero, List.set_cons_succ]
    refine wpAnyH_take (i := 4) (oi := { dst := some 12, op := Op.load 3 (Operand.tmp 11), type := 3, pos := "fault.go:97", after := #[{ on := 3, ground := Ground.data }], guard := none }) (v := .int .i64 n) rfl (by kernel_rfl) (by kernel_rfl) (by kernel_rfl) (fun _ _ _ h => h) (Or.inl ⟨by rfl, by intro w hS; have hc := ((hS.cell (block_lt_of_cell k1)).trans k1); go_simp⟩) hHeld ?_
    try simp only [Act.put, List.setIfInBounds_toArray, List.set_cons_zero, List.set_cons_succ]
    refine wpAnyH_take (i := 2) (oi := { dst := some 10, op := Op.binOp BinOp.add 9 (Operand.tmp 9) (Operand.const (Value.string { data := #[32, 97, 116, 32] })) 9, type := 9, pos := "fault.go:97", after := #[{ on := 1, ground := Ground.data }], guard := none }) (v := .string c2) rfl (by kernel_rfl) (by kernel_rfl) (by kernel_rfl) (fun _ _ _ h => h) (Or.inl ⟨by rfl, by intro w hS; go_simp⟩) hHeld ?_
    try simp only [Act.put, List.setIfInBounds_toArray, List.set_cons_zero, List.set_cons_succ]
    refine wpAnyH_ready (rs := [5]) (by kernel_rfl) (by simp) ?_
    refine (AllReadyH.cons (o := { dst := some 13, op := Op.call { callee := Callee.value (Operand.func 231), args := #[Operand.tmp 12], argTypes := #[3] }, type := 9, pos := "fault.go:97", after := #[{ on := 4, ground := Ground.data }], guard := none }) rfl (fun K hK => ?_) AllReadyH.nil)
    go_simp
    go_at_call 231
    refine (I.out _ hHeld).mono ?_
    rintro e w4 ⟨rfl, hb4⟩
    go_wp2_with fail
    refine hK.out _ _ (hHeld.trans (hb4.mono hHeld.size)) (fun hHeld2 => ?_)
    clear hK K hHeld
    have hHeld := hHeld2
    clear hHeld2
    try simp only [Act.put, List.setIfInBounds_toArray, List.set_cons_zero, List.set_cons_succ]
    refine wpAnyH_take (i := 6) (oi := { dst := some 14, op := Op.binOp BinOp.add 9 (Operand.tmp 10) (Operand.tmp 13) 9, type := 9, pos := "fault.go:97", after := #[{ on := 2, ground := Ground.data }, { on := 5, ground := Ground.data }], guard := none }) (v := .string c3) rfl (by kernel_rfl) (by kernel_rfl) (by kernel_rfl) (fun _ _ _ h => h) (Or.inl ⟨by rfl, by intro w hS; go_simp⟩) hHeld ?_
    try simp only [Act.put, List.setIfInBounds_toArray, List.set_cons_zero, List.set_cons_succ]
    refine wpAnyH_take (i := 7) (oi := { dst := some 2, op := Op.assign (Operand.tmp 14), type := 9, pos := "fault.go:97", after := #[{ on := 6, ground := Ground.data }, { on := 5, ground := Ground.chain }, { on := 0, ground := Ground.phase }, { on := 1, ground := Ground.phase }, { on := 2, ground := Ground.phase }, { on := 3, ground := Ground.phase }, { on := 4, ground := Ground.phase }, { on := 5, ground := Ground.phase }, { on := 6, ground := Ground.phase }], guard := none }) (v := .string c3) rfl (by kernel_rfl) (by kernel_rfl) (by kernel_rfl) (fun _ _ _ h => h) (Or.inl ⟨by rfl, by intro w hS; go_simp⟩) hHeld ?_
    try simp only [Act.put, List.setIfInBounds_toArray, List.set_cons_zero, List.set_cons_succ]
    refine wpAnyH_done (by kernel_rfl) ?_ _
    refine NoPanic.normal ?_
    have HB := hid hHeld
    clear hHeld
    go_wp2
    go_ret
    exact ⟨rfl, bel3 (bel1 w _) HB.out⟩
set_option maxRecDepth 100000 in
set_option maxHeartbeats 4000000 in
theorem ferr_any (w : World) (n : Int) (hT : TabP n w) (b : Nat) (c : ByteArray) (h0 : -9223372036854775808 ≤ n) (h1 : n ≤ 9223372036854775807) (hc : c.size ≤ 140737488351232) (t : TypeId) (x : Value) (m : FuncId) (s : ByteArray) (hsz : s.size ≤ 281474976710656) (f0 : w.cell? ⟨b, 0, none⟩ = some (.string c)) (f1 : w.cell? ⟨b, 1, none⟩ = some (.int .i64 n)) (f2 : w.cell? ⟨b, 2, none⟩ = some (.iface t x))
    (hM : ∀ w : World, (Go.method 483 t x "Error").run Tryz.prog w = .ok (m, x) w) (hEn : ∀ args (w : World), (callFunc m args).run Tryz.prog w = .ok (.enter m args) w) (hE : Calls Tryz.prog m #[x] w fun e w' => e = .returned (.string s) ∧ Below w.heap.size w w') :
    Calls Tryz.prog 229 #[.pointer (some ⟨b, 0, none⟩)] w fun e w' => e = .returned (.string ((whereB c n ++ colon) ++ s)) ∧ Below w.heap.size w w' := by
  have hN : ∀ (t : TypeId) (v : Value) (w : World), (binOp .neq 24 (.iface t v) .nilIface).run Tryz.prog w = .ok (.bool true) w := fun t v w => nil_neq Tryz.underlying24
  have P := hid (fun (w' : World) (hb : Below w.heap.size w w') => pwhere_any w' n (hT.later hb) c h0 h1 hc)
  have F0 := hid f0
  have F1 := hid f1
  replace hE := hid hE
  have hs := whereB_size c n h0 h1
  have a1 := strAdd (whereB c n) colon (by rw [show colon.size = 2 from rfl]; omega)
  have a2 := strAdd (whereB c n ++ colon) s (by rw [ByteArray.size_append, show colon.size = 2 from rfl]; omega)
  unfold colon at *
  generalize whereB c n = u at *
  generalize u ++ (⟨#[58, 32]⟩ : ByteArray) = u2 at *
  generalize u2 ++ s = u3 at *
  clear hs hsz
  go_enter Tryz.func229, Tryz.ntmps229
  go_wp2_with fail
  refine hE.out.mono ?_
  rintro _ w1 ⟨rfl, hb⟩
  have g0 := cellB hb F0.out
  have g1 := cellB hb F1.out
  replace hb := hid hb
  clear f0 f1 f2
  go_wp2_with fail
  refine (P.out w1 hb.out).mono ?_
  rintro _ w2 ⟨rfl, hb2⟩
  go_wp2
  go_ret
  exact ⟨rfl, bel3 hb.out hb2⟩
theorem Tryz.methodErrP (v : Value) (w : World) : (Go.method 483 71 v "Error").run Tryz.prog w = .ok (229, v) w := by kernel_rfl
theorem txt_size : ∀ i, i < 20 → (txt i).size ≤ 40 := by decide +kernel
theorem ferr_fx (w : World) (n : Int) (hT : TabP n w) (A : Nat → Addr) (hS : Sen w A) (b : Nat) (c : ByteArray) (h0 : -9223372036854775808 ≤ n) (h1 : n ≤ 9223372036854775807) (hc : c.size ≤ 140737488351232) (i : Nat) (hi : i < 20) (f0 : w.cell? ⟨b, 0, none⟩ = some (.string c)) (f1 : w.cell? ⟨b, 1, none⟩ = some (.int .i64 n)) (f2 : w.cell? ⟨b, 2, none⟩ = some (.iface 335 (.pointer (some (A i))))) :
    Calls Tryz.prog 229 #[.pointer (some ⟨b, 0, none⟩)] w fun e w' => e = .returned (.string ((whereB c n ++ colon) ++ txt i)) ∧ Below w.heap.size w w' :=
  ferr_any w n hT b c h0 h1 hc 335 _ 265 (txt i) (by have := txt_size i hi; omega) f0 f1 f2 (Tryz.methodErr _) (enters_of Tryz.func265 (by kernel_rfl) rfl) ((error_any w (A i) (txt i) (hS.text i hi)).mono fun e w' ⟨h1, h2⟩ => ⟨h1, by rw [h2]; exact Below.refl _ _⟩)
set_option maxRecDepth 100000 in
set_option maxHeartbeats 4000000 in
theorem num_any (w : World) (A : Nat → Addr) (hS : Sen w A) (t : TypeId) (x : Value) (p : Nat → Bool) (c : Int) (hI : IsP w A (.iface t x) p) (hcd : CodeIs p c) :
    Calls Tryz.prog 18 #[.iface t x] w fun e w' => e = .returned (.int .i64 c) ∧ Below w.heap.size w w' := by
  have hN : ∀ (t : TypeId) (v : Value) (w : World), (binOp .eql 24 (.iface t v) .nilIface).run Tryz.prog w = .ok (.bool false) w := fun t v w => nil_other Tryz.underlying24
  replace hI := hid hI
  replace hcd := hid hcd
  go_enter Tryz.func18, Tryz.ntmps18
  go_wp2_with fail
  refine (list_any w A hS).mono ?_
  rintro e w1 ⟨rfl, rfl⟩
  have hB : Below w.heap.size w (w.alloc (.cells (lst A) 119)) := bel1 _ _
  have hS1 : Sen (w.alloc (.cells (lst A) 119)) A := hS.mono hB
  have hc : ∀ k v, (lst A)[k]? = some v → (w.alloc (.cells (lst A) 119)).cell? ⟨w.heap.size, k, none⟩ = some v := fun k v e => (World.cell?_alloc_at (w := w) (lst A) 119 w.heap.size k rfl).trans e
  have n0 : ∀ i, i < 20 → (w.alloc (.cells (lst A) 119)).cell? ⟨w.heap.size, i * 2, none⟩ = some (.int .i64 (nos i)) := fun i hi => hc _ _ (by rw [Nat.mul_comm]; exact lst_no A i hi)
  have n1 : ∀ i, i < 20 → (w.alloc (.cells (lst A) 119)).cell? ⟨w.heap.size, i * 2 + 1, none⟩ = some (.iface 335 (.pointer (some (A i)))) := fun i hi => hc _ _ (by rw [Nat.mul_comm]; exact lst_er A i hi)
  have hbe := hid hB
  generalize w.alloc (.cells (lst A) 119) = w1 at *
  generalize w.heap.size = b at hB n0 n1 ⊢
  replace n0 := hid n0
  replace n1 := hid n1
  replace hS1 := hid hS1
  clear hS hc hB
  go_wp2
  go_loopw [4] (fun i w' => ∃ k : Nat, k ≤ 20 ∧ i = .int .i64 k ∧ (∀ g, g < k → p g = false) ∧ Below w1.heap.size w1 w')
    (fun i _ => 20 - (intOf i).toNat)
  case atStart => exact ⟨0, by omega, rfl, fun g hg => by omega, Below.refl _ _⟩
  case round =>
    obtain ⟨k, hk, rfl, hp, hb⟩ := hrel
    replace hp := hid hp
    replace hb := hid hb
    by_cases hk2 : k < 20
    · have n0k : wr.cell? ⟨b, k * 2, none⟩ = some (.int .i64 (nos k)) := cellB hb.out (n0.out k hk2)
      have n1k : wr.cell? ⟨b, k * 2 + 1, none⟩ = some (.iface 335 (.pointer (some (A k)))) := cellB hb.out (n1.out k hk2)
      have hki : (k : Int) < 20 := by omega
      have I := hid (hI.out wr (bel3 hbe.out hb.out) k hk2)
      go_wp2_with fail
      refine (Is_any _ _ _ _ _ I.out).mono ?_
      rintro _ w2 ⟨rfl, hb2⟩
      replace n0k := cellB hb2 n0k
      replace hb2 := hid hb2
      clear n1k
      cases hpk : p k
      case true =>
        go_wp2
        go_ret
        refine ⟨?_, bel3 (bel3 hbe.out hb.out) hb2.out⟩
        rcases hcd.out with ⟨g0, h0, p0, q0, c0⟩ | ⟨q0, c0⟩
        · obtain rfl : g0 = k := by
            rcases Nat.lt_trichotomy g0 k with h | h | h
            · rw [hp.out g0 h] at p0; cases p0
            · exact h
            · rw [q0 k h] at hpk; cases hpk
          rw [c0]; rfl
        · rw [q0 k hk2] at hpk; cases hpk
      case false =>
        go_wp2
        go_roundw
        case rel => exact ⟨k + 1, by omega, by go_num, fun g hg => by
          by_cases h : g < k
          · exact hp.out g h
          · rw [show g = k by omega]; exact hpk, bel3 hb.out hb2.out⟩
        case measure => simp [intOf]; omega
    · obtain rfl : k = 20 := by omega
      go_wp2
      go_ret
      refine ⟨?_, bel3 hbe.out hb.out⟩
      rcases hcd.out with ⟨g0, h0, p0, q0, c0⟩ | ⟨q0, c0⟩
      · rw [hp.out g0 h0] at p0; cases p0
      · rw [c0]; rfl
set_option maxRecDepth 100000 in
set_option maxHeartbeats 4000000 in
theorem sentinel_at (w : World) (A : Nat → Addr) (hS : Sen w A) (i : Nat) (hi : i < 20) :
    Calls Tryz.prog 19 #[.int .i64 (nos i)] w fun e w' => e = .returned (.iface 335 (.pointer (some (A i)))) ∧ Below w.heap.size w w' := by
  go_enter Tryz.func19, Tryz.ntmps19
  go_wp2_with fail
  refine (list_any w A hS).mono ?_
  rintro e w1 ⟨rfl, rfl⟩
  have hB : Below w.heap.size w (w.alloc (.cells (lst A) 119)) := bel1 _ _
  have hS1 : Sen (w.alloc (.cells (lst A) 119)) A := hS.mono hB
  have hc : ∀ k v, (lst A)[k]? = some v → (w.alloc (.cells (lst A) 119)).cell? ⟨w.heap.size, k, none⟩ = some v := fun k v e => (World.cell?_alloc_at (w := w) (lst A) 119 w.heap.size k rfl).trans e
  have n0 : ∀ i, i < 20 → (w.alloc (.cells (lst A) 119)).cell? ⟨w.heap.size, i * 2, none⟩ = some (.int .i64 (nos i)) := fun i hi => hc _ _ (by rw [Nat.mul_comm]; exact lst_no A i hi)
  have n1 : ∀ i, i < 20 → (w.alloc (.cells (lst A) 119)).cell? ⟨w.heap.size, i * 2 + 1, none⟩ = some (.iface 335 (.pointer (some (A i)))) := fun i hi => hc _ _ (by rw [Nat.mul_comm]; exact lst_er A i hi)
  have hbe := hid hB
  generalize w.alloc (.cells (lst A) 119) = w1 at *
  generalize w.heap.size = b at hB n0 n1 ⊢
  replace n0 := hid n0
  replace n1 := hid n1
  replace hS1 := hid hS1
  clear hS hc hB
  go_wp2
  go_loopw [4] (fun j w' => ∃ k : Nat, k ≤ i ∧ j = .int .i64 k ∧ w' = w1)
    (fun j _ => 20 - (intOf j).toNat)
  case atStart => exact ⟨0, by omega, rfl, rfl⟩
  case round =>
    obtain ⟨k, hk, rfl, rfl⟩ := hrel
    have hk2 : k < 20 := by omega
    have n0k : wr.cell? ⟨b, k * 2, none⟩ = some (.int .i64 (nos k)) := n0.out k hk2
    have n1k : wr.cell? ⟨b, k * 2 + 1, none⟩ = some (.iface 335 (.pointer (some (A k)))) := n1.out k hk2
    have hki : (k : Int) < 20 := by omega
    by_cases h : k = i
    · subst h
      go_wp2
      go_ret
      exact ⟨rfl, hbe.out⟩
    · have hne : (nos k == nos i) = false := by simpa using fun e => h (nos_inj hk2 hi e)
      go_wp2
      go_roundw
      case rel => exact ⟨k + 1, by omega, by go_num, trivial⟩
      case measure => simp [intOf]; omega
theorem wrap_zero (w : World) (c : ByteArray) (at_ : Int) :
    Calls Tryz.prog 13 #[.string c, .int .i64 at_, .int .i64 0] w fun r w' => r = .returned .nilIface ∧ w' = w := by
  go_enter Tryz.func13, Tryz.ntmps13
  go_wp2
  go_ret
  exact ⟨rfl, rfl⟩
set_option maxRecDepth 100000 in
set_option maxHeartbeats 4000000 in
theorem fault_any (w : World) (n : Int) (hT : TabP n w) (A : Nat → Addr) (hS : Sen w A) (b : Nat) (c : ByteArray) (h0 : -9223372036854775808 ≤ n) (h1 : n ≤ 9223372036854775807) (hc : c.size ≤ 140737488351232) (i : Nat) (hi : i < 20) (f0 : w.cell? ⟨b, 0, none⟩ = some (.string c)) (f1 : w.cell? ⟨b, 1, none⟩ = some (.int .i64 n)) (f2 : w.cell? ⟨b, 2, none⟩ = some (.iface 335 (.pointer (some (A i))))) :
    Calls Tryz.prog 6 #[.iface 71 (.pointer (some ⟨b, 0, none⟩)), .int .i64 (nos i), .string c, .int .i64 n] w fun e w' => e = .returned (.bool true) ∧ Below w.heap.size w w' := by
  have hN : ∀ (t : TypeId) (v : Value) (w : World), (binOp .eql 24 (.iface t v) .nilIface).run Tryz.prog w = .ok (.bool false) w := fun t v w => nil_other Tryz.underlying24
  have hz : (nos i == 0) = false := by have := (nos_lo i hi).1; simp; omega
  have HT := hid hT
  have hE := er_same_neq (A i)
  have hTA := Tryz.assertFault
  have X := hid (num_any w A hS 71 _ _ (nos i) (isP_fa1 hS b hi f2) (codeIs_one hi))
  have HS0 := hid hS
  clear hT hS
  go_enter Tryz.func6, Tryz.ntmps6
  go_wp2_with fail
  refine X.out.mono ?_
  rintro _ w1 ⟨rfl, hb1⟩
  have HB1 := hid hb1
  have HS := hid (HS0.out.mono hb1)
  replace f0 := cellB hb1 f0
  replace f1 := cellB hb1 f1
  replace f2 := cellB hb1 f2
  clear hb1 X HS0
  go_wp2_with fail
  refine wp_region_noPanic ?_
  refine wp_region_held_drew (S := fun w' => Below w1.heap.size w1 w') (by kernel_rfl) (Below.refl _ _).drew (fun hHeld => ?_)
  refine wpAnyH_take (i := 0) (oi := { dst := some 28, op := Op.move (Operand.tmp 10), type := 4, pos := "law.go:87", after := #[], guard := none }) (v := .bool true) rfl (by kernel_rfl) (by kernel_rfl) (by kernel_rfl) (fun _ _ _ h => h) (Or.inl ⟨by rfl, by intro w hS; go_simp⟩) hHeld ?_
  try simp only [Act.put, List.setIfInBounds_toArray, List.set_cons_zero, List.set_cons_succ]
  refine wpAnyH_take (i := 1) (oi := { dst := some 29, op := Op.unOp UnOp.not 4 (Operand.tmp 28), type := 4, pos := "law.go:87", after := #[{ on := 0, ground := Ground.data }], guard := none }) (v := .bool false) rfl (by kernel_rfl) (by kernel_rfl) (by kernel_rfl) (fun _ _ _ h => h) (Or.inl ⟨by rfl, by intro w hS; go_simp⟩) hHeld ?_
  try simp only [Act.put, List.setIfInBounds_toArray, List.set_cons_zero, List.set_cons_succ]
  refine wpAnyH_take (i := 2) (oi := { dst := some 30, op := Op.move (Operand.tmp 29), type := 4, pos := "law.go:87", after := #[{ on := 1, ground := Ground.data }], guard := none }) (v := .bool false) rfl (by kernel_rfl) (by kernel_rfl) (by kernel_rfl) (fun _ _ _ h => h) (Or.inl ⟨by rfl, by intro w hS; go_simp⟩) hHeld ?_
  try simp only [Act.put, List.setIfInBounds_toArray, List.set_cons_zero, List.set_cons_succ]
  refine wpAnyH_take (i := 3) (oi := { dst := some 31, op := Op.move (Operand.tmp 9), type := 71, pos := "law.go:87", after := #[{ on := 2, ground := Ground.guard }], guard := some (2, false) }) (v := .pointer (some ⟨b, 0, none⟩)) rfl (by kernel_rfl) (by kernel_rfl) (by kernel_rfl) (fun _ _ _ h => h) (Or.inl ⟨by rfl, by intro w hS; go_simp⟩) hHeld ?_
  try simp only [Act.put, List.setIfInBounds_toArray, List.set_cons_zero, List.set_cons_succ]
  refine wpAnyH_take (i := 4) (oi := { dst := some 32, op := Op.binOp BinOp.eql 71 (Operand.tmp 31) (Operand.const (Value.pointer none)) 71, type := 4, pos := "law.go:87", after := #[{ on := 3, ground := Ground.data }, { on := 2, ground := Ground.guard }], guard := some (2, false) }) (v := .bool false) rfl (by kernel_rfl) (by kernel_rfl) (by kernel_rfl) (fun _ _ _ h => h) (Or.inl ⟨by rfl, by intro w hS; go_simp⟩) hHeld ?_
  try simp only [Act.put, List.setIfInBounds_toArray, List.set_cons_zero, List.set_cons_succ]
  refine wpAnyH_take (i := 5) (oi := { dst := some 33, op := Op.pick (Operand.tmp 30) (Operand.const (Value.bool true)) (Operand.tmp 32), type := 4, pos := "law.go:87", after := #[{ on := 2, ground := Ground.data }, { on := 4, ground := Ground.data }], guard := none }) (v := .bool false) rfl (by kernel_rfl) (by kernel_rfl) (by kernel_rfl) (fun _ _ _ h => h) (Or.inl ⟨by rfl, by intro w hS; go_simp⟩) hHeld ?_
  try simp only [Act.put, List.setIfInBounds_toArray, List.set_cons_zero, List.set_cons_succ]
  refine wpAnyH_take (i := 6) (oi := { dst := some 34, op := Op.move (Operand.tmp 33), type := 4, pos := "law.go:87", after := #[{ on := 5, ground := Ground.data }, { on := 2, ground := Ground.chain }], guard := none }) (v := .bool false) rfl (by kernel_rfl) (by kernel_rfl) (by kernel_rfl) (fun _ _ _ h => h) (Or.inl ⟨by rfl, by intro w hS; go_simp⟩) hHeld ?_
  try simp only [Act.put, List.setIfInBounds_toArray, List.set_cons_zero, List.set_cons_succ]
  refine wpAnyH_take (i := 7) (oi := { dst := some 35, op := Op.move (Operand.tmp 9), type := 71, pos := "law.go:87", after := #[{ on := 6, ground := Ground.guard }], guard := some (6, false) }) (v := .pointer (some ⟨b, 0, none⟩)) rfl (by kernel_rfl) (by kernel_rfl) (by kernel_rfl) (fun _ _ _ h => h) (Or.inl ⟨by rfl, by intro w hS; go_simp⟩) hHeld ?_
  try simp only [Act.put, List.setIfInBounds_toArray, List.set_cons_zero, List.set_cons_succ]
  refine wpAnyH_take (i := 12) (oi := { dst := some 40, op := Op.move (Operand.tmp 2), type := 9, pos := "law.go:87", after := #[{ on := 6, ground := Ground.guard }], guard := some (6, false) }) (v := .string c) rfl (by kernel_rfl) (by kernel_rfl) (by kernel_rfl) (fun _ _ _ h => h) (Or.inl ⟨by rfl, by intro w hS; go_simp⟩) hHeld ?_
  try simp only [Act.put, List.setIfInBounds_toArray, List.set_cons_zero, List.set_cons_succ]
  refine wpAnyH_take (i := 8) (oi := { dst := some 36, op := Op.nilCheck (Operand.tmp 35), type := 0, pos := "law.go:87", after := #[{ on := 7, ground := Ground.data }, { on := 6, ground := Ground.guard }], guard := some (6, false) }) (v := .pointer (some ⟨b, 0, none⟩)) rfl (by kernel_rfl) (by kernel_rfl) (by kernel_rfl) (fun _ _ _ h => h) (Or.inl ⟨by rfl, by intro w hS; go_simp⟩) hHeld ?_
  try simp only [Act.put, List.setIfInBounds_toArray, List.set_cons_zero, List.set_cons_succ]
  refine wpAnyH_take (i := 9) (oi := { dst := some 37, op := Op.fieldAddr 76 (Operand.tmp 36) 0, type := 0, pos := "law.go:87", after := #[{ on := 8, ground := Ground.data }, { on := 6, ground := Ground.guard }], guard := some (6, false) }) (v := .pointer (some ⟨b, 0, none⟩)) rfl (by kernel_rfl) (by kernel_rfl) (by kernel_rfl) (fun _ _ _ h => h) (Or.inl ⟨by rfl, by intro w hS; go_simp⟩) hHeld ?_
  try simp only [Act.put, List.setIfInBounds_toArray, List.set_cons_zero, List.set_cons_succ]
  refine wpAnyH_take (i := 10) (oi := { dst := some 38, op := Op.fieldAddr 74 (Operand.tmp 37) 0, type := 0, pos := "law.go:87", after := #[{ on := 9, ground := Ground.data }, { on := 6, ground := Ground.guard }], guard := some (6, false) }) (v := .pointer (some ⟨b, 0, none⟩)) rfl (by kernel_rfl) (by kernel_rfl) (by kernel_rfl) (fun _ _ _ h => h) (Or.inl ⟨by rfl, by intro w hS; go_simp⟩) hHeld ?_
  try simp only [Act.put, List.setIfInBounds_toArray, List.set_cons_zero, List.set_cons_succ]
  refine wpAnyH_take (i := 11) (oi := { dst := some 39, op := Op.load 9 (Operand.tmp 38), type := 9, pos := "law.go:87", after := #[{ on := 10, ground := Ground.data }, { on := 6, ground := Ground.guard }], guard := some (6, false) }) (v := .string c) rfl (by kernel_rfl) (by kernel_rfl) (by kernel_rfl) (fun _ _ _ h => h) (Or.inl ⟨by rfl, by intro w hS; have hc := ((hS.cell (block_lt_of_cell f0)).trans f0); go_simp⟩) hHeld ?_
  try simp only [Act.put, List.setIfInBounds_toArray, List.set_cons_zero, List.set_cons_succ]
  refine wpAnyH_take (i := 13) (oi := { dst := some 41, op := Op.binOp BinOp.neq 9 (Operand.tmp 39) (Operand.tmp 40) 9, type := 4, pos := "law.go:87", after := #[{ on := 11, ground := Ground.data }, { on := 12, ground := Ground.data }, { on := 6, ground := Ground.guard }], guard := some (6, false) }) (v := .bool false) rfl (by kernel_rfl) (by kernel_rfl) (by kernel_rfl) (fun _ _ _ h => h) (Or.inl ⟨by rfl, by intro w hS; go_simp⟩) hHeld ?_
  try simp only [Act.put, List.setIfInBounds_toArray, List.set_cons_zero, List.set_cons_succ]
  refine wpAnyH_take (i := 14) (oi := { dst := some 42, op := Op.pick (Operand.tmp 34) (Operand.const (Value.bool true)) (Operand.tmp 41), type := 4, pos := "law.go:87", after := #[{ on := 6, ground := Ground.data }, { on := 13, ground := Ground.data }], guard := none }) (v := .bool false) rfl (by kernel_rfl) (by kernel_rfl) (by kernel_rfl) (fun _ _ _ h => h) (Or.inl ⟨by rfl, by intro w hS; go_simp⟩) hHeld ?_
  try simp only [Act.put, List.setIfInBounds_toArray, List.set_cons_zero, List.set_cons_succ]
  refine wpAnyH_take (i := 15) (oi := { dst := some 43, op := Op.move (Operand.tmp 42), type := 4, pos := "law.go:87", after := #[{ on := 14, ground := Ground.data }, { on := 6, ground := Ground.chain }], guard := none }) (v := .bool false) rfl (by kernel_rfl) (by kernel_rfl) (by kernel_rfl) (fun _ _ _ h => h) (Or.inl ⟨by rfl, by intro w hS; go_simp⟩) hHeld ?_
  try simp only [Act.put, List.setIfInBounds_toArray, List.set_cons_zero, List.set_cons_succ]
  refine wpAnyH_take (i := 16) (oi := { dst := some 44, op := Op.move (Operand.tmp 9), type := 71, pos := "law.go:87", after := #[{ on := 15, ground := Ground.guard }], guard := some (15, false) }) (v := .pointer (some ⟨b, 0, none⟩)) rfl (by kernel_rfl) (by kernel_rfl) (by kernel_rfl) (fun _ _ _ h => h) (Or.inl ⟨by rfl, by intro w hS; go_simp⟩) hHeld ?_
  try simp only [Act.put, List.setIfInBounds_toArray, List.set_cons_zero, List.set_cons_succ]
  refine wpAnyH_take (i := 21) (oi := { dst := some 49, op := Op.move (Operand.tmp 3), type := 3, pos := "law.go:87", after := #[{ on := 15, ground := Ground.guard }], guard := some (15, false) }) (v := .int .i64 n) rfl (by kernel_rfl) (by kernel_rfl) (by kernel_rfl) (fun _ _ _ h => h) (Or.inl ⟨by rfl, by intro w hS; go_simp⟩) hHeld ?_
  try simp only [Act.put, List.setIfInBounds_toArray, List.set_cons_zero, List.set_cons_succ]
  refine wpAnyH_take (i := 17) (oi := { dst := some 45, op := Op.nilCheck (Operand.tmp 44), type := 0, pos := "law.go:87", after := #[{ on := 16, ground := Ground.data }, { on := 15, ground := Ground.guard }], guard := some (15, false) }) (v := .pointer (some ⟨b, 0, none⟩)) rfl (by kernel_rfl) (by kernel_rfl) (by kernel_rfl) (fun _ _ _ h => h) (Or.inl ⟨by rfl, by intro w hS; go_simp⟩) hHeld ?_
  try simp only [Act.put, List.setIfInBounds_toArray, List.set_cons_zero, List.set_cons_succ]
  refine wpAnyH_take (i := 18) (oi := { dst := some 46, op := Op.fieldAddr 76 (Operand.tmp 45) 0, type := 0, pos := "law.go:87", after := #[{ on := 17, ground := Ground.data }, { on := 15, ground := Ground.guard }], guard := some (15, false) }) (v := .pointer (some ⟨b, 0, none⟩)) rfl (by kernel_rfl) (by kernel_rfl) (by kernel_rfl) (fun _ _ _ h => h) (Or.inl ⟨by rfl, by intro w hS; go_simp⟩) hHeld ?_
  try simp only [Act.put, List.setIfInBounds_toArray, List.set_cons_zero, List.set_cons_succ]
  refine wpAnyH_take (i := 19) (oi := { dst := some 47, op := Op.fieldAddr 74 (Operand.tmp 46) 1, type := 0, pos := "law.go:87", after := #[{ on := 18, ground := Ground.data }, { on := 15, ground := Ground.guard }], guard := some (15, false) }) (v := .pointer (some ⟨b, 1, none⟩)) rfl (by kernel_rfl) (by kernel_rfl) (by kernel_rfl) (fun _ _ _ h => h) (Or.inl ⟨by rfl, by intro w hS; go_simp⟩) hHeld ?_
  try simp only [Act.put, List.setIfInBounds_toArray, List.set_cons_zero, List.set_cons_succ]
  refine wpAnyH_take (i := 20) (oi := { dst := some 48, op := Op.load 3 (Operand.tmp 47), type := 3, pos := "law.go:87", after := #[{ on := 19, ground := Ground.data }, { on := 15, ground := Ground.guard }], guard := some (15, false) }) (v := .int .i64 n) rfl (by kernel_rfl) (by kernel_rfl) (by kernel_rfl) (fun _ _ _ h => h) (Or.inl ⟨by rfl, by intro w hS; have hc := ((hS.cell (block_lt_of_cell f1)).trans f1); go_simp⟩) hHeld ?_
  try simp only [Act.put, List.setIfInBounds_toArray, List.set_cons_zero, List.set_cons_succ]
  refine wpAnyH_take (i := 22) (oi := { dst := some 50, op := Op.binOp BinOp.neq 3 (Operand.tmp 48) (Operand.tmp 49) 3, type := 4, pos := "law.go:87", after := #[{ on := 20, ground := Ground.data }, { on := 21, ground := Ground.data }, { on := 15, ground := Ground.guard }], guard := some (15, false) }) (v := .bool false) rfl (by kernel_rfl) (by kernel_rfl) (by kernel_rfl) (fun _ _ _ h => h) (Or.inl ⟨by rfl, by intro w hS; go_simp⟩) hHeld ?_
  try simp only [Act.put, List.setIfInBounds_toArray, List.set_cons_zero, List.set_cons_succ]
  refine wpAnyH_take (i := 23) (oi := { dst := some 51, op := Op.pick (Operand.tmp 43) (Operand.const (Value.bool true)) (Operand.tmp 50), type := 4, pos := "law.go:87", after := #[{ on := 15, ground := Ground.data }, { on := 22, ground := Ground.data }], guard := none }) (v := .bool false) rfl (by kernel_rfl) (by kernel_rfl) (by kernel_rfl) (fun _ _ _ h => h) (Or.inl ⟨by rfl, by intro w hS; go_simp⟩) hHeld ?_
  try simp only [Act.put, List.setIfInBounds_toArray, List.set_cons_zero, List.set_cons_succ]
  refine wpAnyH_take (i := 24) (oi := { dst := some 52, op := Op.move (Operand.tmp 51), type := 4, pos := "law.go:87", after := #[{ on := 23, ground := Ground.data }, { on := 15, ground := Ground.chain }], guard := none }) (v := .bool false) rfl (by kernel_rfl) (by kernel_rfl) (by kernel_rfl) (fun _ _ _ h => h) (Or.inl ⟨by rfl, by intro w hS; go_simp⟩) hHeld ?_
  try simp only [Act.put, List.setIfInBounds_toArray, List.set_cons_zero, List.set_cons_succ]
  refine wpAnyH_take (i := 25) (oi := { dst := some 53, op := Op.move (Operand.tmp 9), type := 71, pos := "law.go:87", after := #[{ on := 24, ground := Ground.guard }], guard := some (24, false) }) (v := .pointer (some ⟨b, 0, none⟩)) rfl (by kernel_rfl) (by kernel_rfl) (by kernel_rfl) (fun _ _ _ h => h) (Or.inl ⟨by rfl, by intro w hS; go_simp⟩) hHeld ?_
  try simp only [Act.put, List.setIfInBounds_toArray, List.set_cons_zero, List.set_cons_succ]
  refine wpAnyH_take (i := 29) (oi := { dst := some 57, op := Op.move (Operand.tmp 1), type := 3, pos := "law.go:87", after := #[{ on := 24, ground := Ground.guard }], guard := some (24, false) }) (v := .int .i64 (nos i)) rfl (by kernel_rfl) (by kernel_rfl) (by kernel_rfl) (fun _ _ _ h => h) (Or.inl ⟨by rfl, by intro w hS; go_simp⟩) hHeld ?_
  try simp only [Act.put, List.setIfInBounds_toArray, List.set_cons_zero, List.set_cons_succ]
  refine wpAnyH_take (i := 26) (oi := { dst := some 54, op := Op.nilCheck (Operand.tmp 53), type := 0, pos := "law.go:87", after := #[{ on := 25, ground := Ground.data }, { on := 24, ground := Ground.guard }], guard := some (24, false) }) (v := .pointer (some ⟨b, 0, none⟩)) rfl (by kernel_rfl) (by kernel_rfl) (by kernel_rfl) (fun _ _ _ h => h) (Or.inl ⟨by rfl, by intro w hS; go_simp⟩) hHeld ?_
  try simp only [Act.put, List.setIfInBounds_toArray, List.set_cons_zero, List.set_cons_succ]
  refine wpAnyH_take (i := 27) (oi := { dst := some 55, op := Op.fieldAddr 76 (Operand.tmp 54) 1, type := 0, pos := "law.go:87", after := #[{ on := 26, ground := Ground.data }, { on := 24, ground := Ground.guard }], guard := some (24, false) }) (v := .pointer (some ⟨b, 2, none⟩)) rfl (by kernel_rfl) (by kernel_rfl) (by kernel_rfl) (fun _ _ _ h => h) (Or.inl ⟨by rfl, by intro w hS; go_simp⟩) hHeld ?_
  try simp only [Act.put, List.setIfInBounds_toArray, List.set_cons_zero, List.set_cons_succ]
  refine wpAnyH_take (i := 28) (oi := { dst := some 56, op := Op.load 24 (Operand.tmp 55), type := 24, pos := "law.go:87", after := #[{ on := 27, ground := Ground.data }, { on := 24, ground := Ground.guard }], guard := some (24, false) }) (v := .iface 335 (.pointer (some (A i)))) rfl (by kernel_rfl) (by kernel_rfl) (by kernel_rfl) (fun _ _ _ h => h) (Or.inl ⟨by rfl, by intro w hS; have hc := ((hS.cell (block_lt_of_cell f2)).trans f2); go_simp⟩) hHeld ?_
  try simp only [Act.put, List.setIfInBounds_toArray, List.set_cons_zero, List.set_cons_succ]
  refine wpAnyH_ready (rs := [30]) (by kernel_rfl) (by simp) ?_
  refine (AllReadyH.cons (o := { dst := some 58, op := Op.call { callee := Callee.value (Operand.func 19), args := #[Operand.tmp 57], argTypes := #[3] }, type := 24, pos := "law.go:87", after := #[{ on := 29, ground := Ground.data }, { on := 24, ground := Ground.chain }, { on := 24, ground := Ground.guard }], guard := some (24, false) }) rfl (fun K hK => ?_) AllReadyH.nil)
  go_simp
  go_at_call 19
  refine (sentinel_at _ A (HS.out.mono (hHeld.mono (Nat.le_refl _))) i hi).mono ?_
  rintro e w4 ⟨rfl, hb4⟩
  go_wp2_with fail
  refine hK.out _ _ (hHeld.trans (hb4.mono hHeld.size)) (fun hHeld2 => ?_)
  clear hK K hHeld
  have hHeld := hHeld2
  clear hHeld2
  try simp only [Act.put, List.setIfInBounds_toArray, List.set_cons_zero, List.set_cons_succ]
  refine wpAnyH_take (i := 31) (oi := { dst := some 59, op := Op.binOp BinOp.neq 24 (Operand.tmp 56) (Operand.tmp 58) 24, type := 4, pos := "law.go:87", after := #[{ on := 28, ground := Ground.data }, { on := 30, ground := Ground.data }, { on := 24, ground := Ground.guard }], guard := some (24, false) }) (v := .bool false) rfl (by kernel_rfl) (by kernel_rfl) (by kernel_rfl) (fun _ _ _ h => h) (Or.inl ⟨by rfl, by intro w hS; go_simp⟩) hHeld ?_
  try simp only [Act.put, List.setIfInBounds_toArray, List.set_cons_zero, List.set_cons_succ]
  refine wpAnyH_take (i := 32) (oi := { dst := some 60, op := Op.pick (Operand.tmp 52) (Operand.const (Value.bool true)) (Operand.tmp 59), type := 4, pos := "law.go:87", after := #[{ on := 24, ground := Ground.data }, { on := 31, ground := Ground.data }], guard := none }) (v := .bool false) rfl (by kernel_rfl) (by kernel_rfl) (by kernel_rfl) (fun _ _ _ h => h) (Or.inl ⟨by rfl, by intro w hS; go_simp⟩) hHeld ?_
  try simp only [Act.put, List.setIfInBounds_toArray, List.set_cons_zero, List.set_cons_succ]
  refine wpAnyH_take (i := 33) (oi := { dst := some 61, op := Op.move (Operand.tmp 60), type := 4, pos := "law.go:87", after := #[{ on := 32, ground := Ground.data }, { on := 30, ground := Ground.chain }], guard := none }) (v := .bool false) rfl (by kernel_rfl) (by kernel_rfl) (by kernel_rfl) (fun _ _ _ h => h) (Or.inl ⟨by rfl, by intro w hS; go_simp⟩) hHeld ?_
  try simp only [Act.put, List.setIfInBounds_toArray, List.set_cons_zero, List.set_cons_succ]
  refine wpAnyH_take (i := 34) (oi := { dst := some 62, op := Op.move (Operand.tmp 9), type := 71, pos := "law.go:87", after := #[{ on := 33, ground := Ground.guard }], guard := some (33, false) }) (v := .pointer (some ⟨b, 0, none⟩)) rfl (by kernel_rfl) (by kernel_rfl) (by kernel_rfl) (fun _ _ _ h => h) (Or.inl ⟨by rfl, by intro w hS; go_simp⟩) hHeld ?_
  try simp only [Act.put, List.setIfInBounds_toArray, List.set_cons_zero, List.set_cons_succ]
  refine wpAnyH_take (i := 36) (oi := { dst := some 64, op := Op.move (Operand.tmp 9), type := 71, pos := "law.go:87", after := #[{ on := 33, ground := Ground.guard }], guard := some (33, false) }) (v := .pointer (some ⟨b, 0, none⟩)) rfl (by kernel_rfl) (by kernel_rfl) (by kernel_rfl) (fun _ _ _ h => h) (Or.inl ⟨by rfl, by intro w hS; go_simp⟩) hHeld ?_
  try simp only [Act.put, List.setIfInBounds_toArray, List.set_cons_zero, List.set_cons_succ]
  refine wpAnyH_take (i := 37) (oi := { dst := some 65, op := Op.nilCheck (Operand.tmp 64), type := 0, pos := "law.go:87", after := #[{ on := 36, ground := Ground.data }, { on := 33, ground := Ground.guard }], guard := some (33, false) }) (v := .pointer (some ⟨b, 0, none⟩)) rfl (by kernel_rfl) (by kernel_rfl) (by kernel_rfl) (fun _ _ _ h => h) (Or.inl ⟨by rfl, by intro w hS; go_simp⟩) hHeld ?_
  try simp only [Act.put, List.setIfInBounds_toArray, List.set_cons_zero, List.set_cons_succ]
  refine wpAnyH_take (i := 38) (oi := { dst := some 66, op := Op.fieldAddr 76 (Operand.tmp 65) 1, type := 0, pos := "law.go:87", after := #[{ on := 37, ground := Ground.data }, { on := 33, ground := Ground.guard }], guard := some (33, false) }) (v := .pointer (some ⟨b, 2, none⟩)) rfl (by kernel_rfl) (by kernel_rfl) (by kernel_rfl) (fun _ _ _ h => h) (Or.inl ⟨by rfl, by intro w hS; go_simp⟩) hHeld ?_
  try simp only [Act.put, List.setIfInBounds_toArray, List.set_cons_zero, List.set_cons_succ]
  refine wpAnyH_take (i := 39) (oi := { dst := some 67, op := Op.load 24 (Operand.tmp 66), type := 24, pos := "law.go:87", after := #[{ on := 38, ground := Ground.data }, { on := 33, ground := Ground.guard }], guard := some (33, false) }) (v := .iface 335 (.pointer (some (A i)))) rfl (by kernel_rfl) (by kernel_rfl) (by kernel_rfl) (fun _ _ _ h => h) (Or.inl ⟨by rfl, by intro w hS; have hc := ((hS.cell (block_lt_of_cell f2)).trans f2); go_simp⟩) hHeld ?_
  try simp only [Act.put, List.setIfInBounds_toArray, List.set_cons_zero, List.set_cons_succ]
  refine wpAnyH_ready (rs := [35]) (by kernel_rfl) (by simp) ?_
  refine (AllReadyH.cons (o := { dst := some 63, op := Op.call { callee := Callee.value (Operand.func 20), args := #[Operand.tmp 62], argTypes := #[71] }, type := 24, pos := "law.go:87", after := #[{ on := 34, ground := Ground.data }, { on := 33, ground := Ground.chain }, { on := 33, ground := Ground.guard }], guard := some (33, false) }) rfl (fun K hK => ?_) AllReadyH.nil)
  go_simp
  go_at_call 20
  refine (un_any _ b _ (cellB hHeld f2)).mono ?_
  rintro e w4 ⟨rfl, rfl⟩
  go_wp2_with fail
  refine hK.out _ _ (hHeld) (fun hHeld2 => ?_)
  clear hK K hHeld
  have hHeld := hHeld2
  clear hHeld2
  try simp only [Act.put, List.setIfInBounds_toArray, List.set_cons_zero, List.set_cons_succ]
  refine wpAnyH_take (i := 40) (oi := { dst := some 68, op := Op.binOp BinOp.neq 24 (Operand.tmp 63) (Operand.tmp 67) 24, type := 4, pos := "law.go:87", after := #[{ on := 35, ground := Ground.data }, { on := 39, ground := Ground.data }, { on := 33, ground := Ground.guard }], guard := some (33, false) }) (v := .bool false) rfl (by kernel_rfl) (by kernel_rfl) (by kernel_rfl) (fun _ _ _ h => h) (Or.inl ⟨by rfl, by intro w hS; go_simp⟩) hHeld ?_
  try simp only [Act.put, List.setIfInBounds_toArray, List.set_cons_zero, List.set_cons_succ]
  refine wpAnyH_take (i := 41) (oi := { dst := some 69, op := Op.pick (Operand.tmp 61) (Operand.const (Value.bool true)) (Operand.tmp 68), type := 4, pos := "law.go:87", after := #[{ on := 33, ground := Ground.data }, { on := 40, ground := Ground.data }], guard := none }) (v := .bool false) rfl (by kernel_rfl) (by kernel_rfl) (by kernel_rfl) (fun _ _ _ h => h) (Or.inl ⟨by rfl, by intro w hS; go_simp⟩) hHeld ?_
  try simp only [Act.put, List.setIfInBounds_toArray, List.set_cons_zero, List.set_cons_succ]
  refine wpAnyH_done (by kernel_rfl) ?_ _
  refine NoPanic.normal ?_
  have HB2 := hid hHeld
  clear hHeld
  have hME := Tryz.methodErrP
  go_wp2_with fail
  refine (ferr_fx _ n (HT.out.later (bel3 HB1.out HB2.out)) A (HS.out.mono HB2.out) b c h0 h1 hc i hi (cellB HB2.out f0) (cellB HB2.out f1) (cellB HB2.out f2)).mono ?_
  rintro _ w5 ⟨rfl, hb5⟩
  replace hb5 := hid hb5
  go_wp2_with fail
  refine (rwhere_any w5 c n h0 h1 hc).mono ?_
  rintro _ w6 ⟨rfl, hb6⟩
  replace hb6 := hid hb6
  have hs := whereB_size c n h0 h1
  have hts := txt_size i hi
  have a1 := strAdd (whereB c n) colon (by rw [show colon.size = 2 from rfl]; omega)
  have a2 := strAdd (whereB c n ++ colon) (txt i) (by rw [ByteArray.size_append, show colon.size = 2 from rfl]; omega)
  have hcol : (⟨#[58, 32]⟩ : ByteArray) = colon := rfl
  go_wp2_with fail
  refine (text_any w6 i hi).mono ?_
  rintro _ _ ⟨rfl, rfl⟩
  rw [show colon = (⟨#[58, 32]⟩ : ByteArray) from rfl] at a1 a2 ⊢
  generalize whereB c n = u at *
  generalize u ++ (⟨#[58, 32]⟩ : ByteArray) = u2 at *
  generalize u2 ++ txt i = u3 at *
  clear hcol hs hts
  go_wp2
  go_ret
  exact ⟨by simp, bel3 (bel3 (bel3 HB1.out HB2.out) hb5.out) hb6.out⟩
end Go.Proofs.YtjpcegjgandnjaaGreatDoor
