import Derived.Test.YtjpcegjgandnjaaGreatDoorQ21
import Derived.Test.YtjpcegjgandnjaaGreatDoorQ24
import Derived.Test.YtjpcegjgandnjaaGreatDoorQ13
import Derived.Test.YtjpcegjgandnjaaGreatDoorQ01
import Derived.LaidEql
import Derived.Stop.Asserts
import Derived.RowKitTokens
import Derived.Handy
namespace Go.Proofs.YtjpcegjgandnjaaGreatDoor
set_option linter.unusedVariables false
set_option linter.unusedSimpArgs false
open Go.RowKit
open Go.Proofs.YtjpcegjgandnjaaGreatDoor.Ca (Ct ct0 ctC argV AS)
attribute [local go_sem ↓] Go.wp_at_zero Go.wp_at_succ

/-- The record that version 0 would have. -/
def recE (k : Int) : Rc := ⟨0, 0, 0, 0, 0, 0, emptyD k 256⟩
theorem recE_ok (k : Int) : RcOk (recE k) := ⟨emptyD_len k 256⟩
theorem built_rcS' (l : List Value) (hl : l.length = 32) : Tryz.prog.built 94 [(6, .agg l.toArray)] = some ([Value.int .i64 0, .int .i64 0, .int .i64 0, .int .i64 0, .int .i64 0, .int .i64 0] ++ l).toArray := by
  obtain ⟨x0, x1, x2, x3, x4, x5, x6, x7, x8, x9, x10, x11, x12, x13, x14, x15, x16, x17, x18, x19, x20, x21, x22, x23, x24, x25, x26, x27, x28, x29, x30, x31, rfl⟩ := list32 hl
  kernel_rfl
theorem built_rcE (k : Int) : Tryz.prog.built 94 [(6, .agg (ints .u8 (emptyD k 256)).toArray)] = some (rcC (recE k)).toArray := built_rcS' _ (by rw [ints_len, emptyD_len])
theorem wpList_fieldS0 {ops : Array Oper} {rest : List Oper} {o : Oper} {a : Act} {w : World} {Q : Exit → Act → World → Prop} (hg : o.guard = none) (x : Operand) (ho : o.op = .field 99 x 0) (s2 : Sup) (y : Int) (hy : s2.wd = y) (hx : a.eval x = .agg (supC s2))
    (h : wpList Tryz.prog ops Q rest (a.put o.dst (.int .i64 y)) w) : wpList Tryz.prog ops Q (o :: rest) a w := by
  refine wpList_plain hg fun K hK => ?_
  unfold Oper.wp
  have e : (execOp a.eval o).run Tryz.prog w = .ok (.value (.int .i64 y)) w := by
    subst hy
    unfold execOp
    simp only [ho, hx]
    kernel_rfl
  rw [e]
  exact hK _ _ h
set_option maxRecDepth 100000 in
set_option maxHeartbeats 2000000 in
theorem iempty_any (w : World) (base : Nat) (S : Sto) (h : SK w base S) (hG : Glob w) :
    Calls Tryz.prog 91 #[.pointer (some ⟨S.st, 0, none⟩)] w fun e w' => e = .returned (.agg (rcC (recE S.s.wd)).toArray) ∧ Below w.heap.size w w' := by
  have hb0 := below_new w (.cells (rcC rc0).toArray 94)
  have hr0 := hnew w (.cells (rcC rc0).toArray 94)
  have KS := hid (oSuper_any _ base S (h.below hb0))
  have KE := hid (fun w1 (hb : Below w.heap.size w w1) => empty_any w1 (hG.below hb hG.1) S.s.wd 256)
  rw [show hgt 256 = 256 from rfl] at KE
  have BE := hid (built_rcE S.s.wd)
  have hN := hid (show (Tryz.prog.info? 94).map (·.size) = some (rcC (recE S.s.wd)).toArray.size by rw [Tryz.sizeRc, List.size_toArray, rcC_len (recE_ok _)])
  have hL := hid (show (rcC rc0).toArray.size = (rcC (recE S.s.wd)).toArray.size by rw [List.size_toArray, List.size_toArray, rcC_len (recE_ok _), rcC_len rc0_ok])
  have hO := hid (all_oneCell_toArray (rcC_one (recE S.s.wd)))
  have AL := hid (fun (w : World) (ops : Array Oper) (rest : List Oper) (o : Oper) (a : Act) (Q : Exit → Act → World → Prop) => @wpList_allocRc w ops rest o a Q)
  generalize (rcC rc0).toArray = C at *
  generalize (rcC (recE S.s.wd)).toArray = CE at *
  generalize emptyD S.s.wd 256 = D at *
  generalize hwd : S.s.wd = wd at *
  have HWD := hid hwd
  clear hwd
  generalize S.s = s at *
  have HR0 := hid hr0
  have HB0 := hid hb0
  clear h hG hb0 hr0
  go_enter Tryz.func91, Tryz.ntmps91
  go_wp2_with (first | refine AL.out _ _ _ _ _ _ rfl rfl ?_)
  refine KS.out.mono ?_
  rintro e w1 ⟨rfl, hb1⟩
  have HB1 := hid (HB0.out.trans (hb1.mono HB0.out.size))
  have R1 := hid ((hb1.block _ (hlt HR0.out)).trans HR0.out)
  clear hb1 KS HR0 HB0
  go_wp2_with (first | refine wpList_fieldS0 rfl _ rfl s wd HWD.out rfl ?_)
  refine (KE.out w1 HB1.out).mono ?_
  rintro e w2 ⟨rfl, hb2⟩
  have HB2 := hid (HB1.out.trans (hb2.mono HB1.out.size))
  have R2 := hid ((hb2.block _ (hlt R1.out)).trans R1.out)
  clear hb2 KE R1 HB1
  have r3 : (w2.setRow w.heap.size CE).heap[w.heap.size]? = _ := setRow_heap w2 _ _ _ _ _ R2.out
  have HB3 := hid (below_setRow HB2.out (Nat.le_refl _) CE)
  have R3 := hid r3
  clear r3
  go_wp2_with (first
    | refine wpList_built (by rfl) 94 _ rfl _ rfl _ BE.out ?_
    | refine wpList_store_row (by rfl) 94 (.tmp 2) (.tmp 7) (by rfl) w.heap.size CE (by rfl) (by rfl) 94 C R2.out hN.out hL.out hO.out ?_)
  exact bodyPost_ret (v := .agg CE) (results_c1 Tryz.results91 _ _ w.heap.size 94 _ _ _ rfl R3.out Tryz.underlying94 rfl hN.out) rfl ⟨rfl, HB3.out⟩
set_option maxHeartbeats 400000 in
theorem Format_width (w : World) (base : Nat) (F : List Nat) (p : Nat) (D : DS) (h : DA w base F p D) (hpw : D.power = true) (wd : Int) (hwd : ¬ (1 ≤ wd ∧ wd ≤ 32)) :
    Calls Tryz.prog 41 #[.pointer (some ⟨p, 0, none⟩), .int .i64 wd] w fun e w' => e = .returned (.int .i64 1) ∧ w = w' := by
  have hpx := Power_any w base F p D h
  rw [hpw] at hpx
  have HPW := hid hpx
  clear hpx h hpw
  by_cases c : wd < 1
  · clear hwd
    go_enter Tryz.func41, Tryz.ntmps41
    go_wp2_with (first | (go_at_call 64; refine HPW.out.mono ?_; rintro e w0 ⟨rfl, rfl⟩))
    go_ret
    exact ⟨rfl, rfl⟩
  · have c2 : 32 < wd := by omega
    clear hwd
    go_enter Tryz.func41, Tryz.ntmps41
    go_wp2_with (first | (go_at_call 64; refine HPW.out.mono ?_; rintro e w0 ⟨rfl, rfl⟩))
    go_ret
    exact ⟨rfl, rfl⟩
set_option maxRecDepth 100000 in
set_option maxHeartbeats 1000000 in
/-- Live, by the store's cells alone. -/
theorem oLive_min (w : World) (base : Nat) (F : List Nat) (st g p : Nat) (s : Sup) (nx ep : Int) (D : DS) (c0 : w.cell? ⟨st, 0, none⟩ = some (.pointer (some ⟨g, 0, none⟩))) (hf : FK w g p s nx ep) (hD : DA w base F p D) :
    Calls Tryz.prog 28 #[.pointer (some ⟨st, 0, none⟩)] w fun e w' => e = .returned (.int .i64 (liveF D ep)) ∧ Below w.heap.size w w' := by
  have HL := hid (Live_any w base F p D hD g s nx ep hf)
  clear hf hD
  generalize liveF D ep = c at *
  go_enter Tryz.func28, Tryz.ntmps28
  go_wp2_with fail
  refine HL.out.mono ?_
  rintro e w1 ⟨rfl, hb⟩
  go_wp2
  go_ret
  exact ⟨rfl, hb⟩
end Go.Proofs.YtjpcegjgandnjaaGreatDoor
namespace Go.Proofs.YtjpcegjgandnjaaGreatDoor
set_option linter.unusedVariables false
set_option linter.unusedSimpArgs false
open Go.RowKit
attribute [local go_sem ↓] Go.wp_at_zero Go.wp_at_succ

/-- The texts of the fixed errors. -/
def txt : Nat → ByteArray
  | 0 => { data := #[97, 32, 110, 117, 109, 98, 101, 114, 32, 116, 104, 97, 116, 32, 109, 97, 121, 32, 110, 111, 116, 32, 98, 101] }
  | 1 => { data := #[116, 104, 101, 32, 100, 105, 115, 107, 32, 104, 97, 115, 32, 110, 111, 32, 112, 111, 119, 101, 114] }
  | 2 => { data := #[111, 108, 100, 101, 114, 32, 116, 104, 97, 110, 32, 116, 104, 101, 32, 108, 97, 115, 116, 32, 99, 114, 97, 115, 104] }
  | 3 => { data := #[116, 104, 101, 32, 100, 105, 115, 107, 32, 105, 115, 32, 99, 111, 114, 114, 117, 112, 116] }
  | 4 => { data := #[110, 111, 32, 112, 97, 103, 101, 32, 105, 115, 32, 108, 101, 102, 116] }
  | 5 => { data := #[110, 111, 32, 98, 97, 116, 99, 104] }
  | 6 => { data := #[116, 111, 111, 32, 109, 97, 110, 121, 32, 99, 104, 97, 110, 103, 101, 115] }
  | 7 => { data := #[97, 32, 118, 97, 108, 117, 101, 32, 116, 111, 111, 32, 108, 111, 110, 103] }
  | 8 => { data := #[111, 110, 101, 32, 107, 101, 121, 32, 116, 119, 105, 99, 101] }
  | 9 => { data := #[110, 111, 116, 104, 105, 110, 103, 32, 105, 115, 32, 108, 97, 105, 100, 32, 104, 101, 114, 101] }
  | 10 => { data := #[116, 104, 101, 114, 101, 32, 105, 115, 32, 115, 111, 109, 101, 116, 104, 105, 110, 103, 32, 97, 108, 114, 101, 97, 100, 121] }
  | 11 => { data := #[116, 104, 101, 32, 108, 111, 119, 32, 101, 110, 100, 32, 108, 105, 101, 115, 32, 97, 98, 111, 118, 101, 32, 116, 104, 101, 32, 104, 105, 103, 104, 32, 101, 110, 100] }
  | 12 => { data := #[110, 111, 32, 115, 117, 99, 104, 32, 118, 101, 114, 115, 105, 111, 110, 32, 121, 101, 116] }
  | 13 => { data := #[97, 32, 118, 101, 114, 115, 105, 111, 110, 32, 98, 101, 108, 111, 119, 32, 116, 104, 101, 32, 102, 105, 114, 115, 116] }
  | 14 => { data := #[110, 111, 116, 32, 97, 32, 107, 101, 121, 39, 115, 32, 98, 121, 116, 101, 115] }
  | 15 => { data := #[110, 111, 32, 115, 117, 99, 104, 32, 116, 114, 97, 110, 115, 97, 99, 116, 105, 111, 110] }
  | 16 => { data := #[119, 104, 97, 116, 32, 119, 97, 115, 32, 114, 101, 97, 100, 32, 104, 97, 115, 32, 99, 104, 97, 110, 103, 101, 100] }
  | 17 => { data := #[110, 111, 32, 115, 116, 114, 101, 97, 109] }
  | 18 => { data := #[116, 104, 101, 32, 115, 116, 114, 101, 97, 109, 32, 98, 101, 103, 105, 110, 115, 32, 101, 108, 115, 101, 119, 104, 101, 114, 101] }
  | 19 => { data := #[97, 110, 111, 116, 104, 101, 114, 32, 114, 111, 111, 116, 32, 116, 104, 97, 110, 32, 116, 104, 101, 32, 115, 116, 114, 101, 97, 109, 32, 115, 97, 121, 115] }
  | _ => { data := #[] }
/-- Their numbers. -/
def nos : Nat → Int
  | 0 => 1
  | 1 => 2
  | 2 => 3
  | 3 => 4
  | 4 => 5
  | 5 => 30
  | 6 => 31
  | 7 => 32
  | 8 => 33
  | 9 => 55
  | 10 => 60
  | 11 => 110
  | 12 => 151
  | 13 => 152
  | 14 => 160
  | 15 => 180
  | 16 => 181
  | 17 => 190
  | 18 => 191
  | 19 => 192
  | _ => 0
/-- The value of a fixed error. -/
def erV (A : Nat → Addr) (g : Nat) : Value := .iface 335 (.pointer (some (A g)))
/-- Where a fixed error's variable lies. -/
def gS : Nat → Nat
  | 0 => 1
  | 1 => 2
  | 2 => 3
  | 3 => 0
  | 4 => 4
  | 5 => 5
  | 6 => 6
  | 7 => 7
  | 8 => 8
  | 9 => 9
  | 10 => 10
  | 11 => 11
  | 12 => 12
  | 13 => 13
  | 14 => 14
  | 15 => 15
  | 16 => 16
  | 17 => 17
  | 18 => 18
  | 19 => 19
  | _ => 0
/-- The fixed errors in memory. -/
structure Sen (w : World) (A : Nat → Addr) : Prop where
  cell : ∀ g, g < 20 → w.cell? ⟨gS g, 0, none⟩ = some (erV A g)
  text : ∀ g, g < 20 → w.cell? (A g) = some (.string (txt g))
  blk : ∀ g, g < 20 → ∃ c t, w.heap[(A g).block]? = some (.cells c t (0, 0))
  ne : ∀ g h, g < 20 → h < 20 → g ≠ h → A g ≠ A h
theorem Sen.mono {w w' : World} {A : Nat → Addr} (h : Sen w A) (hb : Below w.heap.size w w') : Sen w' A := by
  have hold : ∀ (a : Addr) v, w.cell? a = some v → w'.cell? a = some v := fun a v e => by
    rw [← e]; exact hb.cell (block_lt_of_cell e)
  exact ⟨fun g hg => hold _ _ (h.cell g hg), fun g hg => hold _ _ (h.text g hg), fun g hg => by
    obtain ⟨c, t, e⟩ := h.blk g hg
    exact ⟨c, t, by rw [← e]; exact hb.block _ (by rcases Nat.lt_or_ge (A g).block w.heap.size with h1 | h1; exact h1; simp [Array.getElem?_eq_none h1] at e)⟩, h.ne⟩
/-- The cells of the list. -/
def lst (A : Nat → Addr) : Array Value := #[.int .i64 1, .iface 335 (.pointer (some (A 0))), .int .i64 2, .iface 335 (.pointer (some (A 1))), .int .i64 3, .iface 335 (.pointer (some (A 2))), .int .i64 4, .iface 335 (.pointer (some (A 3))), .int .i64 5, .iface 335 (.pointer (some (A 4))), .int .i64 30, .iface 335 (.pointer (some (A 5))), .int .i64 31, .iface 335 (.pointer (some (A 6))), .int .i64 32, .iface 335 (.pointer (some (A 7))), .int .i64 33, .iface 335 (.pointer (some (A 8))), .int .i64 55, .iface 335 (.pointer (some (A 9))), .int .i64 60, .iface 335 (.pointer (some (A 10))), .int .i64 110, .iface 335 (.pointer (some (A 11))), .int .i64 151, .iface 335 (.pointer (some (A 12))), .int .i64 152, .iface 335 (.pointer (some (A 13))), .int .i64 160, .iface 335 (.pointer (some (A 14))), .int .i64 180, .iface 335 (.pointer (some (A 15))), .int .i64 181, .iface 335 (.pointer (some (A 16))), .int .i64 190, .iface 335 (.pointer (some (A 17))), .int .i64 191, .iface 335 (.pointer (some (A 18))), .int .i64 192, .iface 335 (.pointer (some (A 19)))]
theorem lst_no (A : Nat → Addr) : ∀ i, i < 20 → (lst A)[2 * i]? = some (.int .i64 (nos i)) := by
  intro i hi
  have : i = 0 ∨ i = 1 ∨ i = 2 ∨ i = 3 ∨ i = 4 ∨ i = 5 ∨ i = 6 ∨ i = 7 ∨ i = 8 ∨ i = 9 ∨ i = 10 ∨ i = 11 ∨ i = 12 ∨ i = 13 ∨ i = 14 ∨ i = 15 ∨ i = 16 ∨ i = 17 ∨ i = 18 ∨ i = 19 := by omega
  rcases this with h | h | h | h | h | h | h | h | h | h | h | h | h | h | h | h | h | h | h | h <;> subst h <;> rfl
theorem lst_er (A : Nat → Addr) : ∀ i, i < 20 → (lst A)[2 * i + 1]? = some (erV A i) := by
  intro i hi
  have : i = 0 ∨ i = 1 ∨ i = 2 ∨ i = 3 ∨ i = 4 ∨ i = 5 ∨ i = 6 ∨ i = 7 ∨ i = 8 ∨ i = 9 ∨ i = 10 ∨ i = 11 ∨ i = 12 ∨ i = 13 ∨ i = 14 ∨ i = 15 ∨ i = 16 ∨ i = 17 ∨ i = 18 ∨ i = 19 := by omega
  rcases this with h | h | h | h | h | h | h | h | h | h | h | h | h | h | h | h | h | h | h | h <;> subst h <;> rfl
set_option maxRecDepth 100000 in
set_option maxHeartbeats 2000000 in
theorem list_any (w : World) (A : Nat → Addr) (hS : Sen w A) : Calls Tryz.prog 42 #[] w fun e w' => e = .returned (.slice (some ⟨w.heap.size, 0, none⟩) 20 20) ∧ w' = w.alloc (.cells (lst A) 119) := by
  have c0 : w.cell? ⟨1, 0, none⟩ = some (.iface 335 (.pointer (some (A 0)))) := hS.cell 0 (by decide)
  have c1 : w.cell? ⟨2, 0, none⟩ = some (.iface 335 (.pointer (some (A 1)))) := hS.cell 1 (by decide)
  have c2 : w.cell? ⟨3, 0, none⟩ = some (.iface 335 (.pointer (some (A 2)))) := hS.cell 2 (by decide)
  have c3 : w.cell? ⟨0, 0, none⟩ = some (.iface 335 (.pointer (some (A 3)))) := hS.cell 3 (by decide)
  have c4 : w.cell? ⟨4, 0, none⟩ = some (.iface 335 (.pointer (some (A 4)))) := hS.cell 4 (by decide)
  have c5 : w.cell? ⟨5, 0, none⟩ = some (.iface 335 (.pointer (some (A 5)))) := hS.cell 5 (by decide)
  have c6 : w.cell? ⟨6, 0, none⟩ = some (.iface 335 (.pointer (some (A 6)))) := hS.cell 6 (by decide)
  have c7 : w.cell? ⟨7, 0, none⟩ = some (.iface 335 (.pointer (some (A 7)))) := hS.cell 7 (by decide)
  have c8 : w.cell? ⟨8, 0, none⟩ = some (.iface 335 (.pointer (some (A 8)))) := hS.cell 8 (by decide)
  have c9 : w.cell? ⟨9, 0, none⟩ = some (.iface 335 (.pointer (some (A 9)))) := hS.cell 9 (by decide)
  have c10 : w.cell? ⟨10, 0, none⟩ = some (.iface 335 (.pointer (some (A 10)))) := hS.cell 10 (by decide)
  have c11 : w.cell? ⟨11, 0, none⟩ = some (.iface 335 (.pointer (some (A 11)))) := hS.cell 11 (by decide)
  have c12 : w.cell? ⟨12, 0, none⟩ = some (.iface 335 (.pointer (some (A 12)))) := hS.cell 12 (by decide)
  have c13 : w.cell? ⟨13, 0, none⟩ = some (.iface 335 (.pointer (some (A 13)))) := hS.cell 13 (by decide)
  have c14 : w.cell? ⟨14, 0, none⟩ = some (.iface 335 (.pointer (some (A 14)))) := hS.cell 14 (by decide)
  have c15 : w.cell? ⟨15, 0, none⟩ = some (.iface 335 (.pointer (some (A 15)))) := hS.cell 15 (by decide)
  have c16 : w.cell? ⟨16, 0, none⟩ = some (.iface 335 (.pointer (some (A 16)))) := hS.cell 16 (by decide)
  have c17 : w.cell? ⟨17, 0, none⟩ = some (.iface 335 (.pointer (some (A 17)))) := hS.cell 17 (by decide)
  have c18 : w.cell? ⟨18, 0, none⟩ = some (.iface 335 (.pointer (some (A 18)))) := hS.cell 18 (by decide)
  have c19 : w.cell? ⟨19, 0, none⟩ = some (.iface 335 (.pointer (some (A 19)))) := hS.cell 19 (by decide)
  clear hS
  unfold lst
  generalize A 0 = a0 at *
  generalize A 1 = a1 at *
  generalize A 2 = a2 at *
  generalize A 3 = a3 at *
  generalize A 4 = a4 at *
  generalize A 5 = a5 at *
  generalize A 6 = a6 at *
  generalize A 7 = a7 at *
  generalize A 8 = a8 at *
  generalize A 9 = a9 at *
  generalize A 10 = a10 at *
  generalize A 11 = a11 at *
  generalize A 12 = a12 at *
  generalize A 13 = a13 at *
  generalize A 14 = a14 at *
  generalize A 15 = a15 at *
  generalize A 16 = a16 at *
  generalize A 17 = a17 at *
  generalize A 18 = a18 at *
  generalize A 19 = a19 at *
  clear A
  go_enter Tryz.func42, Tryz.ntmps42
  go_wp2
  go_ret
  exact ⟨rfl, rfl⟩
set_option maxRecDepth 100000 in
set_option maxHeartbeats 2000000 in
theorem text_0 (w : World) : Calls Tryz.prog 22 #[.int .i64 1] w fun e w' => e = .returned (.string (txt 0)) ∧ w' = w := by
  go_enter Tryz.func22, Tryz.ntmps22
  go_wp2
  go_ret
  exact ⟨rfl, rfl⟩
set_option maxRecDepth 100000 in
set_option maxHeartbeats 2000000 in
theorem text_1 (w : World) : Calls Tryz.prog 22 #[.int .i64 2] w fun e w' => e = .returned (.string (txt 1)) ∧ w' = w := by
  go_enter Tryz.func22, Tryz.ntmps22
  go_wp2
  go_ret
  exact ⟨rfl, rfl⟩
set_option maxRecDepth 100000 in
set_option maxHeartbeats 2000000 in
theorem text_2 (w : World) : Calls Tryz.prog 22 #[.int .i64 3] w fun e w' => e = .returned (.string (txt 2)) ∧ w' = w := by
  go_enter Tryz.func22, Tryz.ntmps22
  go_wp2
  go_ret
  exact ⟨rfl, rfl⟩
set_option maxRecDepth 100000 in
set_option maxHeartbeats 2000000 in
theorem text_3 (w : World) : Calls Tryz.prog 22 #[.int .i64 4] w fun e w' => e = .returned (.string (txt 3)) ∧ w' = w := by
  go_enter Tryz.func22, Tryz.ntmps22
  go_wp2
  go_ret
  exact ⟨rfl, rfl⟩
set_option maxRecDepth 100000 in
set_option maxHeartbeats 2000000 in
theorem text_4 (w : World) : Calls Tryz.prog 22 #[.int .i64 5] w fun e w' => e = .returned (.string (txt 4)) ∧ w' = w := by
  go_enter Tryz.func22, Tryz.ntmps22
  go_wp2
  go_ret
  exact ⟨rfl, rfl⟩
set_option maxRecDepth 100000 in
set_option maxHeartbeats 2000000 in
theorem text_5 (w : World) : Calls Tryz.prog 22 #[.int .i64 30] w fun e w' => e = .returned (.string (txt 5)) ∧ w' = w := by
  go_enter Tryz.func22, Tryz.ntmps22
  go_wp2
  go_ret
  exact ⟨rfl, rfl⟩
set_option maxRecDepth 100000 in
set_option maxHeartbeats 2000000 in
theorem text_6 (w : World) : Calls Tryz.prog 22 #[.int .i64 31] w fun e w' => e = .returned (.string (txt 6)) ∧ w' = w := by
  go_enter Tryz.func22, Tryz.ntmps22
  go_wp2
  go_ret
  exact ⟨rfl, rfl⟩
set_option maxRecDepth 100000 in
set_option maxHeartbeats 2000000 in
theorem text_7 (w : World) : Calls Tryz.prog 22 #[.int .i64 32] w fun e w' => e = .returned (.string (txt 7)) ∧ w' = w := by
  go_enter Tryz.func22, Tryz.ntmps22
  go_wp2
  go_ret
  exact ⟨rfl, rfl⟩
set_option maxRecDepth 100000 in
set_option maxHeartbeats 2000000 in
theorem text_8 (w : World) : Calls Tryz.prog 22 #[.int .i64 33] w fun e w' => e = .returned (.string (txt 8)) ∧ w' = w := by
  go_enter Tryz.func22, Tryz.ntmps22
  go_wp2
  go_ret
  exact ⟨rfl, rfl⟩
set_option maxRecDepth 100000 in
set_option maxHeartbeats 2000000 in
theorem text_9 (w : World) : Calls Tryz.prog 22 #[.int .i64 55] w fun e w' => e = .returned (.string (txt 9)) ∧ w' = w := by
  go_enter Tryz.func22, Tryz.ntmps22
  go_wp2
  go_ret
  exact ⟨rfl, rfl⟩
set_option maxRecDepth 100000 in
set_option maxHeartbeats 2000000 in
theorem text_10 (w : World) : Calls Tryz.prog 22 #[.int .i64 60] w fun e w' => e = .returned (.string (txt 10)) ∧ w' = w := by
  go_enter Tryz.func22, Tryz.ntmps22
  go_wp2
  go_ret
  exact ⟨rfl, rfl⟩
set_option maxRecDepth 100000 in
set_option maxHeartbeats 2000000 in
theorem text_11 (w : World) : Calls Tryz.prog 22 #[.int .i64 110] w fun e w' => e = .returned (.string (txt 11)) ∧ w' = w := by
  go_enter Tryz.func22, Tryz.ntmps22
  go_wp2
  go_ret
  exact ⟨rfl, rfl⟩
set_option maxRecDepth 100000 in
set_option maxHeartbeats 2000000 in
theorem text_12 (w : World) : Calls Tryz.prog 22 #[.int .i64 151] w fun e w' => e = .returned (.string (txt 12)) ∧ w' = w := by
  go_enter Tryz.func22, Tryz.ntmps22
  go_wp2
  go_ret
  exact ⟨rfl, rfl⟩
set_option maxRecDepth 100000 in
set_option maxHeartbeats 2000000 in
theorem text_13 (w : World) : Calls Tryz.prog 22 #[.int .i64 152] w fun e w' => e = .returned (.string (txt 13)) ∧ w' = w := by
  go_enter Tryz.func22, Tryz.ntmps22
  go_wp2
  go_ret
  exact ⟨rfl, rfl⟩
set_option maxRecDepth 100000 in
set_option maxHeartbeats 2000000 in
theorem text_14 (w : World) : Calls Tryz.prog 22 #[.int .i64 160] w fun e w' => e = .returned (.string (txt 14)) ∧ w' = w := by
  go_enter Tryz.func22, Tryz.ntmps22
  go_wp2
  go_ret
  exact ⟨rfl, rfl⟩
set_option maxRecDepth 100000 in
set_option maxHeartbeats 2000000 in
theorem text_15 (w : World) : Calls Tryz.prog 22 #[.int .i64 180] w fun e w' => e = .returned (.string (txt 15)) ∧ w' = w := by
  go_enter Tryz.func22, Tryz.ntmps22
  go_wp2
  go_ret
  exact ⟨rfl, rfl⟩
set_option maxRecDepth 100000 in
set_option maxHeartbeats 2000000 in
theorem text_16 (w : World) : Calls Tryz.prog 22 #[.int .i64 181] w fun e w' => e = .returned (.string (txt 16)) ∧ w' = w := by
  go_enter Tryz.func22, Tryz.ntmps22
  go_wp2
  go_ret
  exact ⟨rfl, rfl⟩
set_option maxRecDepth 100000 in
set_option maxHeartbeats 2000000 in
theorem text_17 (w : World) : Calls Tryz.prog 22 #[.int .i64 190] w fun e w' => e = .returned (.string (txt 17)) ∧ w' = w := by
  go_enter Tryz.func22, Tryz.ntmps22
  go_wp2
  go_ret
  exact ⟨rfl, rfl⟩
set_option maxRecDepth 100000 in
set_option maxHeartbeats 2000000 in
theorem text_18 (w : World) : Calls Tryz.prog 22 #[.int .i64 191] w fun e w' => e = .returned (.string (txt 18)) ∧ w' = w := by
  go_enter Tryz.func22, Tryz.ntmps22
  go_wp2
  go_ret
  exact ⟨rfl, rfl⟩
set_option maxRecDepth 100000 in
set_option maxHeartbeats 2000000 in
theorem text_19 (w : World) : Calls Tryz.prog 22 #[.int .i64 192] w fun e w' => e = .returned (.string (txt 19)) ∧ w' = w := by
  go_enter Tryz.func22, Tryz.ntmps22
  go_wp2
  go_ret
  exact ⟨rfl, rfl⟩
theorem text_any (w : World) (i : Nat) (hi : i < 20) : Calls Tryz.prog 22 #[.int .i64 (nos i)] w fun e w' => e = .returned (.string (txt i)) ∧ w' = w := by
  have : i = 0 ∨ i = 1 ∨ i = 2 ∨ i = 3 ∨ i = 4 ∨ i = 5 ∨ i = 6 ∨ i = 7 ∨ i = 8 ∨ i = 9 ∨ i = 10 ∨ i = 11 ∨ i = 12 ∨ i = 13 ∨ i = 14 ∨ i = 15 ∨ i = 16 ∨ i = 17 ∨ i = 18 ∨ i = 19 := by omega
  rcases this with h | h | h | h | h | h | h | h | h | h | h | h | h | h | h | h | h | h | h | h <;> subst h
  · exact text_0 w
  · exact text_1 w
  · exact text_2 w
  · exact text_3 w
  · exact text_4 w
  · exact text_5 w
  · exact text_6 w
  · exact text_7 w
  · exact text_8 w
  · exact text_9 w
  · exact text_10 w
  · exact text_11 w
  · exact text_12 w
  · exact text_13 w
  · exact text_14 w
  · exact text_15 w
  · exact text_16 w
  · exact text_17 w
  · exact text_18 w
  · exact text_19 w
set_option maxRecDepth 100000 in
set_option maxHeartbeats 2000000 in
theorem error_any (w : World) (a : Addr) (s : ByteArray) (h : w.cell? a = some (.string s)) : Calls Tryz.prog 265 #[.pointer (some a)] w fun e w' => e = .returned (.string s) ∧ w' = w := by
  obtain ⟨b, o, v⟩ := a
  go_enter Tryz.func265, Tryz.ntmps265
  go_wp2
  go_ret
  exact ⟨rfl, rfl⟩
theorem Tryz.comp335 : (Tryz.prog.info? 335).map (·.comparable) = some true := by kernel_rfl
theorem Tryz.size372 : (Tryz.prog.info? 372).map (·.size) = some 1 := by kernel_rfl
theorem nil_other {P : Program} {w : World} {ti tp : TypeId} {v : Value} {ms : Array (String × TypeId)} (hi : P.underlying ti = some (.interface ms)) : (binOp .eql ti (.iface tp v) .nilIface).run P w = .ok (.bool false) w := by
  have h : ∀ d : Nat, (Op.equalIn (d + 1) ti (.iface tp v) .nilIface).run P w = .ok false w := fun d => by simp [Op.equalIn, run_underlying hi]
  simp only [binOp]
  simp [Op.equal, Op.maxDepth, h 9999]
theorem Tryz.methodErr (v : Value) (w : World) : (Go.method 483 335 v "Error").run Tryz.prog w = .ok (265, v) w := by kernel_rfl
theorem er_ne (w : World) (A : Nat → Addr) (hS : Sen w A) (i j : Nat) (hi : i < 20) (hj : j < 20) (h : i ≠ j) : (binOp .eql 24 (.iface 335 (.pointer (some (A i)))) (.iface 335 (.pointer (some (A j))))).run Tryz.prog w = .ok (.bool false) w := by
  obtain ⟨k, hk, hcmp⟩ := Option.map_eq_some_iff.1 Tryz.comp335
  obtain ⟨q, hq, hqs⟩ := Option.map_eq_some_iff.1 Tryz.size372
  obtain ⟨c, t, hb⟩ := hS.blk i hi
  obtain ⟨c', t', hb'⟩ := hS.blk j hj
  exact run_eql_iface_ptr_other (P := Tryz.prog) w Tryz.underlying24 Tryz.underlying335 hk hcmp hq (by rw [hqs]; decide) (hS.ne i j hi hj h) hb hb'
theorem er_same (w : World) (a : Addr) : (binOp .eql 24 (.iface 335 (.pointer (some a))) (.iface 335 (.pointer (some a)))).run Tryz.prog w = .ok (.bool true) w := by
  obtain ⟨k, hk, hcmp⟩ := Option.map_eq_some_iff.1 Tryz.comp335
  obtain ⟨q, hq, hqs⟩ := Option.map_eq_some_iff.1 Tryz.size372
  exact run_eql_iface_ptr_same (P := Tryz.prog) w a Tryz.underlying24 Tryz.underlying335 hk hcmp hq
end Go.Proofs.YtjpcegjgandnjaaGreatDoor
namespace Go.Proofs.YtjpcegjgandnjaaGreatDoor
set_option linter.unusedVariables false
set_option linter.unusedSimpArgs false
open Go.RowKit Go.Extern.Stop Go.Stop Go.Extern
attribute [local go_sem ↓] Go.wp_at_zero Go.wp_at_succ

theorem Tryz.isTypeOf (v : Value) (w : World) : (Extern.ReflectliteType.typeOf #[.iface 335 v]).run Tryz.prog w = .ok (.iface 214 (.agg #[.pointer (some ⟨25, 335, none⟩)])) w := by kernel_rfl
theorem Tryz.isMethodComparable (v : Value) (w : World) : (Go.method 483 214 v "Comparable").run Tryz.prog w = .ok (250, v) w := by kernel_rfl
theorem Tryz.mUnwP (v : Value) (w : World) : (Go.method 483 71 v "Unwrap").run Tryz.prog w = .ok (20, v) w := by kernel_rfl
theorem Tryz.noIsE (v : Value) (xT : TypeId) (w : World) : (Instr.typeAssert (.iface 335 v) xT 216 true).run Tryz.prog w = .ok (.tuple #[.nilIface, .bool false]) w := run_typeAssert_lacksB Tryz.underlying216 (by kernel_rfl) (by kernel_rfl) v xT w
theorem Tryz.noUE (v : Value) (xT : TypeId) (w : World) : (Instr.typeAssert (.iface 335 v) xT 219 true).run Tryz.prog w = .ok (.tuple #[.nilIface, .bool false]) w := run_typeAssert_lacksB Tryz.underlying219 (by kernel_rfl) (by kernel_rfl) v xT w
theorem Tryz.noUsE (v : Value) (xT : TypeId) (w : World) : (Instr.typeAssert (.iface 335 v) xT 220 true).run Tryz.prog w = .ok (.tuple #[.nilIface, .bool false]) w := run_typeAssert_lacksB Tryz.underlying220 (by kernel_rfl) (by kernel_rfl) v xT w
theorem Tryz.noIsP (v : Value) (xT : TypeId) (w : World) : (Instr.typeAssert (.iface 71 v) xT 216 true).run Tryz.prog w = .ok (.tuple #[.nilIface, .bool false]) w := run_typeAssert_lacksB Tryz.underlying216 (by kernel_rfl) (by kernel_rfl) v xT w
theorem Tryz.hasUP (v : Value) (xT : TypeId) (w : World) : (Instr.typeAssert (.iface 71 v) xT 219 true).run Tryz.prog w = .ok (.tuple #[.iface 71 v, .bool true]) w := run_typeAssert_hasB Tryz.underlying219 (by kernel_rfl) v xT w
set_option maxRecDepth 100000 in
theorem un_any (w : World) (b : Nat) (v : Value) (h : w.cell? ⟨b, 2, none⟩ = some v) : Calls Tryz.prog 20 #[.pointer (some ⟨b, 0, none⟩)] w fun e w' => e = .returned v ∧ w' = w := by
  go_enter Tryz.func20, Tryz.ntmps20
  go_wp2
  go_ret
  exact ⟨rfl, rfl⟩
set_option maxRecDepth 100000 in
theorem er_types (w : World) (t : TypeId) (v : Value) (a : Addr) (h : (t == 335) = false) : (binOp .eql 24 (.iface t v) (.iface 335 (.pointer (some a)))).run Tryz.prog w = .ok (.bool false) w :=
  run_eql_iface_types (P := Tryz.prog) t 335 v (.pointer (some a)) Tryz.underlying24 (by simpa using h) w
set_option maxRecDepth 100000 in
set_option maxHeartbeats 2000000 in
theorem is_fa1 (w : World) (A : Nat → Addr) (hS : Sen w A) (i g : Nat) (hi : i < 20) (hg : g < 20) (b1 : Nat) (h1 : w.cell? ⟨b1, 2, none⟩ = some (.iface 335 (.pointer (some (A i))))) :
    Calls Tryz.prog 70 #[.iface 71 (.pointer (some ⟨b1, 0, none⟩)), .iface 335 (.pointer (some (A g))), .bool true] w fun e w' => e = .returned (.bool (i == g)) ∧ Below w.heap.size w w' := by
  have nE := Tryz.noIsE
  have uE := Tryz.noUE
  have vE := Tryz.noUsE
  have nP := Tryz.noIsP
  have uP := Tryz.hasUP
  have mP := Tryz.mUnwP
  have tP := fun w v a => er_types w 71 v a (by decide)
  have hN : ∀ (t : TypeId) (v : Value) (w : World), (binOp .eql 24 (.iface t v) .nilIface).run Tryz.prog w = .ok (.bool false) w := fun t v w => nil_other Tryz.underlying24
  have h1o : ∀ o, (w.alloc o).cell? ⟨b1, 2, none⟩ = some (.iface 335 (.pointer (some (A i)))) := fun o => (World.cell?_of_block (w := w) (Below.heap_alloc w o b1 (block_lt_of_cell h1))).trans h1
  by_cases e : i = g
  · subst e
    have heq := er_same w (A i)
    have hb : (i == i) = true := by simp
    rw [hb]
    generalize A i = a at *
    go_enter Tryz.func70, Tryz.ntmps70
    go_wp2
    refine wp_loop_rounds 2 ?_
    rw [rounds_succ]
    go_wp2
    rw [rounds_succ]
    go_wp2
    go_ret
    exact ⟨rfl, Below.refl _ _⟩
  · have heq := er_ne w A hS i g hi hg e
    have hb : (i == g) = false := by simpa using e
    rw [hb]
    generalize A i = a at *
    generalize A g = c at *
    go_enter Tryz.func70, Tryz.ntmps70
    go_wp2
    refine wp_loop_rounds 2 ?_
    rw [rounds_succ]
    go_wp2
    rw [rounds_succ]
    go_wp2
    go_ret
    exact ⟨rfl, Below.refl _ _⟩
/-- What '(internal/reflectlite.rtype).Comparable' is in the model. -/
def cmpFn : Array Value → Sem Value := Extern.ReflectliteType.method fun t => do Extern.Rtype.noPackHeld "Comparable" t; pure (.bool (← typeInfo t).comparable)
theorem Tryz.isComparable (w : World) : (cmpFn #[.agg #[.pointer (some ⟨25, 335, none⟩)]]).run Tryz.prog w = .ok (.bool true) w := by kernel_rfl
/-- errors.is finds in v just the fixed errors of p, in this world and whatever is grown out of it. -/
def IsP (w : World) (A : Nat → Addr) (v : Value) (p : Nat → Bool) : Prop :=
  ∀ w', Below w.heap.size w w' → ∀ g, g < 20 → Calls Tryz.prog 70 #[v, .iface 335 (.pointer (some (A g))), .bool true] w' fun e w'' => e = .returned (.bool (p g)) ∧ Below w'.heap.size w' w''
theorem cellB {w w' : World} (hb : Below w.heap.size w w') {a : Addr} {v : Value} (h : w.cell? a = some v) : w'.cell? a = some v := by
  rw [← h]; exact hb.cell (block_lt_of_cell h)
theorem isP_fa1 {w : World} {A : Nat → Addr} (hS : Sen w A) (b : Nat) {i : Nat} (hi : i < 20) (h : w.cell? ⟨b, 2, none⟩ = some (.iface 335 (.pointer (some (A i))))) : IsP w A (.iface 71 (.pointer (some ⟨b, 0, none⟩))) (fun g => i == g) :=
  fun w' hb g hg => is_fa1 w' A (hS.mono hb) i g hi hg b (cellB hb h)
theorem nil_neq {P : Program} {w : World} {ti tp : TypeId} {v : Value} {ms : Array (String × TypeId)} (hi : P.underlying ti = some (.interface ms)) : (binOp .neq ti (.iface tp v) .nilIface).run P w = .ok (.bool true) w := by
  have h : ∀ d : Nat, (Op.equalIn (d + 1) ti (.iface tp v) .nilIface).run P w = .ok false w := fun d => by simp [Op.equalIn, run_underlying hi]
  simp only [binOp]
  simp [Op.equal, Op.maxDepth, h 9999]
set_option maxRecDepth 100000 in
set_option maxHeartbeats 2000000 in
theorem fixed_0 (w : World) (a : Addr) (hc : w.cell? ⟨1, 0, none⟩ = some (.iface 335 (.pointer (some a)))) : Calls Tryz.prog 36 #[.int .i64 1] w fun e w' => e = .returned (.iface 335 (.pointer (some a))) ∧ w' = w := by
  go_enter Tryz.func36, Tryz.ntmps36
  go_wp2
  go_ret
  exact ⟨rfl, rfl⟩
set_option maxRecDepth 100000 in
set_option maxHeartbeats 2000000 in
theorem fixed_1 (w : World) (a : Addr) (hc : w.cell? ⟨2, 0, none⟩ = some (.iface 335 (.pointer (some a)))) : Calls Tryz.prog 36 #[.int .i64 2] w fun e w' => e = .returned (.iface 335 (.pointer (some a))) ∧ w' = w := by
  go_enter Tryz.func36, Tryz.ntmps36
  go_wp2
  go_ret
  exact ⟨rfl, rfl⟩
set_option maxRecDepth 100000 in
set_option maxHeartbeats 2000000 in
theorem fixed_2 (w : World) (a : Addr) (hc : w.cell? ⟨3, 0, none⟩ = some (.iface 335 (.pointer (some a)))) : Calls Tryz.prog 36 #[.int .i64 3] w fun e w' => e = .returned (.iface 335 (.pointer (some a))) ∧ w' = w := by
  go_enter Tryz.func36, Tryz.ntmps36
  go_wp2
  go_ret
  exact ⟨rfl, rfl⟩
set_option maxRecDepth 100000 in
set_option maxHeartbeats 2000000 in
theorem fixed_3 (w : World) (a : Addr) (hc : w.cell? ⟨0, 0, none⟩ = some (.iface 335 (.pointer (some a)))) : Calls Tryz.prog 36 #[.int .i64 4] w fun e w' => e = .returned (.iface 335 (.pointer (some a))) ∧ w' = w := by
  go_enter Tryz.func36, Tryz.ntmps36
  go_wp2
  go_ret
  exact ⟨rfl, rfl⟩
set_option maxRecDepth 100000 in
set_option maxHeartbeats 2000000 in
theorem fixed_4 (w : World) (a : Addr) (hc : w.cell? ⟨4, 0, none⟩ = some (.iface 335 (.pointer (some a)))) : Calls Tryz.prog 36 #[.int .i64 5] w fun e w' => e = .returned (.iface 335 (.pointer (some a))) ∧ w' = w := by
  go_enter Tryz.func36, Tryz.ntmps36
  go_wp2
  go_ret
  exact ⟨rfl, rfl⟩
set_option maxRecDepth 100000 in
set_option maxHeartbeats 2000000 in
theorem fixed_5 (w : World) (a : Addr) (hc : w.cell? ⟨5, 0, none⟩ = some (.iface 335 (.pointer (some a)))) : Calls Tryz.prog 36 #[.int .i64 30] w fun e w' => e = .returned (.iface 335 (.pointer (some a))) ∧ w' = w := by
  go_enter Tryz.func36, Tryz.ntmps36
  go_wp2
  go_ret
  exact ⟨rfl, rfl⟩
set_option maxRecDepth 100000 in
set_option maxHeartbeats 2000000 in
theorem fixed_6 (w : World) (a : Addr) (hc : w.cell? ⟨6, 0, none⟩ = some (.iface 335 (.pointer (some a)))) : Calls Tryz.prog 36 #[.int .i64 31] w fun e w' => e = .returned (.iface 335 (.pointer (some a))) ∧ w' = w := by
  go_enter Tryz.func36, Tryz.ntmps36
  go_wp2
  go_ret
  exact ⟨rfl, rfl⟩
set_option maxRecDepth 100000 in
set_option maxHeartbeats 2000000 in
theorem fixed_7 (w : World) (a : Addr) (hc : w.cell? ⟨7, 0, none⟩ = some (.iface 335 (.pointer (some a)))) : Calls Tryz.prog 36 #[.int .i64 32] w fun e w' => e = .returned (.iface 335 (.pointer (some a))) ∧ w' = w := by
  go_enter Tryz.func36, Tryz.ntmps36
  go_wp2
  go_ret
  exact ⟨rfl, rfl⟩
set_option maxRecDepth 100000 in
set_option maxHeartbeats 2000000 in
theorem fixed_8 (w : World) (a : Addr) (hc : w.cell? ⟨8, 0, none⟩ = some (.iface 335 (.pointer (some a)))) : Calls Tryz.prog 36 #[.int .i64 33] w fun e w' => e = .returned (.iface 335 (.pointer (some a))) ∧ w' = w := by
  go_enter Tryz.func36, Tryz.ntmps36
  go_wp2
  go_ret
  exact ⟨rfl, rfl⟩
set_option maxRecDepth 100000 in
set_option maxHeartbeats 2000000 in
theorem fixed_9 (w : World) (a : Addr) (hc : w.cell? ⟨9, 0, none⟩ = some (.iface 335 (.pointer (some a)))) : Calls Tryz.prog 36 #[.int .i64 55] w fun e w' => e = .returned (.iface 335 (.pointer (some a))) ∧ w' = w := by
  go_enter Tryz.func36, Tryz.ntmps36
  go_wp2
  go_ret
  exact ⟨rfl, rfl⟩
set_option maxRecDepth 100000 in
set_option maxHeartbeats 2000000 in
theorem fixed_10 (w : World) (a : Addr) (hc : w.cell? ⟨10, 0, none⟩ = some (.iface 335 (.pointer (some a)))) : Calls Tryz.prog 36 #[.int .i64 60] w fun e w' => e = .returned (.iface 335 (.pointer (some a))) ∧ w' = w := by
  go_enter Tryz.func36, Tryz.ntmps36
  go_wp2
  go_ret
  exact ⟨rfl, rfl⟩
set_option maxRecDepth 100000 in
set_option maxHeartbeats 2000000 in
theorem fixed_11 (w : World) (a : Addr) (hc : w.cell? ⟨11, 0, none⟩ = some (.iface 335 (.pointer (some a)))) : Calls Tryz.prog 36 #[.int .i64 110] w fun e w' => e = .returned (.iface 335 (.pointer (some a))) ∧ w' = w := by
  go_enter Tryz.func36, Tryz.ntmps36
  go_wp2
  go_ret
  exact ⟨rfl, rfl⟩
set_option maxRecDepth 100000 in
set_option maxHeartbeats 2000000 in
theorem fixed_12 (w : World) (a : Addr) (hc : w.cell? ⟨12, 0, none⟩ = some (.iface 335 (.pointer (some a)))) : Calls Tryz.prog 36 #[.int .i64 151] w fun e w' => e = .returned (.iface 335 (.pointer (some a))) ∧ w' = w := by
  go_enter Tryz.func36, Tryz.ntmps36
  go_wp2
  go_ret
  exact ⟨rfl, rfl⟩
set_option maxRecDepth 100000 in
set_option maxHeartbeats 2000000 in
theorem fixed_13 (w : World) (a : Addr) (hc : w.cell? ⟨13, 0, none⟩ = some (.iface 335 (.pointer (some a)))) : Calls Tryz.prog 36 #[.int .i64 152] w fun e w' => e = .returned (.iface 335 (.pointer (some a))) ∧ w' = w := by
  go_enter Tryz.func36, Tryz.ntmps36
  go_wp2
  go_ret
  exact ⟨rfl, rfl⟩
set_option maxRecDepth 100000 in
set_option maxHeartbeats 2000000 in
theorem fixed_14 (w : World) (a : Addr) (hc : w.cell? ⟨14, 0, none⟩ = some (.iface 335 (.pointer (some a)))) : Calls Tryz.prog 36 #[.int .i64 160] w fun e w' => e = .returned (.iface 335 (.pointer (some a))) ∧ w' = w := by
  go_enter Tryz.func36, Tryz.ntmps36
  go_wp2
  go_ret
  exact ⟨rfl, rfl⟩
set_option maxRecDepth 100000 in
set_option maxHeartbeats 2000000 in
theorem fixed_15 (w : World) (a : Addr) (hc : w.cell? ⟨15, 0, none⟩ = some (.iface 335 (.pointer (some a)))) : Calls Tryz.prog 36 #[.int .i64 180] w fun e w' => e = .returned (.iface 335 (.pointer (some a))) ∧ w' = w := by
  go_enter Tryz.func36, Tryz.ntmps36
  go_wp2
  go_ret
  exact ⟨rfl, rfl⟩
set_option maxRecDepth 100000 in
set_option maxHeartbeats 2000000 in
theorem fixed_16 (w : World) (a : Addr) (hc : w.cell? ⟨16, 0, none⟩ = some (.iface 335 (.pointer (some a)))) : Calls Tryz.prog 36 #[.int .i64 181] w fun e w' => e = .returned (.iface 335 (.pointer (some a))) ∧ w' = w := by
  go_enter Tryz.func36, Tryz.ntmps36
  go_wp2
  go_ret
  exact ⟨rfl, rfl⟩
set_option maxRecDepth 100000 in
set_option maxHeartbeats 2000000 in
theorem fixed_17 (w : World) (a : Addr) (hc : w.cell? ⟨17, 0, none⟩ = some (.iface 335 (.pointer (some a)))) : Calls Tryz.prog 36 #[.int .i64 190] w fun e w' => e = .returned (.iface 335 (.pointer (some a))) ∧ w' = w := by
  go_enter Tryz.func36, Tryz.ntmps36
  go_wp2
  go_ret
  exact ⟨rfl, rfl⟩
set_option maxRecDepth 100000 in
set_option maxHeartbeats 2000000 in
theorem fixed_18 (w : World) (a : Addr) (hc : w.cell? ⟨18, 0, none⟩ = some (.iface 335 (.pointer (some a)))) : Calls Tryz.prog 36 #[.int .i64 191] w fun e w' => e = .returned (.iface 335 (.pointer (some a))) ∧ w' = w := by
  go_enter Tryz.func36, Tryz.ntmps36
  go_wp2
  go_ret
  exact ⟨rfl, rfl⟩
set_option maxRecDepth 100000 in
set_option maxHeartbeats 2000000 in
theorem fixed_19 (w : World) (a : Addr) (hc : w.cell? ⟨19, 0, none⟩ = some (.iface 335 (.pointer (some a)))) : Calls Tryz.prog 36 #[.int .i64 192] w fun e w' => e = .returned (.iface 335 (.pointer (some a))) ∧ w' = w := by
  go_enter Tryz.func36, Tryz.ntmps36
  go_wp2
  go_ret
  exact ⟨rfl, rfl⟩
theorem fixed_at (w : World) (A : Nat → Addr) (hS : Sen w A) (i : Nat) (hi : i < 20) : Calls Tryz.prog 36 #[.int .i64 (nos i)] w fun e w' => e = .returned (.iface 335 (.pointer (some (A i)))) ∧ w' = w := by
  have hc := hS.cell i hi
  have : i = 0 ∨ i = 1 ∨ i = 2 ∨ i = 3 ∨ i = 4 ∨ i = 5 ∨ i = 6 ∨ i = 7 ∨ i = 8 ∨ i = 9 ∨ i = 10 ∨ i = 11 ∨ i = 12 ∨ i = 13 ∨ i = 14 ∨ i = 15 ∨ i = 16 ∨ i = 17 ∨ i = 18 ∨ i = 19 := by omega
  rcases this with h | h | h | h | h | h | h | h | h | h | h | h | h | h | h | h | h | h | h | h <;> subst h
  · exact fixed_0 w _ hc
  · exact fixed_1 w _ hc
  · exact fixed_2 w _ hc
  · exact fixed_3 w _ hc
  · exact fixed_4 w _ hc
  · exact fixed_5 w _ hc
  · exact fixed_6 w _ hc
  · exact fixed_7 w _ hc
  · exact fixed_8 w _ hc
  · exact fixed_9 w _ hc
  · exact fixed_10 w _ hc
  · exact fixed_11 w _ hc
  · exact fixed_12 w _ hc
  · exact fixed_13 w _ hc
  · exact fixed_14 w _ hc
  · exact fixed_15 w _ hc
  · exact fixed_16 w _ hc
  · exact fixed_17 w _ hc
  · exact fixed_18 w _ hc
  · exact fixed_19 w _ hc
set_option maxRecDepth 100000 in
set_option maxHeartbeats 2000000 in
theorem Is_any (w : World) (t : TypeId) (x : Value) (a : Addr) (r : Bool) (h : Calls Tryz.prog 70 #[.iface t x, .iface 335 (.pointer (some a)), .bool true] w fun e w' => e = .returned (.bool r) ∧ Below w.heap.size w w') :
    Calls Tryz.prog 43 #[.iface t x, .iface 335 (.pointer (some a))] w fun e w' => e = .returned (.bool r) ∧ Below w.heap.size w w' := by
  have h24 := @run_callFunc_extern Tryz.prog 69 _ Extern.ReflectliteType.typeOf Tryz.func69 (by kernel_rfl) (by kernel_rfl) (by kernel_rfl) (by kernel_rfl)
  have h62 := @run_callFunc_extern Tryz.prog 250 _ cmpFn Tryz.func250 (by kernel_rfl) (by kernel_rfl) (by kernel_rfl) (by kernel_rfl)
  have tT := Tryz.isTypeOf
  have cT := Tryz.isComparable
  have mR := Tryz.isMethodComparable
  have hN : ∀ (t : TypeId) (v : Value) (w : World), (binOp .eql 24 (.iface t v) .nilIface).run Tryz.prog w = .ok (.bool false) w := fun t v w => nil_other Tryz.underlying24
  replace h := hid h
  go_enter Tryz.func43, Tryz.ntmps43
  go_wp2_with fail
  refine h.out.mono ?_
  rintro e w' ⟨rfl, hQ⟩
  go_wp2
  go_ret
  exact ⟨rfl, hQ⟩
/-- The number that Code tells of an error in which errors.Is finds the fixed errors of p. -/
def CodeIs (p : Nat → Bool) (c : Int) : Prop := (∃ g, g < 20 ∧ p g = true ∧ (∀ h, h < g → p h = false) ∧ c = nos g) ∨ ((∀ g, g < 20 → p g = false) ∧ c = -1)
theorem nos_lt : ∀ g, g < 20 → ∀ h, h < 20 → (nos h < nos g ↔ h < g) := by decide +kernel
theorem nos_lo : ∀ g, g < 20 → 1 ≤ nos g ∧ nos g ≤ 192 := by decide +kernel
theorem nos_inj {g h : Nat} (hg : g < 20) (hh : h < 20) (e : nos g = nos h) : g = h := by
  have a := nos_lt g hg h hh
  have b := nos_lt h hh g hg
  omega
set_option maxRecDepth 100000 in
set_option maxHeartbeats 4000000 in
theorem wrap_at (w : World) (A : Nat → Addr) (hS : Sen w A) (c : ByteArray) (at_ : Int) (i : Nat) (hi : i < 20) :
    Calls Tryz.prog 13 #[.string c, .int .i64 at_, .int .i64 (nos i)] w fun e w' => e = .returned (.iface 71 (.pointer (some ⟨w.heap.size, 0, none⟩))) ∧ w' = w.alloc (.cells #[.string c, .int .i64 at_, .iface 335 (.pointer (some (A i)))] 76) := by
  have hN : ∀ (t : TypeId) (v : Value) (w : World), (binOp .eql 24 (.iface t v) .nilIface).run Tryz.prog w = .ok (.bool false) w := fun t v w => nil_other Tryz.underlying24
  have h0 : (nos i == 0) = false := by have := (nos_lo i hi).1; simp; omega
  have F := hid (fixed_at w A hS i hi)
  generalize nos i = n at *
  generalize A i = a at *
  go_enter Tryz.func13, Tryz.ntmps13
  go_wp2_with fail
  refine F.out.mono ?_
  rintro _ _ ⟨rfl, rfl⟩
  go_wp2
  go_ret
  exact ⟨rfl, rfl⟩
theorem bel3 {a b c : World} (h1 : Below a.heap.size a b) (h2 : Below b.heap.size b c) : Below a.heap.size a c := h1.trans (h2.mono h1.size)
theorem bel1 (w : World) (o : Obj) : Below w.heap.size w (w.alloc o) := (Below.refl _ _).alloc (Nat.le_refl _) _
theorem Tryz.assertFault (a : Addr) (w : World) : (Instr.typeAssert (.iface 71 (.pointer (some a))) 24 71 true).run Tryz.prog w = .ok (.tuple #[.pointer (some a), .bool true]) w := by kernel_rfl
theorem er_same_neq (a : Addr) (w : World) : (binOp .neq 24 (.iface 335 (.pointer (some a))) (.iface 335 (.pointer (some a)))).run Tryz.prog w = .ok (.bool false) w := by
  obtain ⟨k, hk, hcmp⟩ := Option.map_eq_some_iff.1 Tryz.comp335
  obtain ⟨q, hq, hqs⟩ := Option.map_eq_some_iff.1 Tryz.size372
  simp only [binOp]
  simp [Op.equal, Op.maxDepth, run_equalIn_iface_ptr_same w 9998 a Tryz.underlying24 Tryz.underlying335 hk hcmp hq]
theorem codeIs_one {i : Nat} (hi : i < 20) : CodeIs (fun g => i == g) (nos i) := Or.inl ⟨i, hi, by simp, fun h hh => by simp; omega, rfl⟩
end Go.Proofs.YtjpcegjgandnjaaGreatDoor
