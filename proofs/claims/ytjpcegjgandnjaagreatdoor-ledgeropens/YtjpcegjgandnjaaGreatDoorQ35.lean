import Derived.Test.YtjpcegjgandnjaaGreatDoorQ31
import Derived.Test.YtjpcegjgandnjaaGreatDoorQ32
import Derived.Test.YtjpcegjgandnjaaGreatDoorQ33
import Derived.Test.YtjpcegjgandnjaaGreatDoorQ34
import Derived.Stop.LaidErr
import Derived.ProofKit
import Derived.Test.YtjpcegjgandnjaaGreatDoorCards
import Derived.Test.YtjpcegjgandnjaaGreatDoorTie
import Derived.OpenShut
import Derived.ChangeMaps5
import Derived.Lib.LaidTab
import Derived.SizedLaws
import Derived.Lay
import Derived.SevenTiedAt
namespace Go.Proofs.YtjpcegjgandnjaaGreatDoor
set_option linter.unusedVariables false
set_option linter.unusedSimpArgs false
open Go.ChangeShapes Go.WideShapes Go.ChangeAt Go.RowKit

theorem laidMet_drop {P : Program} {w : World} : ∀ (n : Nat) {l : List (String × DataW Unit)}, laidMet P l w → laidMet P (l.drop n) w
  | 0, _, h => h
  | n + 1, [], h => h
  | n + 1, x :: r, h => laidMet_drop n h.tail
/-- A listed error of errors.New's make: the variable's cell, the text behind it, the block's frozen range. -/
theorem laid_err {P : Program} {n nm : String} {text : List UInt8} {r : List (String × DataW Unit)} {W : World} {g : Nat} {ti tp te ts : TypeId} {ms : Array (String × TypeId)} {f : Field}
    (h : laidMet P ((n, .iface nm (.ptr (.agg [.lit (.string text)]))) :: r) W)
    (hg : P.globalNamed n = some g) (ht : (P.globals[g]?).map (·.type) = some ti) (hi : P.underlying ti = some (.interface ms)) (hrow : ∀ u, P.typeName? 3 u = some nm → u = tp)
    (hp : P.underlying tp = some (.pointer te)) (he : P.underlying te = some (.struct #[f])) (hft : f.type = ts) (hfo : f.offset = 0) (hs : P.underlying ts = some .string) (hc : P.cellsOf te = 1) (hcs : P.cellsOf ts = 1) :
    ∃ a : Addr, W.cell? ⟨g, 0, none⟩ = some (.iface tp (.pointer (some a))) ∧ W.cell? a = some (.string ⟨⟨text⟩⟩) ∧ ∃ c t, W.heap[a.block]? = some (.cells c t (0, 0)) := by
  obtain ⟨ps, ⟨g0, t0, cs0, f0, p0, q0, hg0, ht0, hv0, hd0, _, e0⟩, _, hrows⟩ := h
  obtain rfl := Option.some.inj (hg.symm.trans hg0)
  obtain rfl := Option.some.inj (ht.symm.trans ht0)
  subst e0
  obtain ⟨l0⟩ := cs0
  have ok0 : ∀ u v, l0 = [.iface u v] → Value.okWide P W .any 0 u v := fun u v e => by
    subst e
    exact (hrows g 0 (by simp [MemPlace.row])).2 u v (by simpa using World.var?_cell hg0 hv0 0)
  obtain ⟨a0, s0, rfl, hc0, hs0, hz0, rfl⟩ := errorString_of_trod hi hrow hp he hft hfo hs hc hcs hd0 ok0
  obtain ⟨c0, t0, hb0⟩ := (hrows a0.block a0.off (by simp [MemPlace.row])).1
  refine ⟨a0, by simpa using World.var?_cell hg0 hv0 0, ?_, c0, t0, hb0⟩
  obtain ⟨⟨l⟩⟩ := s0
  rw [hc0, ← hs0]
theorem Tryz.star : "*" ++ "errors.errorString" = "*errors.errorString" := by decide
theorem Tryz.rowP (u : TypeId) (h : Tryz.prog.typeName? 3 u = some "*errors.errorString") : u = 335 :=
  typeName_ptr_named (nm := "errors.errorString") (by rw [Tryz.star]; kernel_rfl) (by kernel_rfl) (by decide) u (by rw [Tryz.star]; exact h)
theorem Tryz.cellsEs : Tryz.prog.cellsOf 372 = 1 := by kernel_rfl
theorem Tryz.cells9 : Tryz.prog.cellsOf 9 = 1 := by kernel_rfl
/-- What the rows list of the fixed errors. -/
def senL : List (String × DataW Unit) := [("ledger/ledger.ErrArg", Rows.laid_ledger_ledger_ErrArg), ("ledger/ledger.ErrDown", Rows.laid_ledger_ledger_ErrDown), ("ledger/ledger.ErrStale", Rows.laid_ledger_ledger_ErrStale), ("ledger/ledger.ErrCorrupt", Rows.laid_ledger_ledger_ErrCorrupt), ("ledger/ledger.ErrFull", Rows.laid_ledger_ledger_ErrFull), ("ledger/ledger.ErrForm", Rows.laid_ledger_ledger_ErrForm), ("ledger/ledger.ErrMany", Rows.laid_ledger_ledger_ErrMany), ("ledger/ledger.ErrLong", Rows.laid_ledger_ledger_ErrLong), ("ledger/ledger.ErrDup", Rows.laid_ledger_ledger_ErrDup), ("ledger/ledger.ErrBlank", Rows.laid_ledger_ledger_ErrBlank), ("ledger/ledger.ErrTaken", Rows.laid_ledger_ledger_ErrTaken), ("ledger/ledger.ErrRange", Rows.laid_ledger_ledger_ErrRange), ("ledger/ledger.ErrVersion", Rows.laid_ledger_ledger_ErrVersion), ("ledger/ledger.ErrGone", Rows.laid_ledger_ledger_ErrGone), ("ledger/ledger.ErrKey", Rows.laid_ledger_ledger_ErrKey), ("ledger/ledger.ErrTxn", Rows.laid_ledger_ledger_ErrTxn), ("ledger/ledger.ErrConflict", Rows.laid_ledger_ledger_ErrConflict), ("ledger/ledger.ErrStream", Rows.laid_ledger_ledger_ErrStream), ("ledger/ledger.ErrBase", Rows.laid_ledger_ledger_ErrBase), ("ledger/ledger.ErrMismatch", Rows.laid_ledger_ledger_ErrMismatch)]
set_option maxRecDepth 100000 in
theorem sen_of {W : World} (h : laidMet Tryz.prog senL W) : ∃ A : Nat → Addr, Sen W A := by
  have h1 : ∀ g : Nat, ∃ a : Addr, g < 20 → W.cell? ⟨gS g, 0, none⟩ = some (.iface 335 (.pointer (some a))) ∧ W.cell? a = some (.string (txt g)) ∧ ∃ c t, W.heap[a.block]? = some (.cells c t (0, 0)) := by
    intro g
    by_cases hg : g < 20
    · have : g = 0 ∨ g = 1 ∨ g = 2 ∨ g = 3 ∨ g = 4 ∨ g = 5 ∨ g = 6 ∨ g = 7 ∨ g = 8 ∨ g = 9 ∨ g = 10 ∨ g = 11 ∨ g = 12 ∨ g = 13 ∨ g = 14 ∨ g = 15 ∨ g = 16 ∨ g = 17 ∨ g = 18 ∨ g = 19 := by omega
      rcases this with e | e | e | e | e | e | e | e | e | e | e | e | e | e | e | e | e | e | e | e <;> subst e
      · obtain ⟨a, x, y, z⟩ := laid_err (laidMet_drop 0 h) (show Tryz.prog.globalNamed "ledger/ledger.ErrArg" = some 1 by kernel_rfl) (show (Tryz.prog.globals[1]?).map (·.type) = some 24 by kernel_rfl) Tryz.underlying24 Tryz.rowP Tryz.underlying335 Tryz.underlying372 rfl rfl Tryz.underlying9 Tryz.cellsEs Tryz.cells9
        exact ⟨a, fun _ => ⟨x, y, z⟩⟩
      · obtain ⟨a, x, y, z⟩ := laid_err (laidMet_drop 1 h) (show Tryz.prog.globalNamed "ledger/ledger.ErrDown" = some 2 by kernel_rfl) (show (Tryz.prog.globals[2]?).map (·.type) = some 24 by kernel_rfl) Tryz.underlying24 Tryz.rowP Tryz.underlying335 Tryz.underlying372 rfl rfl Tryz.underlying9 Tryz.cellsEs Tryz.cells9
        exact ⟨a, fun _ => ⟨x, y, z⟩⟩
      · obtain ⟨a, x, y, z⟩ := laid_err (laidMet_drop 2 h) (show Tryz.prog.globalNamed "ledger/ledger.ErrStale" = some 3 by kernel_rfl) (show (Tryz.prog.globals[3]?).map (·.type) = some 24 by kernel_rfl) Tryz.underlying24 Tryz.rowP Tryz.underlying335 Tryz.underlying372 rfl rfl Tryz.underlying9 Tryz.cellsEs Tryz.cells9
        exact ⟨a, fun _ => ⟨x, y, z⟩⟩
      · obtain ⟨a, x, y, z⟩ := laid_err (laidMet_drop 3 h) (show Tryz.prog.globalNamed "ledger/ledger.ErrCorrupt" = some 0 by kernel_rfl) (show (Tryz.prog.globals[0]?).map (·.type) = some 24 by kernel_rfl) Tryz.underlying24 Tryz.rowP Tryz.underlying335 Tryz.underlying372 rfl rfl Tryz.underlying9 Tryz.cellsEs Tryz.cells9
        exact ⟨a, fun _ => ⟨x, y, z⟩⟩
      · obtain ⟨a, x, y, z⟩ := laid_err (laidMet_drop 4 h) (show Tryz.prog.globalNamed "ledger/ledger.ErrFull" = some 4 by kernel_rfl) (show (Tryz.prog.globals[4]?).map (·.type) = some 24 by kernel_rfl) Tryz.underlying24 Tryz.rowP Tryz.underlying335 Tryz.underlying372 rfl rfl Tryz.underlying9 Tryz.cellsEs Tryz.cells9
        exact ⟨a, fun _ => ⟨x, y, z⟩⟩
      · obtain ⟨a, x, y, z⟩ := laid_err (laidMet_drop 5 h) (show Tryz.prog.globalNamed "ledger/ledger.ErrForm" = some 5 by kernel_rfl) (show (Tryz.prog.globals[5]?).map (·.type) = some 24 by kernel_rfl) Tryz.underlying24 Tryz.rowP Tryz.underlying335 Tryz.underlying372 rfl rfl Tryz.underlying9 Tryz.cellsEs Tryz.cells9
        exact ⟨a, fun _ => ⟨x, y, z⟩⟩
      · obtain ⟨a, x, y, z⟩ := laid_err (laidMet_drop 6 h) (show Tryz.prog.globalNamed "ledger/ledger.ErrMany" = some 6 by kernel_rfl) (show (Tryz.prog.globals[6]?).map (·.type) = some 24 by kernel_rfl) Tryz.underlying24 Tryz.rowP Tryz.underlying335 Tryz.underlying372 rfl rfl Tryz.underlying9 Tryz.cellsEs Tryz.cells9
        exact ⟨a, fun _ => ⟨x, y, z⟩⟩
      · obtain ⟨a, x, y, z⟩ := laid_err (laidMet_drop 7 h) (show Tryz.prog.globalNamed "ledger/ledger.ErrLong" = some 7 by kernel_rfl) (show (Tryz.prog.globals[7]?).map (·.type) = some 24 by kernel_rfl) Tryz.underlying24 Tryz.rowP Tryz.underlying335 Tryz.underlying372 rfl rfl Tryz.underlying9 Tryz.cellsEs Tryz.cells9
        exact ⟨a, fun _ => ⟨x, y, z⟩⟩
      · obtain ⟨a, x, y, z⟩ := laid_err (laidMet_drop 8 h) (show Tryz.prog.globalNamed "ledger/ledger.ErrDup" = some 8 by kernel_rfl) (show (Tryz.prog.globals[8]?).map (·.type) = some 24 by kernel_rfl) Tryz.underlying24 Tryz.rowP Tryz.underlying335 Tryz.underlying372 rfl rfl Tryz.underlying9 Tryz.cellsEs Tryz.cells9
        exact ⟨a, fun _ => ⟨x, y, z⟩⟩
      · obtain ⟨a, x, y, z⟩ := laid_err (laidMet_drop 9 h) (show Tryz.prog.globalNamed "ledger/ledger.ErrBlank" = some 9 by kernel_rfl) (show (Tryz.prog.globals[9]?).map (·.type) = some 24 by kernel_rfl) Tryz.underlying24 Tryz.rowP Tryz.underlying335 Tryz.underlying372 rfl rfl Tryz.underlying9 Tryz.cellsEs Tryz.cells9
        exact ⟨a, fun _ => ⟨x, y, z⟩⟩
      · obtain ⟨a, x, y, z⟩ := laid_err (laidMet_drop 10 h) (show Tryz.prog.globalNamed "ledger/ledger.ErrTaken" = some 10 by kernel_rfl) (show (Tryz.prog.globals[10]?).map (·.type) = some 24 by kernel_rfl) Tryz.underlying24 Tryz.rowP Tryz.underlying335 Tryz.underlying372 rfl rfl Tryz.underlying9 Tryz.cellsEs Tryz.cells9
        exact ⟨a, fun _ => ⟨x, y, z⟩⟩
      · obtain ⟨a, x, y, z⟩ := laid_err (laidMet_drop 11 h) (show Tryz.prog.globalNamed "ledger/ledger.ErrRange" = some 11 by kernel_rfl) (show (Tryz.prog.globals[11]?).map (·.type) = some 24 by kernel_rfl) Tryz.underlying24 Tryz.rowP Tryz.underlying335 Tryz.underlying372 rfl rfl Tryz.underlying9 Tryz.cellsEs Tryz.cells9
        exact ⟨a, fun _ => ⟨x, y, z⟩⟩
      · obtain ⟨a, x, y, z⟩ := laid_err (laidMet_drop 12 h) (show Tryz.prog.globalNamed "ledger/ledger.ErrVersion" = some 12 by kernel_rfl) (show (Tryz.prog.globals[12]?).map (·.type) = some 24 by kernel_rfl) Tryz.underlying24 Tryz.rowP Tryz.underlying335 Tryz.underlying372 rfl rfl Tryz.underlying9 Tryz.cellsEs Tryz.cells9
        exact ⟨a, fun _ => ⟨x, y, z⟩⟩
      · obtain ⟨a, x, y, z⟩ := laid_err (laidMet_drop 13 h) (show Tryz.prog.globalNamed "ledger/ledger.ErrGone" = some 13 by kernel_rfl) (show (Tryz.prog.globals[13]?).map (·.type) = some 24 by kernel_rfl) Tryz.underlying24 Tryz.rowP Tryz.underlying335 Tryz.underlying372 rfl rfl Tryz.underlying9 Tryz.cellsEs Tryz.cells9
        exact ⟨a, fun _ => ⟨x, y, z⟩⟩
      · obtain ⟨a, x, y, z⟩ := laid_err (laidMet_drop 14 h) (show Tryz.prog.globalNamed "ledger/ledger.ErrKey" = some 14 by kernel_rfl) (show (Tryz.prog.globals[14]?).map (·.type) = some 24 by kernel_rfl) Tryz.underlying24 Tryz.rowP Tryz.underlying335 Tryz.underlying372 rfl rfl Tryz.underlying9 Tryz.cellsEs Tryz.cells9
        exact ⟨a, fun _ => ⟨x, y, z⟩⟩
      · obtain ⟨a, x, y, z⟩ := laid_err (laidMet_drop 15 h) (show Tryz.prog.globalNamed "ledger/ledger.ErrTxn" = some 15 by kernel_rfl) (show (Tryz.prog.globals[15]?).map (·.type) = some 24 by kernel_rfl) Tryz.underlying24 Tryz.rowP Tryz.underlying335 Tryz.underlying372 rfl rfl Tryz.underlying9 Tryz.cellsEs Tryz.cells9
        exact ⟨a, fun _ => ⟨x, y, z⟩⟩
      · obtain ⟨a, x, y, z⟩ := laid_err (laidMet_drop 16 h) (show Tryz.prog.globalNamed "ledger/ledger.ErrConflict" = some 16 by kernel_rfl) (show (Tryz.prog.globals[16]?).map (·.type) = some 24 by kernel_rfl) Tryz.underlying24 Tryz.rowP Tryz.underlying335 Tryz.underlying372 rfl rfl Tryz.underlying9 Tryz.cellsEs Tryz.cells9
        exact ⟨a, fun _ => ⟨x, y, z⟩⟩
      · obtain ⟨a, x, y, z⟩ := laid_err (laidMet_drop 17 h) (show Tryz.prog.globalNamed "ledger/ledger.ErrStream" = some 17 by kernel_rfl) (show (Tryz.prog.globals[17]?).map (·.type) = some 24 by kernel_rfl) Tryz.underlying24 Tryz.rowP Tryz.underlying335 Tryz.underlying372 rfl rfl Tryz.underlying9 Tryz.cellsEs Tryz.cells9
        exact ⟨a, fun _ => ⟨x, y, z⟩⟩
      · obtain ⟨a, x, y, z⟩ := laid_err (laidMet_drop 18 h) (show Tryz.prog.globalNamed "ledger/ledger.ErrBase" = some 18 by kernel_rfl) (show (Tryz.prog.globals[18]?).map (·.type) = some 24 by kernel_rfl) Tryz.underlying24 Tryz.rowP Tryz.underlying335 Tryz.underlying372 rfl rfl Tryz.underlying9 Tryz.cellsEs Tryz.cells9
        exact ⟨a, fun _ => ⟨x, y, z⟩⟩
      · obtain ⟨a, x, y, z⟩ := laid_err (laidMet_drop 19 h) (show Tryz.prog.globalNamed "ledger/ledger.ErrMismatch" = some 19 by kernel_rfl) (show (Tryz.prog.globals[19]?).map (·.type) = some 24 by kernel_rfl) Tryz.underlying24 Tryz.rowP Tryz.underlying335 Tryz.underlying372 rfl rfl Tryz.underlying9 Tryz.cellsEs Tryz.cells9
        exact ⟨a, fun _ => ⟨x, y, z⟩⟩
    · exact ⟨⟨0, 0, none⟩, fun h => absurd h hg⟩
  obtain ⟨A, hA⟩ := Classical.axiomOfChoice h1
  refine ⟨A, fun g hg => (hA g hg).1, fun g hg => (hA g hg).2.1, fun g hg => (hA g hg).2.2, fun g k hg hk hne e => ?_⟩
  have h2 : txt g = txt k := by
    have e1 := (hA g hg).2.1
    rw [e, (hA k hk).2.1] at e1
    exact (Value.string.inj (Option.some.inj e1)).symm
  have h3 : ∀ i, i < 20 → ∀ j, j < 20 → (txt i).data = (txt j).data → i = j := by decide +kernel
  exact hne (h3 g hg k hk (congrArg ByteArray.data h2))
theorem gF : Tryz.prog.globalNamed "ledger/digest.firstState" = some 20 := by kernel_rfl
theorem gK : Tryz.prog.globalNamed "ledger/digest.roundConstants" = some 21 := by kernel_rfl
theorem gFt : (Tryz.prog.globals[20]?).map (·.type) = some 176 := by kernel_rfl
theorem gKt : (Tryz.prog.globals[21]?).map (·.type) = some 276 := by kernel_rfl
theorem cellsA8 : Tryz.prog.cellsOf 176 = 8 := by kernel_rfl
theorem cellsA64 : Tryz.prog.cellsOf 276 = 64 := by kernel_rfl
theorem cellsU : Tryz.prog.cellsOf 87 = 1 := by kernel_rfl
theorem glob_of {W : World} (hn : 22 ≤ W.heap.size) (hF : Lib.TabIs Tryz.prog W "ledger/digest.firstState" .u32 fTab) (hK : Lib.TabIs Tryz.prog W "ledger/digest.roundConstants" .u32 kTab) : Glob W := by
  have cK : ∀ j, j < 64 → W.cell? ⟨21, j, none⟩ = some (.int .u32 (kTab.getD j 0)) := fun j hj => hK.cell gK j hj
  have cF : ∀ j, j < 8 → W.cell? ⟨20, j, none⟩ = some (.int .u32 (fTab.getD j 0)) := fun j hj => hF.cell gF j hj
  refine ⟨hn, fun j v hv => ?_, fun j v hv => ?_⟩
  · have hj : j < kTab.length := by have := (List.getElem?_eq_some_iff.1 hv).1; rwa [ints_len] at this
    rw [ints_get .u32 kTab j hj] at hv
    rw [Nat.zero_add, ← hv]; exact cK j hj
  · have hj : j < fTab.length := by have := (List.getElem?_eq_some_iff.1 hv).1; rwa [ints_len] at this
    rw [ints_get .u32 fTab j hj] at hv
    rw [Nat.zero_add, ← hv]; exact cF j hj
theorem tab2 {W : World} (h : laidMet Tryz.prog Rows.ledgerOpensRow.laid W) : Glob W := by
  obtain ⟨A, hS⟩ := sen_of (show laidMet Tryz.prog senL W from laidMet_drop 2 h)
  have hF : Lib.TabIs Tryz.prog W "ledger/digest.firstState" .u32 fTab := Lib.tabIs_of_head gF gFt Tryz.underlying176 Tryz.underlying87 cellsU cellsA8 (show laidMet Tryz.prog (("ledger/digest.firstState", Lib.tabData .u32 fTab) :: Rows.ledgerOpensRow.laid.drop 1) W from h)
  have hK : Lib.TabIs Tryz.prog W "ledger/digest.roundConstants" .u32 kTab := Lib.tabIs_of_head gK gKt Tryz.underlying276 Tryz.underlying87 cellsU cellsA64 (show laidMet Tryz.prog (("ledger/digest.roundConstants", Lib.tabData .u32 kTab) :: Rows.ledgerOpensRow.laid.drop 2) W from laidMet_drop 1 h)
  refine glob_of ?_ hF hK
  have h1 : W.cell? ⟨21, 0, none⟩ = some (.int .u32 (kTab.getD 0 0)) := hK.cell gK 0 (by decide)
  have h2 := block_lt_of_cell h1
  simp only at h2
  omega
theorem ledgerOpens_any (w : World) (hG : Glob w) (A : Nat → Addr) (hS : Sen w A) (pages wd room again : Int) :
    Calls Tryz.prog 3 #[.int .i64 pages, .int .i64 wd, .int .i64 room, .int .i64 again] w fun e w' => e = .returned (.bool true) ∧ Below w.heap.size w w' := by
  have hT : TabP 0 w := tabP_small w 0 (by decide)
  by_cases hp : 3 ≤ pages ∧ pages ≤ 4096
  · obtain ⟨n, hn⟩ : ∃ n : Nat, pages = (n : Int) := ⟨pages.toNat, by omega⟩
    by_cases hq : (1 ≤ wd ∧ wd ≤ 32) ∧ (1 ≤ room ∧ room ≤ 4096)
    · exact opens_yy w hG hT A hS pages wd room again n (by omega) (by omega) hn hq
    · exact opens_yn w hG hT A hS pages wd room again n (by omega) (by omega) hn hq
  · by_cases hq : (1 ≤ wd ∧ wd ≤ 32) ∧ (1 ≤ room ∧ room ≤ 4096)
    · exact opens_ny w hG hT A hS pages wd room again 3 (by omega) (by omega) (by omega) rfl hq
    · exact opens_nn w hG hT A hS pages wd room again 3 (by omega) (by omega) (by omega) rfl hq
theorem own_knob : ownKnob Tryz.prog.godebug = none := by kernel_rfl
set_option maxRecDepth 100000 in
theorem ledgerOpens_lifted (os : Os) (started : os.Started) (H : Type) (enc : TypeId × Value → H) :
    ReturnsInHanded {} Tryz.checked os 3 .any (fun w args => (Rows.ledgerOpensSpec.pre enc Tryz.prog Tryz.f3 [] false w args ∧ laidMetH Tryz.prog Rows.ledgerOpensRow.laid w) ∧ sizedMet enc Tryz.prog Tryz.f3 (OpenSpec.ofChange Rows.ledgerOpensSpec) false w args)
      (Rows.ledgerOpensSpec.post enc Tryz.prog Tryz.f3 false true false false) := by
  refine returnsInHanded_of_change_and (C := Tryz.checked) (X := fun w _ => laidMetH Tryz.prog Rows.ledgerOpensRow.laid w) (fun _ _ _ hh h => h.of_heap hh) own_knob started (by kernel_rfl) Tryz.func3
    (ChangeSpec.witness_shaped (enc := enc) (C := Tryz.checked) (os := os) (X := fun w _ => laidMetH Tryz.prog Rows.ledgerOpensRow.laid w) false (World.laidAll Tryz.prog os Rows.ledgerOpensRow.laid) #[.int .i64 0, .int .i64 0, .int .i64 0, .int .i64 0] 8 (World.laidAll_os _ _ _)
      (World.shaped_of_ZipB (by kernel_rfl) (by kernel_rfl)) (by kernel_rfl) (by kernel_rfl) (by kernel_rfl)
      (by rw [MakeChecks.laidMetH_plain _ _ _ (by kernel_rfl)]; exact laidMet_laidAll _ (by kernel_rfl) (by kernel_rfl))) ?_
  intro W base args ds gs before hval0 hW _ hsz hL _
  rw [MakeChecks.laidMetH_plain _ _ _ (by kernel_rfl)] at hL
  obtain ⟨A, hS⟩ := sen_of (show laidMet Tryz.prog senL W from laidMet_drop 2 hL)
  have hG := tab2 hL
  have hval : ∀ (j : Nat) t v, Tryz.f3.params[j]? = some t → args[j]? = some v → Value.okWide Tryz.prog W .any base t v := hval0
  have hW' := hW
  obtain ⟨p, q, hA0, hV, rfl, _, _⟩ := hW
  have hA : DataW.TrodAll enc Tryz.prog W 0 (fun _ => true) true Tryz.f3.params.toList args.toList ds p := hA0
  rw [Tryz.params3] at hA hval
  obtain ⟨v0, v1, v2, v3, d0, d1, d2, d3, p0, p1, p2, p3, rfl, rfl, rfl, h0, h1, h2, h3⟩ := trodAll_four hA
  obtain ⟨a0, rfl, rfl, rfl, w0⟩ := open_int Tryz.underlying3 (hval 0 3 v0 rfl rfl) h0
  obtain ⟨a1, rfl, rfl, rfl, w1⟩ := open_int Tryz.underlying3 (hval 1 3 v1 rfl rfl) h1
  obtain ⟨a2, rfl, rfl, rfl, w2⟩ := open_int Tryz.underlying3 (hval 2 3 v2 rfl rfl) h2
  obtain ⟨a3, rfl, rfl, rfl, w3⟩ := open_int Tryz.underlying3 (hval 3 3 v3 rfl rfl) h3
  obtain ⟨rfl, rfl⟩ := trodVars_none hV
  simp only [List.append_nil] at hW'
  refine (ledgerOpens_any W hG A hS a0 a1 a2 a3).mono fun e W' ⟨he, hb⟩ => ?_
  subst he
  exact ⟨_, rfl, _, _, _, [], _, [], hW', trodAll_mk1 (shut_bool Tryz.underlying4 _), trodAll_mk4 (shut_int Tryz.underlying3 w0) (shut_int Tryz.underlying3 w1) (shut_int Tryz.underlying3 w2) (shut_int Tryz.underlying3 w3), rfl, hb.frame _, fun h => by cases h⟩
theorem ledgerOpens_said : Rows.LedgerOpensSaid :=
  OpenClaim.holds_of_wide 3 Tryz.f3 rfl rfl rfl rfl rfl rfl rfl ⟨rfl, rfl, rfl, rfl, rfl⟩ rfl rfl rfl rfl rfl (by kernel_rfl) Tryz.func3 (by kernel_rfl)
    (of_decide_eq_true (by kernel_rfl)) (by unfold Func.isWrapper; first | (rw [if_pos (by decide +kernel)]; kernel_rfl) | (rw [if_neg (by decide +kernel)]; exact ⟨rfl, rfl⟩))
    (fun os started H enc _ => ledgerOpens_lifted os started H enc)
theorem ledgerOpens_plain (f : FuncId) (fn : Func) (hf : Tryz.pinned.checked.prog.funcNamed "ledger/ledgerlaw16.LedgerOpens" = some f) (hfn : Tryz.pinned.checked.prog.funcs[f]? = some fn) :
    true = Tryz.pinned.checked.prog.looks [] ∧ ∀ (j : Nat) t, fn.params[j]? = some t → Tryz.pinned.checked.prog.wantsStandIn t = false := by
  obtain rfl : f = 3 := Option.some.inj ((show Tryz.prog.funcNamed "ledger/ledgerlaw16.LedgerOpens" = some 3 by kernel_rfl).symm.trans hf) |>.symm
  obtain rfl : fn = Tryz.f3 := (Option.some.inj (Tryz.func3.symm.trans hfn)).symm
  refine ⟨by kernel_rfl, fun j t ht => ?_⟩
  rw [Tryz.params3] at ht
  have hm := Array.mem_of_getElem? ht
  obtain rfl : t = 3 := by simpa using hm
  exact (show Tryz.prog.wantsStandIn 3 = false by kernel_rfl)
theorem ledgerOpens_card : Rows.LedgerOpensCardSaid :=
  Claim7.holds_tied_plain_at .later [] _ _ _ _ ledgerOpens_said (fun _ h => by cases h) (by kernel_rfl) (fun _ h => by cases h) ledgerOpens_row_tie rfl ⟨rfl, rfl⟩ (by kernel_rfl) rfl ledgerOpens_plain (by kernel_rfl)
#print axioms ledgerOpens_card
end Go.Proofs.YtjpcegjgandnjaaGreatDoor
