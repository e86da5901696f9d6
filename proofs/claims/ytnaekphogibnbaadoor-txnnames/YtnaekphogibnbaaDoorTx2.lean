import Derived.Test.YtnaekphogibnbaaDoorTx1
import Derived.Stop.LaidErr
import Derived.ProofKit
namespace Go.Proofs.YtnaekphogibnbaaDoor
set_option linter.unusedVariables false
set_option linter.unusedSimpArgs false
open Go.RowKit Go.ChangeShapes

theorem laidMet_drop {P : Program} {w : World} : ∀ (n : Nat) {l : List (String × DataW Unit)}, laidMet P l w → laidMet P (l.drop n) w
  | 0, _, h => h
  | n + 1, [], h => h
  | n + 1, x :: r, h => laidMet_drop n h.tail
/-- A listed error of errors.New's make: the variable's cell, the text behind it, the block's frozen range. -/
theorem laid_err {P : Program} {n nm : String} {text : List UInt8} {r : List (String × DataW Unit)} {W : World} {g : Nat} {ti tp te ts : TypeId} {ms : Array (String × TypeId)} {f : Field}
    (h : laidMet P ((n, .iface nm (.ptr (.agg [.lit (.string text)]))) :: r) W)
    (hg : P.globalNamed n = some g) (ht : (P.globals[g]?).map (·.type) = some ti) (hi : P.underlying ti = some (.interface ms)) (hrow : ∀ u, P.typeName? 3 u = some nm → u = tp)
    (hp : P.underlying tp = some (.pointer te)) (he : P.underlying te = some (.struct #[f])) (hft : f.type = ts) (hfo : f.offset = 0) (hs : P.underlying ts = some .string) (hc : P.cellsOf te = 1) (hcs : P.cellsOf ts = 1) :
    ∃ a : Addr, W.cell? ⟨g, 0, none⟩ = some (.iface tp (.pointer (some a))) ∧ W.cell? a = some (.string ⟨⟨text⟩⟩) ∧ ∃ c t, W.heap[a.block]? = some (.cells c t (0, 0)) := by
  obtain ⟨ps, ⟨g0, t0, cs0, f0, p0, q0, hg0, ht0, hv0, hd0, _, e0⟩, _, hrows⟩ := h
  obtain rfl := Option.some.inj (hg.symm.trans hg0)
  obtain rfl := Option.some.inj (ht.symm.trans ht0)
  subst e0
  obtain ⟨l0⟩ := cs0
  have ok0 : ∀ u v, l0 = [.iface u v] → Value.okWide P W .any 0 u v := fun u v e => by
    subst e
    exact (hrows g 0 (by simp [MemPlace.row])).2 u v (by simpa using World.var?_cell hg0 hv0 0)
  obtain ⟨a0, s0, rfl, hc0, hs0, hz0, rfl⟩ := errorString_of_trod hi hrow hp he hft hfo hs hc hcs hd0 ok0
  obtain ⟨c0, t0, hb0⟩ := (hrows a0.block a0.off (by simp [MemPlace.row])).1
  refine ⟨a0, by simpa using World.var?_cell hg0 hv0 0, ?_, c0, t0, hb0⟩
  obtain ⟨⟨l⟩⟩ := s0
  rw [hc0, ← hs0]
theorem Tryd.star : "*" ++ "errors.errorString" = "*errors.errorString" := by decide
theorem Tryd.row44 (u : TypeId) (h : Tryd.prog.typeName? 3 u = some "*errors.errorString") : u = 44 :=
  typeName_ptr_named (nm := "errors.errorString") (by rw [Tryd.star]; kernel_rfl) (by kernel_rfl) (by decide) u (by rw [Tryd.star]; exact h)
theorem Tryd.cells70 : Tryd.prog.cellsOf 70 = 1 := by kernel_rfl
theorem Tryd.cells9 : Tryd.prog.cellsOf 9 = 1 := by kernel_rfl
/-- What the rows list of the fixed errors. -/
def senL : List (String × DataW Unit) := [("ledger/ledger.ErrArg", Rows.laid_ledger_ledger_ErrArg), ("ledger/ledger.ErrDown", Rows.laid_ledger_ledger_ErrDown), ("ledger/ledger.ErrStale", Rows.laid_ledger_ledger_ErrStale), ("ledger/ledger.ErrCorrupt", Rows.laid_ledger_ledger_ErrCorrupt), ("ledger/ledger.ErrFull", Rows.laid_ledger_ledger_ErrFull), ("ledger/ledger.ErrForm", Rows.laid_ledger_ledger_ErrForm), ("ledger/ledger.ErrMany", Rows.laid_ledger_ledger_ErrMany), ("ledger/ledger.ErrLong", Rows.laid_ledger_ledger_ErrLong), ("ledger/ledger.ErrDup", Rows.laid_ledger_ledger_ErrDup), ("ledger/ledger.ErrBlank", Rows.laid_ledger_ledger_ErrBlank), ("ledger/ledger.ErrTaken", Rows.laid_ledger_ledger_ErrTaken), ("ledger/ledger.ErrRange", Rows.laid_ledger_ledger_ErrRange), ("ledger/ledger.ErrVersion", Rows.laid_ledger_ledger_ErrVersion), ("ledger/ledger.ErrGone", Rows.laid_ledger_ledger_ErrGone), ("ledger/ledger.ErrKey", Rows.laid_ledger_ledger_ErrKey), ("ledger/ledger.ErrTxn", Rows.laid_ledger_ledger_ErrTxn), ("ledger/ledger.ErrConflict", Rows.laid_ledger_ledger_ErrConflict), ("ledger/ledger.ErrStream", Rows.laid_ledger_ledger_ErrStream), ("ledger/ledger.ErrBase", Rows.laid_ledger_ledger_ErrBase), ("ledger/ledger.ErrMismatch", Rows.laid_ledger_ledger_ErrMismatch)]
theorem sen_of {W : World} (h : laidMet Tryd.prog senL W) : ∃ A : Nat → Addr, Sen W A := by
  have h1 : ∀ g : Nat, ∃ a : Addr, g < 20 → W.cell? ⟨gl g, 0, none⟩ = some (.iface 44 (.pointer (some a))) ∧ W.cell? a = some (.string (txt g)) ∧ ∃ c t, W.heap[a.block]? = some (.cells c t (0, 0)) := by
    intro g
    by_cases hg : g < 20
    · have : g = 0 ∨ g = 1 ∨ g = 2 ∨ g = 3 ∨ g = 4 ∨ g = 5 ∨ g = 6 ∨ g = 7 ∨ g = 8 ∨ g = 9 ∨ g = 10 ∨ g = 11 ∨ g = 12 ∨ g = 13 ∨ g = 14 ∨ g = 15 ∨ g = 16 ∨ g = 17 ∨ g = 18 ∨ g = 19 := by omega
      rcases this with e | e | e | e | e | e | e | e | e | e | e | e | e | e | e | e | e | e | e | e <;> subst e
      · obtain ⟨a, x, y, z⟩ := laid_err (laidMet_drop 0 h) (show Tryd.prog.globalNamed "ledger/ledger.ErrArg" = some 2 by kernel_rfl) (show (Tryd.prog.globals[2]?).map (·.type) = some 25 by kernel_rfl) Tryd.underlying25 Tryd.row44 Tryd.underlying44 Tryd.underlying70 rfl rfl Tryd.underlying9 Tryd.cells70 Tryd.cells9
        exact ⟨a, fun _ => ⟨x, y, z⟩⟩
      · obtain ⟨a, x, y, z⟩ := laid_err (laidMet_drop 1 h) (show Tryd.prog.globalNamed "ledger/ledger.ErrDown" = some 3 by kernel_rfl) (show (Tryd.prog.globals[3]?).map (·.type) = some 25 by kernel_rfl) Tryd.underlying25 Tryd.row44 Tryd.underlying44 Tryd.underlying70 rfl rfl Tryd.underlying9 Tryd.cells70 Tryd.cells9
        exact ⟨a, fun _ => ⟨x, y, z⟩⟩
      · obtain ⟨a, x, y, z⟩ := laid_err (laidMet_drop 2 h) (show Tryd.prog.globalNamed "ledger/ledger.ErrStale" = some 4 by kernel_rfl) (show (Tryd.prog.globals[4]?).map (·.type) = some 25 by kernel_rfl) Tryd.underlying25 Tryd.row44 Tryd.underlying44 Tryd.underlying70 rfl rfl Tryd.underlying9 Tryd.cells70 Tryd.cells9
        exact ⟨a, fun _ => ⟨x, y, z⟩⟩
      · obtain ⟨a, x, y, z⟩ := laid_err (laidMet_drop 3 h) (show Tryd.prog.globalNamed "ledger/ledger.ErrCorrupt" = some 5 by kernel_rfl) (show (Tryd.prog.globals[5]?).map (·.type) = some 25 by kernel_rfl) Tryd.underlying25 Tryd.row44 Tryd.underlying44 Tryd.underlying70 rfl rfl Tryd.underlying9 Tryd.cells70 Tryd.cells9
        exact ⟨a, fun _ => ⟨x, y, z⟩⟩
      · obtain ⟨a, x, y, z⟩ := laid_err (laidMet_drop 4 h) (show Tryd.prog.globalNamed "ledger/ledger.ErrFull" = some 6 by kernel_rfl) (show (Tryd.prog.globals[6]?).map (·.type) = some 25 by kernel_rfl) Tryd.underlying25 Tryd.row44 Tryd.underlying44 Tryd.underlying70 rfl rfl Tryd.underlying9 Tryd.cells70 Tryd.cells9
        exact ⟨a, fun _ => ⟨x, y, z⟩⟩
      · obtain ⟨a, x, y, z⟩ := laid_err (laidMet_drop 5 h) (show Tryd.prog.globalNamed "ledger/ledger.ErrForm" = some 7 by kernel_rfl) (show (Tryd.prog.globals[7]?).map (·.type) = some 25 by kernel_rfl) Tryd.underlying25 Tryd.row44 Tryd.underlying44 Tryd.underlying70 rfl rfl Tryd.underlying9 Tryd.cells70 Tryd.cells9
        exact ⟨a, fun _ => ⟨x, y, z⟩⟩
      · obtain ⟨a, x, y, z⟩ := laid_err (laidMet_drop 6 h) (show Tryd.prog.globalNamed "ledger/ledger.ErrMany" = some 8 by kernel_rfl) (show (Tryd.prog.globals[8]?).map (·.type) = some 25 by kernel_rfl) Tryd.underlying25 Tryd.row44 Tryd.underlying44 Tryd.underlying70 rfl rfl Tryd.underlying9 Tryd.cells70 Tryd.cells9
        exact ⟨a, fun _ => ⟨x, y, z⟩⟩
      · obtain ⟨a, x, y, z⟩ := laid_err (laidMet_drop 7 h) (show Tryd.prog.globalNamed "ledger/ledger.ErrLong" = some 9 by kernel_rfl) (show (Tryd.prog.globals[9]?).map (·.type) = some 25 by kernel_rfl) Tryd.underlying25 Tryd.row44 Tryd.underlying44 Tryd.underlying70 rfl rfl Tryd.underlying9 Tryd.cells70 Tryd.cells9
        exact ⟨a, fun _ => ⟨x, y, z⟩⟩
      · obtain ⟨a, x, y, z⟩ := laid_err (laidMet_drop 8 h) (show Tryd.prog.globalNamed "ledger/ledger.ErrDup" = some 10 by kernel_rfl) (show (Tryd.prog.globals[10]?).map (·.type) = some 25 by kernel_rfl) Tryd.underlying25 Tryd.row44 Tryd.underlying44 Tryd.underlying70 rfl rfl Tryd.underlying9 Tryd.cells70 Tryd.cells9
        exact ⟨a, fun _ => ⟨x, y, z⟩⟩
      · obtain ⟨a, x, y, z⟩ := laid_err (laidMet_drop 9 h) (show Tryd.prog.globalNamed "ledger/ledger.ErrBlank" = some 11 by kernel_rfl) (show (Tryd.prog.globals[11]?).map (·.type) = some 25 by kernel_rfl) Tryd.underlying25 Tryd.row44 Tryd.underlying44 Tryd.underlying70 rfl rfl Tryd.underlying9 Tryd.cells70 Tryd.cells9
        exact ⟨a, fun _ => ⟨x, y, z⟩⟩
      · obtain ⟨a, x, y, z⟩ := laid_err (laidMet_drop 10 h) (show Tryd.prog.globalNamed "ledger/ledger.ErrTaken" = some 12 by kernel_rfl) (show (Tryd.prog.globals[12]?).map (·.type) = some 25 by kernel_rfl) Tryd.underlying25 Tryd.row44 Tryd.underlying44 Tryd.underlying70 rfl rfl Tryd.underlying9 Tryd.cells70 Tryd.cells9
        exact ⟨a, fun _ => ⟨x, y, z⟩⟩
      · obtain ⟨a, x, y, z⟩ := laid_err (laidMet_drop 11 h) (show Tryd.prog.globalNamed "ledger/ledger.ErrRange" = some 13 by kernel_rfl) (show (Tryd.prog.globals[13]?).map (·.type) = some 25 by kernel_rfl) Tryd.underlying25 Tryd.row44 Tryd.underlying44 Tryd.underlying70 rfl rfl Tryd.underlying9 Tryd.cells70 Tryd.cells9
        exact ⟨a, fun _ => ⟨x, y, z⟩⟩
      · obtain ⟨a, x, y, z⟩ := laid_err (laidMet_drop 12 h) (show Tryd.prog.globalNamed "ledger/ledger.ErrVersion" = some 14 by kernel_rfl) (show (Tryd.prog.globals[14]?).map (·.type) = some 25 by kernel_rfl) Tryd.underlying25 Tryd.row44 Tryd.underlying44 Tryd.underlying70 rfl rfl Tryd.underlying9 Tryd.cells70 Tryd.cells9
        exact ⟨a, fun _ => ⟨x, y, z⟩⟩
      · obtain ⟨a, x, y, z⟩ := laid_err (laidMet_drop 13 h) (show Tryd.prog.globalNamed "ledger/ledger.ErrGone" = some 15 by kernel_rfl) (show (Tryd.prog.globals[15]?).map (·.type) = some 25 by kernel_rfl) Tryd.underlying25 Tryd.row44 Tryd.underlying44 Tryd.underlying70 rfl rfl Tryd.underlying9 Tryd.cells70 Tryd.cells9
        exact ⟨a, fun _ => ⟨x, y, z⟩⟩
      · obtain ⟨a, x, y, z⟩ := laid_err (laidMet_drop 14 h) (show Tryd.prog.globalNamed "ledger/ledger.ErrKey" = some 16 by kernel_rfl) (show (Tryd.prog.globals[16]?).map (·.type) = some 25 by kernel_rfl) Tryd.underlying25 Tryd.row44 Tryd.underlying44 Tryd.underlying70 rfl rfl Tryd.underlying9 Tryd.cells70 Tryd.cells9
        exact ⟨a, fun _ => ⟨x, y, z⟩⟩
      · obtain ⟨a, x, y, z⟩ := laid_err (laidMet_drop 15 h) (show Tryd.prog.globalNamed "ledger/ledger.ErrTxn" = some 0 by kernel_rfl) (show (Tryd.prog.globals[0]?).map (·.type) = some 25 by kernel_rfl) Tryd.underlying25 Tryd.row44 Tryd.underlying44 Tryd.underlying70 rfl rfl Tryd.underlying9 Tryd.cells70 Tryd.cells9
        exact ⟨a, fun _ => ⟨x, y, z⟩⟩
      · obtain ⟨a, x, y, z⟩ := laid_err (laidMet_drop 16 h) (show Tryd.prog.globalNamed "ledger/ledger.ErrConflict" = some 1 by kernel_rfl) (show (Tryd.prog.globals[1]?).map (·.type) = some 25 by kernel_rfl) Tryd.underlying25 Tryd.row44 Tryd.underlying44 Tryd.underlying70 rfl rfl Tryd.underlying9 Tryd.cells70 Tryd.cells9
        exact ⟨a, fun _ => ⟨x, y, z⟩⟩
      · obtain ⟨a, x, y, z⟩ := laid_err (laidMet_drop 17 h) (show Tryd.prog.globalNamed "ledger/ledger.ErrStream" = some 17 by kernel_rfl) (show (Tryd.prog.globals[17]?).map (·.type) = some 25 by kernel_rfl) Tryd.underlying25 Tryd.row44 Tryd.underlying44 Tryd.underlying70 rfl rfl Tryd.underlying9 Tryd.cells70 Tryd.cells9
        exact ⟨a, fun _ => ⟨x, y, z⟩⟩
      · obtain ⟨a, x, y, z⟩ := laid_err (laidMet_drop 18 h) (show Tryd.prog.globalNamed "ledger/ledger.ErrBase" = some 18 by kernel_rfl) (show (Tryd.prog.globals[18]?).map (·.type) = some 25 by kernel_rfl) Tryd.underlying25 Tryd.row44 Tryd.underlying44 Tryd.underlying70 rfl rfl Tryd.underlying9 Tryd.cells70 Tryd.cells9
        exact ⟨a, fun _ => ⟨x, y, z⟩⟩
      · obtain ⟨a, x, y, z⟩ := laid_err (laidMet_drop 19 h) (show Tryd.prog.globalNamed "ledger/ledger.ErrMismatch" = some 19 by kernel_rfl) (show (Tryd.prog.globals[19]?).map (·.type) = some 25 by kernel_rfl) Tryd.underlying25 Tryd.row44 Tryd.underlying44 Tryd.underlying70 rfl rfl Tryd.underlying9 Tryd.cells70 Tryd.cells9
        exact ⟨a, fun _ => ⟨x, y, z⟩⟩
    · exact ⟨⟨0, 0, none⟩, fun h => absurd h hg⟩
  obtain ⟨A, hA⟩ := Classical.axiomOfChoice h1
  refine ⟨A, fun g hg => (hA g hg).1, fun g hg => (hA g hg).2.1, fun g hg => (hA g hg).2.2, fun g k hg hk hne e => ?_⟩
  have h2 : txt g = txt k := by
    have e1 := (hA g hg).2.1
    rw [e, (hA k hk).2.1] at e1
    exact (Value.string.inj (Option.some.inj e1)).symm
  have h3 : ∀ i, i < 20 → ∀ j, j < 20 → (txt i).data = (txt j).data → i = j := by decide +kernel
  exact hne (h3 g hg k hk (congrArg ByteArray.data h2))
end Go.Proofs.YtnaekphogibnbaaDoor
