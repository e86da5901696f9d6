import Derived.Test.YtbgjnihkiolmlabG27
import Derived.LaidEql
namespace Go.Proofs.Ytbgjnihkiolmlab
set_option linter.unusedVariables false
set_option linter.unusedSimpArgs false
open Go.RowKit
theorem ptr_t : Try.prog.underlying 26 = some (.pointer (Try.prog.pointee 26)) := by kernel_rfl
theorem eqPtrD (d g : Nat) (w : World) : (Op.equalIn (d + 1) 26 (.pointer (some ⟨g, 0, none⟩)) (.pointer (some ⟨g, 0, none⟩))).run Try.prog w = .ok true w := by
  have hs : (sizeOf (Try.prog.pointee 26)).run Try.prog w = .ok 8 w := by kernel_rfl
  simp [Op.equalIn, run_underlying ptr_t, hs, sameAddr]
theorem eqPtrE (g : Nat) (w : World) : (Op.equal 26 (.pointer (some ⟨g, 0, none⟩)) (.pointer (some ⟨g, 0, none⟩))).run Try.prog w = .ok true w := eqPtrD 9999 g w
theorem eqPtr (g : Nat) (w : World) : (binOp .eql 26 (.pointer (some ⟨g, 0, none⟩)) (.pointer (some ⟨g, 0, none⟩))).run Try.prog w = .ok (.bool true) w := by
  simp only [binOp]
  simp [eqPtrE]
theorem nePtrD (d g h : Nat) (w : World) (hne : g ≠ h) (cg ch : Array Value) (tg th : Nat) (hg : w.heap[g]? = some (.cells cg tg (0, 0))) (hh : w.heap[h]? = some (.cells ch th (0, 0))) : (Op.equalIn (d + 1) 26 (.pointer (some ⟨g, 0, none⟩)) (.pointer (some ⟨h, 0, none⟩))).run Try.prog w = .ok false w := by
  have hs : (sizeOf (Try.prog.pointee 26)).run Try.prog w = .ok 8 w := by kernel_rfl
  have hx := run_sameAddr_other (P := Try.prog) w (a := ⟨g, 0, none⟩) (b := ⟨h, 0, none⟩) (by simp [hne]) hg hh
  simp [Op.equalIn, run_underlying ptr_t, hs, hx]
theorem nePtrE (g h : Nat) (w : World) (hne : g ≠ h) (cg ch : Array Value) (tg th : Nat) (hg : w.heap[g]? = some (.cells cg tg (0, 0))) (hh : w.heap[h]? = some (.cells ch th (0, 0))) : (Op.equal 26 (.pointer (some ⟨g, 0, none⟩)) (.pointer (some ⟨h, 0, none⟩))).run Try.prog w = .ok false w := nePtrD 9999 g h w hne cg ch tg th hg hh
theorem nePtr (g h : Nat) (w : World) (hne : g ≠ h) (cg ch : Array Value) (tg th : Nat) (hg : w.heap[g]? = some (.cells cg tg (0, 0))) (hh : w.heap[h]? = some (.cells ch th (0, 0))) : (binOp .eql 26 (.pointer (some ⟨g, 0, none⟩)) (.pointer (some ⟨h, 0, none⟩))).run Try.prog w = .ok (.bool false) w := by
  simp only [binOp]
  simp [nePtrE g h w hne cg ch tg th hg hh]
end Go.Proofs.Ytbgjnihkiolmlab
