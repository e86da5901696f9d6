/-
  No cell of these rows narrows 'for every input' (looked for: loops, veiled, ifaces, maps, wideKeys, modest, calm, conditions, laid).
  DERIVED. THE GIVEN ROWS OF THIS SEAT. 4 by the template 'for every input the law returns true; each argument reads behind the call as it read before'; 0 by the template 'total and deterministic' (their statements: YthdjgpdgedhonaaTotals.lean).
  GIVEN WITH THE SEED: the statements are not yours to turn. If you find one false, say at which input.
  Laid BY PROGRAM, IN A SANDBOX (cutbox-rows.mjs): the forced cells as the released guide's own fill.sh prints them over the translation 85b1d202da0fc39f… (all of the seat's roots in one cut). By AI agents, Wed Nov 11 2026. No macro, syntax, notation, axiom, sorry.
-/
import Derived.Test.YthdjgpdgedhonaaChecked
import GoSem.Claim
import GoSem.ClaimJoined
import GoSem.ClaimMapViews
import Derived.JoinedTies
import Derived.KernelRfl
namespace Go.Proofs.Ythdjgpdgedhonaa
/- THE CELL 'sum', in the pinned program and in every row, IS THE sha256 OF THE DUMP (.gsa) THAT YthdjgpdgedhonaaProg.lean LOADS. Nothing in Lean hashes anything: it is a label: what it is worth is what the hold of that sum in a sandbox is worth. -/
noncomputable def Try.pinned : Pinned := { name := "ythdjgpdgedhonaa", sum := "85b1d202da0fc39f34e47547004639209653ffd0a0ffeedc1585e43a0f094628", checked := Try.checked }
namespace Rows
def none {H : Type} : Left H := { results := [], args := [] }

/-- 'ledgerlaw20.DeskFrames': WHATEVER THE INPUT: true; the input reads as it did. -/
def deskFramesSpec : ChangeSpec := { name := "deskFrames", fn := fun _ => fun
  | [d] => { results := [.lit (.bool true)], args := [d] }
  | _ => none }
def deskFramesRow : OpenClaim := { program := "ythdjgpdgedhonaa", sum := "85b1d202da0fc39f34e47547004639209653ffd0a0ffeedc1585e43a0f094628", func := "ledger/ledgerlaw20.DeskFrames", spec := "deskFrames", apart := false }
def DeskFramesSaid : Prop := deskFramesRow.holds Try.pinned (OpenSpec.ofChange deskFramesSpec)

/-- ITS FALSE NEIGHBOUR: 'it returns false'. Refute it at one input. -/
def deskFramesWrong : ChangeSpec := { name := "deskFrames", fn := fun _ => fun
  | [d] => { results := [.lit (.bool false)], args := [d] }
  | _ => none }
def DeskFramesWrongFalsely : Prop := deskFramesRow.holds Try.pinned (OpenSpec.ofChange deskFramesWrong)

/-- 'ledgerlaw20.DeskRequests': WHATEVER THE INPUT: true; the input reads as it did. -/
def deskRequestsSpec : ChangeSpec := { name := "deskRequests", fn := fun _ => fun
  | [d] => { results := [.lit (.bool true)], args := [d] }
  | _ => none }
def deskRequestsRow : OpenClaim := { program := "ythdjgpdgedhonaa", sum := "85b1d202da0fc39f34e47547004639209653ffd0a0ffeedc1585e43a0f094628", func := "ledger/ledgerlaw20.DeskRequests", spec := "deskRequests", apart := false }
def DeskRequestsSaid : Prop := deskRequestsRow.holds Try.pinned (OpenSpec.ofChange deskRequestsSpec)

/-- ITS FALSE NEIGHBOUR: 'it returns false'. Refute it at one input. -/
def deskRequestsWrong : ChangeSpec := { name := "deskRequests", fn := fun _ => fun
  | [d] => { results := [.lit (.bool false)], args := [d] }
  | _ => none }
def DeskRequestsWrongFalsely : Prop := deskRequestsRow.holds Try.pinned (OpenSpec.ofChange deskRequestsWrong)

/-- 'ledgerlaw20.DeskTold': WHATEVER THE INPUT: true; the input reads as it did. -/
def deskToldSpec : ChangeSpec := { name := "deskTold", fn := fun _ => fun
  | [d1, d2] => { results := [.lit (.bool true)], args := [d1, d2] }
  | _ => none }
def deskToldRow : OpenClaim := { program := "ythdjgpdgedhonaa", sum := "85b1d202da0fc39f34e47547004639209653ffd0a0ffeedc1585e43a0f094628", func := "ledger/ledgerlaw20.DeskTold", spec := "deskTold", unfollowed := true, recurses := true, apart := false }
def DeskToldSaid : Prop := deskToldRow.holds Try.pinned (OpenSpec.ofChange deskToldSpec)

/-- ITS FALSE NEIGHBOUR: 'it returns false'. Refute it at one input. -/
def deskToldWrong : ChangeSpec := { name := "deskTold", fn := fun _ => fun
  | [d1, d2] => { results := [.lit (.bool false)], args := [d1, d2] }
  | _ => none }
def DeskToldWrongFalsely : Prop := deskToldRow.holds Try.pinned (OpenSpec.ofChange deskToldWrong)

/-- 'ledgerlaw20.DeskReplies': WHATEVER THE INPUT: true; the input reads as it did. -/
def deskRepliesSpec : ChangeSpec := { name := "deskReplies", fn := fun _ => fun
  | [d1, d2] => { results := [.lit (.bool true)], args := [d1, d2] }
  | _ => none }
def deskRepliesRow : OpenClaim := { program := "ythdjgpdgedhonaa", sum := "85b1d202da0fc39f34e47547004639209653ffd0a0ffeedc1585e43a0f094628", func := "ledger/ledgerlaw20.DeskReplies", spec := "deskReplies", unfollowed := true, recurses := true, apart := false }
def DeskRepliesSaid : Prop := deskRepliesRow.holds Try.pinned (OpenSpec.ofChange deskRepliesSpec)

/-- ITS FALSE NEIGHBOUR: 'it returns false'. Refute it at one input. -/
def deskRepliesWrong : ChangeSpec := { name := "deskReplies", fn := fun _ => fun
  | [d1, d2] => { results := [.lit (.bool false)], args := [d1, d2] }
  | _ => none }
def DeskRepliesWrongFalsely : Prop := deskRepliesRow.holds Try.pinned (OpenSpec.ofChange deskRepliesWrong)

/- THE SECOND FORM. 'bulk': how many values and letters a reading holds, each counted each time it is reached (what is shared counts as often as it is met; a slice's spare places count too). A statement '..UptoSaid' is the law's where the arguments, and the package variables that the reading takes, are together of bulk at most 1048576: NARROWER than '..Said'. Prove '..Said' where nothing that the law and all that it calls make is longer than what came in: it says more and counts as full. Else prove '..UptoSaid'. A law counts once. -/
mutual
def uptoBulk {H : Type} : DataW H → Nat
  | .lit (.string bytes) => bytes.length + 1
  | .lit _ => 1
  | .nil => 1
  | .ptr d => uptoBulk d + 1
  | .slice elems spare => uptoBulkAll elems + uptoBulkAll spare + 1
  | .agg parts => uptoBulkAll parts + 1
  | .iface _ d => uptoBulk d + 1
  | .map entries => uptoBulkEntries entries + 1
  | .held _ => 1
def uptoBulkAll {H : Type} : List (DataW H) → Nat
  | [] => 0
  | d :: r => uptoBulk d + uptoBulkAll r
def uptoBulkEntries {H : Type} : List (Lit × DataW H) → Nat
  | [] => 0
  | x :: r => uptoBulkEntry x + uptoBulkEntries r
def uptoBulkEntry {H : Type} : Lit × DataW H → Nat
  | (.string bytes, d) => bytes.length + uptoBulk d + 1
  | (_, d) => uptoBulk d + 1
 end
def uptoSmall : (H : Type) → List (DataW H) → Bool := fun _ ds => decide (uptoBulkAll ds ≤ 1048576)
def OpenSpec.upto (s : _root_.Go.ChangeSpec) : _root_.Go.OpenSpec := { _root_.Go.OpenSpec.ofChange s with cond := some uptoSmall }

/-- 'ledgerlaw20.DeskFrames', WHERE WHAT IT READS IS OF BULK AT MOST 1048576: true; the input reads as it did. -/
def deskFramesUptoRow : OpenClaim := { program := "ythdjgpdgedhonaa", sum := "85b1d202da0fc39f34e47547004639209653ffd0a0ffeedc1585e43a0f094628", func := "ledger/ledgerlaw20.DeskFrames", spec := "deskFrames", apart := false, narrowed := true }
def DeskFramesUptoSaid : Prop := deskFramesUptoRow.holds Try.pinned (OpenSpec.upto deskFramesSpec)

/-- 'ledgerlaw20.DeskRequests', WHERE WHAT IT READS IS OF BULK AT MOST 1048576: true; the input reads as it did. -/
def deskRequestsUptoRow : OpenClaim := { program := "ythdjgpdgedhonaa", sum := "85b1d202da0fc39f34e47547004639209653ffd0a0ffeedc1585e43a0f094628", func := "ledger/ledgerlaw20.DeskRequests", spec := "deskRequests", apart := false, narrowed := true }
def DeskRequestsUptoSaid : Prop := deskRequestsUptoRow.holds Try.pinned (OpenSpec.upto deskRequestsSpec)

/-- 'ledgerlaw20.DeskTold', WHERE WHAT IT READS IS OF BULK AT MOST 1048576: true; the input reads as it did. -/
def deskToldUptoRow : OpenClaim := { program := "ythdjgpdgedhonaa", sum := "85b1d202da0fc39f34e47547004639209653ffd0a0ffeedc1585e43a0f094628", func := "ledger/ledgerlaw20.DeskTold", spec := "deskTold", unfollowed := true, recurses := true, apart := false, narrowed := true }
def DeskToldUptoSaid : Prop := deskToldUptoRow.holds Try.pinned (OpenSpec.upto deskToldSpec)

/-- 'ledgerlaw20.DeskReplies', WHERE WHAT IT READS IS OF BULK AT MOST 1048576: true; the input reads as it did. -/
def deskRepliesUptoRow : OpenClaim := { program := "ythdjgpdgedhonaa", sum := "85b1d202da0fc39f34e47547004639209653ffd0a0ffeedc1585e43a0f094628", func := "ledger/ledgerlaw20.DeskReplies", spec := "deskReplies", unfollowed := true, recurses := true, apart := false, narrowed := true }
def DeskRepliesUptoSaid : Prop := deskRepliesUptoRow.holds Try.pinned (OpenSpec.upto deskRepliesSpec)

end Rows
end Go.Proofs.Ythdjgpdgedhonaa
