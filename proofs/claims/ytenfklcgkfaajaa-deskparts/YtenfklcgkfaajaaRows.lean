/-
  No cell of these rows narrows 'for every input' (looked for: loops, veiled, ifaces, maps, wideKeys, modest, calm, conditions, laid).
  DERIVED. THE GIVEN ROWS OF THIS SEAT. 3 by the template 'for every input the law returns true; each argument reads behind the call as it read before'; 0 by the template 'total and deterministic' (their statements: YtenfklcgkfaajaaTotals.lean).
  GIVEN WITH THE SEED: the statements are not yours to turn. If you find one false, say at which input.
  Laid BY PROGRAM, IN A SANDBOX (cutbox-rows.mjs): the forced cells as the released guide's own fill.sh prints them over the translation 13cd4c7d9f05aaf5… (all of the seat's roots in one cut). By AI agents, Wed Nov 11 2026. No macro, syntax, notation, axiom, sorry.
-/
import Derived.Test.YtenfklcgkfaajaaChecked
import GoSem.Claim
import GoSem.ClaimJoined
import GoSem.ClaimMapViews
import Derived.JoinedTies
import Derived.KernelRfl
namespace Go.Proofs.Ytenfklcgkfaajaa
/- THE CELL 'sum', in the pinned program and in every row, IS THE sha256 OF THE DUMP (.gsa) THAT YtenfklcgkfaajaaProg.lean LOADS. Nothing in Lean hashes anything: it is a label: what it is worth is what the hold of that sum in a sandbox is worth. -/
noncomputable def Try.pinned : Pinned := { name := "ytenfklcgkfaajaa", sum := "13cd4c7d9f05aaf5f48f559d2c7d988c1b22fc9beebc88b0369e2e099314af1e", checked := Try.checked }
namespace Rows
def none {H : Type} : Left H := { results := [], args := [] }

/-- 'ledgerlaw20.DeskParts': WHATEVER THE INPUT: true; the input reads as it did. -/
def deskPartsSpec : ChangeSpec := { name := "deskParts", fn := fun _ => fun
  | [d1, d2] => { results := [.lit (.bool true)], args := [d1, d2] }
  | _ => none }
def deskPartsRow : OpenClaim := { program := "ytenfklcgkfaajaa", sum := "13cd4c7d9f05aaf5f48f559d2c7d988c1b22fc9beebc88b0369e2e099314af1e", func := "ledger/ledgerlaw20.DeskParts", spec := "deskParts", apart := false }
def DeskPartsSaid : Prop := deskPartsRow.holds Try.pinned (OpenSpec.ofChange deskPartsSpec)

/-- ITS FALSE NEIGHBOUR: 'it returns false'. Refute it at one input. -/
def deskPartsWrong : ChangeSpec := { name := "deskParts", fn := fun _ => fun
  | [d1, d2] => { results := [.lit (.bool false)], args := [d1, d2] }
  | _ => none }
def DeskPartsWrongFalsely : Prop := deskPartsRow.holds Try.pinned (OpenSpec.ofChange deskPartsWrong)

/-- 'ledgerlaw20.DeskAgain': WHATEVER THE INPUT: true; the input reads as it did. -/
def deskAgainSpec : ChangeSpec := { name := "deskAgain", fn := fun _ => fun
  | [d] => { results := [.lit (.bool true)], args := [d] }
  | _ => none }
def deskAgainRow : OpenClaim := { program := "ytenfklcgkfaajaa", sum := "13cd4c7d9f05aaf5f48f559d2c7d988c1b22fc9beebc88b0369e2e099314af1e", func := "ledger/ledgerlaw20.DeskAgain", spec := "deskAgain", apart := false }
def DeskAgainSaid : Prop := deskAgainRow.holds Try.pinned (OpenSpec.ofChange deskAgainSpec)

/-- ITS FALSE NEIGHBOUR: 'it returns false'. Refute it at one input. -/
def deskAgainWrong : ChangeSpec := { name := "deskAgain", fn := fun _ => fun
  | [d] => { results := [.lit (.bool false)], args := [d] }
  | _ => none }
def DeskAgainWrongFalsely : Prop := deskAgainRow.holds Try.pinned (OpenSpec.ofChange deskAgainWrong)

/-- 'ledgerlaw20.DeskReplies': WHATEVER THE INPUT: true; the input reads as it did. -/
def deskRepliesSpec : ChangeSpec := { name := "deskReplies", fn := fun _ => fun
  | [d1, d2] => { results := [.lit (.bool true)], args := [d1, d2] }
  | _ => none }
def deskRepliesRow : OpenClaim := { program := "ytenfklcgkfaajaa", sum := "13cd4c7d9f05aaf5f48f559d2c7d988c1b22fc9beebc88b0369e2e099314af1e", func := "ledger/ledgerlaw20.DeskReplies", spec := "deskReplies", unfollowed := true, recurses := true, apart := false }
def DeskRepliesSaid : Prop := deskRepliesRow.holds Try.pinned (OpenSpec.ofChange deskRepliesSpec)

/-- ITS FALSE NEIGHBOUR: 'it returns false'. Refute it at one input. -/
def deskRepliesWrong : ChangeSpec := { name := "deskReplies", fn := fun _ => fun
  | [d1, d2] => { results := [.lit (.bool false)], args := [d1, d2] }
  | _ => none }
def DeskRepliesWrongFalsely : Prop := deskRepliesRow.holds Try.pinned (OpenSpec.ofChange deskRepliesWrong)

/- THE SECOND FORM. 'bulk': how many values and letters a reading holds, each counted each time it is reached (what is shared counts as often as it is met; a slice's spare places count too). A statement '..UptoSaid' is the law's where the arguments, and the package variables that the reading takes, are together of bulk at most 1048576: NARROWER than '..Said'. Prove '..Said' where nothing that the law and all that it calls make is longer than what came in: it says more and counts as full. Else prove '..UptoSaid'. A law counts once. -/
mutual
def uptoBulk {H : Type} : DataW H → Nat
  | .lit (.string bytes) => bytes.length + 1
  | .lit _ => 1
  | .nil => 1
  | .ptr d => uptoBulk d + 1
  | .slice elems spare => uptoBulkAll elems + uptoBulkAll spare + 1
  | .agg parts => uptoBulkAll parts + 1
  | .iface _ d => uptoBulk d + 1
  | .map entries => uptoBulkEntries entries + 1
  | .held _ => 1
def uptoBulkAll {H : Type} : List (DataW H) → Nat
  | [] => 0
  | d :: r => uptoBulk d + uptoBulkAll r
def uptoBulkEntries {H : Type} : List (Lit × DataW H) → Nat
  | [] => 0
  | x :: r => uptoBulkEntry x + uptoBulkEntries r
def uptoBulkEntry {H : Type} : Lit × DataW H → Nat
  | (.string bytes, d) => bytes.length + uptoBulk d + 1
  | (_, d) => uptoBulk d + 1
 end
def uptoSmall : (H : Type) → List (DataW H) → Bool := fun _ ds => decide (uptoBulkAll ds ≤ 1048576)
def OpenSpec.upto (s : _root_.Go.ChangeSpec) : _root_.Go.OpenSpec := { _root_.Go.OpenSpec.ofChange s with cond := some uptoSmall }

/-- 'ledgerlaw20.DeskParts', WHERE WHAT IT READS IS OF BULK AT MOST 1048576: true; the input reads as it did. -/
def deskPartsUptoRow : OpenClaim := { program := "ytenfklcgkfaajaa", sum := "13cd4c7d9f05aaf5f48f559d2c7d988c1b22fc9beebc88b0369e2e099314af1e", func := "ledger/ledgerlaw20.DeskParts", spec := "deskParts", apart := false, narrowed := true }
def DeskPartsUptoSaid : Prop := deskPartsUptoRow.holds Try.pinned (OpenSpec.upto deskPartsSpec)

/-- 'ledgerlaw20.DeskAgain', WHERE WHAT IT READS IS OF BULK AT MOST 1048576: true; the input reads as it did. -/
def deskAgainUptoRow : OpenClaim := { program := "ytenfklcgkfaajaa", sum := "13cd4c7d9f05aaf5f48f559d2c7d988c1b22fc9beebc88b0369e2e099314af1e", func := "ledger/ledgerlaw20.DeskAgain", spec := "deskAgain", apart := false, narrowed := true }
def DeskAgainUptoSaid : Prop := deskAgainUptoRow.holds Try.pinned (OpenSpec.upto deskAgainSpec)

/-- 'ledgerlaw20.DeskReplies', WHERE WHAT IT READS IS OF BULK AT MOST 1048576: true; the input reads as it did. -/
def deskRepliesUptoRow : OpenClaim := { program := "ytenfklcgkfaajaa", sum := "13cd4c7d9f05aaf5f48f559d2c7d988c1b22fc9beebc88b0369e2e099314af1e", func := "ledger/ledgerlaw20.DeskReplies", spec := "deskReplies", unfollowed := true, recurses := true, apart := false, narrowed := true }
def DeskRepliesUptoSaid : Prop := deskRepliesUptoRow.holds Try.pinned (OpenSpec.upto deskRepliesSpec)

end Rows
end Go.Proofs.Ytenfklcgkfaajaa
