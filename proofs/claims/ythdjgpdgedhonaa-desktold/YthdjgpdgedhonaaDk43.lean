import Derived.Test.YthdjgpdgedhonaaDk42
namespace Go.Proofs.Ythdjgpdgedhonaa
set_option linter.unusedVariables false
set_option linter.unusedSimpArgs false
open Go.RowKit
attribute [local go_sem ↓] Go.wp_at_zero Go.wp_at_succ

/-- A reply's numbers are integers of the machine, and what it carries is not too long. -/
structure RpB (r : Rp) : Prop where
  err : -9223372036854775808 ≤ r.err ∧ r.err ≤ 9223372036854775807
  ver : -9223372036854775808 ≤ r.ver ∧ r.ver ≤ 9223372036854775807
  inf : NfB r.info
  raw : r.raw.length ≤ 140737488351230
end Go.Proofs.Ythdjgpdgedhonaa
