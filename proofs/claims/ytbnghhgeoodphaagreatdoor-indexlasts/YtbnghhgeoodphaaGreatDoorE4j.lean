import Derived.Test.YtbnghhgeoodphaaGreatDoorE4i
namespace Go.Proofs.YtbnghhgeoodphaaGreatDoor
set_option maxRecDepth 100000
set_option maxHeartbeats 40000000
set_option linter.unusedVariables false
set_option linter.unusedSimpArgs false
open Go.RowKit
attribute [local go_sem ↓] Go.wp_at_zero Go.wp_at_succ
end Go.Proofs.YtbnghhgeoodphaaGreatDoor
