/- The door's run, and what it leaves in the variables of group 1. -/
import Derived.Test.YtmmnbdefkailpaaGreatDoorEvT0
namespace Go.Proofs.YtmmnbdefkailpaaGreatDoor
open Go
set_option maxRecDepth 100000

theorem grp_1 (os : Os) (tape : Tape) : grp (doorW os tape) (laid1.map (·.1)) = some (laid1, places1, true) := by kernel_rfl
end Go.Proofs.YtmmnbdefkailpaaGreatDoor
