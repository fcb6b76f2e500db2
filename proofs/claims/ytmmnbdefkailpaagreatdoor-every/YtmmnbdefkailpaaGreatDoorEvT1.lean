/- The door's run, and what it leaves in the variables of group 0. -/
import Derived.Test.YtmmnbdefkailpaaGreatDoorEvT0
namespace Go.Proofs.YtmmnbdefkailpaaGreatDoor
open Go
set_option maxRecDepth 100000

theorem grp_0 (os : Os) (tape : Tape) : grp (doorW os tape) (laid0.map (·.1)) = some (laid0, places0, true) := by kernel_rfl
end Go.Proofs.YtmmnbdefkailpaaGreatDoor
