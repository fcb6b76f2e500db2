/- The door's run, and what it leaves in the variables of group 3. -/
import Derived.Test.YtmmnbdefkailpaaGreatDoorEvT0
namespace Go.Proofs.YtmmnbdefkailpaaGreatDoor
open Go
set_option maxRecDepth 100000

theorem grp_3 (os : Os) (tape : Tape) : grp (doorW os tape) (laid3.map (·.1)) = some (laid3, places3, true) := by kernel_rfl
end Go.Proofs.YtmmnbdefkailpaaGreatDoor
