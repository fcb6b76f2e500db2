/- The door's run, and what it leaves in the variables of group 4. -/
import Derived.Test.YtmmnbdefkailpaaGreatDoorEvT0
namespace Go.Proofs.YtmmnbdefkailpaaGreatDoor
open Go
set_option maxRecDepth 100000

theorem grp_4 (os : Os) (tape : Tape) : grp (doorW os tape) (laid4.map (·.1)) = some (laid4, places4, true) := by kernel_rfl
end Go.Proofs.YtmmnbdefkailpaaGreatDoor
