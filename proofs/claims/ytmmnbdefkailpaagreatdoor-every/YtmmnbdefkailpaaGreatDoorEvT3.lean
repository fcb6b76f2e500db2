/- The door's run, and what it leaves in the variables of group 2. -/
import Derived.Test.YtmmnbdefkailpaaGreatDoorEvT0
namespace Go.Proofs.YtmmnbdefkailpaaGreatDoor
open Go
set_option maxRecDepth 100000

theorem grp_2 (os : Os) (tape : Tape) : grp (doorW os tape) (laid2.map (·.1)) = some (laid2, places2, true) := by kernel_rfl
end Go.Proofs.YtmmnbdefkailpaaGreatDoor
