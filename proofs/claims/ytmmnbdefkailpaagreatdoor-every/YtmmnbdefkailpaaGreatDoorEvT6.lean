/- The door's run ends within its steps. -/
import Derived.Test.YtmmnbdefkailpaaGreatDoorEvT0
namespace Go.Proofs.YtmmnbdefkailpaaGreatDoor
open Go
set_option maxRecDepth 100000

theorem door_done (os : Os) (tape : Tape) : varsDone Tryz.prog 520 (varsId Tryz.prog) os tape = true := by kernel_rfl
end Go.Proofs.YtmmnbdefkailpaaGreatDoor
