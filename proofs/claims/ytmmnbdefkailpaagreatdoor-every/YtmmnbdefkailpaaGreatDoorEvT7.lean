/- The door's run leaves the type's handle in its variable. -/
import Derived.Test.YtmmnbdefkailpaaGreatDoorEvT0
namespace Go.Proofs.YtmmnbdefkailpaaGreatDoor
open Go
set_option maxRecDepth 100000

theorem door_handle (os : Os) (tape : Tape) : (tieLaid.filter fun x => x.2.handleName?.isSome).all (handleAtB Tryz.prog (varsWorld Tryz.prog 520 (varsId Tryz.prog) os tape).memory) = true := by kernel_rfl
end Go.Proofs.YtmmnbdefkailpaaGreatDoor
