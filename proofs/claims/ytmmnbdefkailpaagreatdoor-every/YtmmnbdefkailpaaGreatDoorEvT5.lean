/- The door's run, and what it leaves in the variables of group 4. -/
import Derived.Test.YtmmnbdefkailpaaGreatDoorEvT0
namespace Go.Proofs.YtmmnbdefkailpaaGreatDoor
open Go
set_option maxRecDepth 100000

theorem grp_4 (os : Os) (tape : Tape) : (DataW.laidRun Tryz.prog (varsWorld Tryz.prog 520 (varsId Tryz.prog) os tape).memory 8 (laid4.map (·.1))).map (fun x => (x.1, x.2, laidRowsB Tryz.prog (varsWorld Tryz.prog 520 (varsId Tryz.prog) os tape).memory x.2)) = some (laid4, places4, true) := by kernel_rfl
end Go.Proofs.YtmmnbdefkailpaaGreatDoor
