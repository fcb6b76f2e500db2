/- The closed facts of Every's row that go over all that it reaches. -/
import Derived.Test.YtmmnbdefkailpaaGreatDoorRows
import Derived.JoinedOf
namespace Go.Proofs.YtmmnbdefkailpaaGreatDoor
open Go
set_option maxRecDepth 100000
theorem fact10 : (Rows.everyRow.inPlace == Tryz.prog.inPlace 3) = true := by kernel_rfl
theorem fact11 : (Rows.everyRow.unfollowed == Tryz.prog.unfollowed 3) = true := by kernel_rfl
theorem fact12 : (Rows.everyRow.recurses == Tryz.prog.recurses 3) = true := by kernel_rfl
theorem fact13 : (Rows.everyRow.named == Tryz.prog.varsNamed 3) = true := by kernel_rfl
end Go.Proofs.YtmmnbdefkailpaaGreatDoor
