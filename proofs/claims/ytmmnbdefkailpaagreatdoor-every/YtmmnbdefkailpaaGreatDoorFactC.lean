/- The closed facts of Every's card. -/
import Derived.Test.YtmmnbdefkailpaaGreatDoorCards
import Derived.SevenTiedAt
import Derived.JoinedOf
namespace Go.Proofs.YtmmnbdefkailpaaGreatDoor
open Go
set_option maxRecDepth 100000
theorem card_wf : Rows.everyRow.wfByText (OpenSpec.ofChange Rows.everySpec) = true := by kernel_rfl
theorem card_main : Tryz.pinned.checked.prog.mainIs = some (true, ("73ab2b5b37723e754c88ecd875cbe6d93389058cf97117f253cebd9b904c6f98" : String).toList) := by kernel_rfl
theorem card_stand : ([3, 3, 3, 3, 3].all fun u => !Tryz.prog.wantsStandIn u) = true := by kernel_rfl
theorem card_name : Tryz.prog.funcNamed "datebook/datebookkeep.Every" = some 3 := by kernel_rfl
theorem card_looks : true = Tryz.pinned.checked.prog.looks [] := by kernel_rfl
end Go.Proofs.YtmmnbdefkailpaaGreatDoor
