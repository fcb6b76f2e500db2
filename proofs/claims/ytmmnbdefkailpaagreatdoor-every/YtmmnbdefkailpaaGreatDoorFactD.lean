/- A closed fact of Every's card: goesBy. -/
import Derived.Test.YtmmnbdefkailpaaGreatDoorCards
import Derived.SevenTiedAt
namespace Go.Proofs.YtmmnbdefkailpaaGreatDoor
open Go
set_option maxRecDepth 100000
theorem card_goes : false = Rows.everyRow.goesBy Tryz.pinned.checked.prog := by kernel_rfl
end Go.Proofs.YtmmnbdefkailpaaGreatDoor
