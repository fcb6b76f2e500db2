/-
  PROVED: 'datebookkeep.Every' answers true at any five numbers: the text of an event that recurs every so many days so many times is parsed, and Expand gives of it, in the window that is drawn, the very instants that are counted day by day; its arguments read behind the call as before. Condition: the package-level variables that the row lists lie as the program's text lays them (tied).
-/
import Derived.Test.YtmmnbdefkailpaaGreatDoorEveryLift
import Derived.Test.YtmmnbdefkailpaaGreatDoorEvTie
import Derived.Test.YtmmnbdefkailpaaGreatDoorFactC
import Derived.Test.YtmmnbdefkailpaaGreatDoorFactD
namespace Go.Proofs.YtmmnbdefkailpaaGreatDoor
open Go
set_option linter.unusedVariables false

/-- THE STATEMENT -/
theorem every_holds : Rows.EveryCardSaid :=
  Claim7.holds_tied_plain_at .later [] Rows.everyCard.laidKinds true (true, "73ab2b5b37723e754c88ecd875cbe6d93389058cf97117f253cebd9b904c6f98") true
    every_row_holds (fun _ h => by cases h) card_wf (fun _ h => by cases h) every_row_tie rfl ⟨rfl, rfl⟩ card_main rfl
    (fun f fn hf hfn => by
      obtain rfl : f = 3 := Option.some.inj (card_name.symm.trans hf) |>.symm
      obtain rfl : fn = Tryz.f3 := (Option.some.inj (Tryz.func3.symm.trans hfn)).symm
      exact ⟨card_looks, fun j t ht => by
        rw [Tryz.params3] at ht
        have hm : t ∈ [3, 3, 3, 3, 3] := by simpa using Array.mem_of_getElem? ht
        exact (show Tryz.prog.wantsStandIn t = false by simpa using List.all_eq_true.1 card_stand t hm)⟩)
    card_goes
#print axioms every_holds
end Go.Proofs.YtmmnbdefkailpaaGreatDoor
