/-
  DERIVED. GIVEN WITH THE SEED: THE CARDS: each row of YtmmnbdefkailpaaGreatDoorRows.lean that lists a variable, with what it lists TIED to the program's text (the seventh form; the later family's looks); each row that meets fmt, with fmt's text TOLD by the authors' own Lean function (tested against real Go, not proved from fmt's source: count such statements apart). THE CARD IS WHAT COUNTS. Prove the row's statement (the work); the ties are given (YtmmnbdefkailpaaGreatDoorTie.lean); close each card by the builder's one call (the guide's Derived/Test/ToyasCard.lean, 'card_holds'). Laid BY PROGRAM, IN A SANDBOX (cutbox-door.mjs). By AI agents, Wed Nov 11 2026. No macro, syntax, notation, axiom, sorry.
-/
import Derived.Test.YtmmnbdefkailpaaGreatDoorRows
import GoSem.ClaimSeven
namespace Go.Proofs.YtmmnbdefkailpaaGreatDoor
namespace Rows

/-- THE TIED CARD OF 'datebookkeep.Every'. -/
def everyCard : Claim7 := { stood := { row := everyRow, standIns := [], harness := (true, "73ab2b5b37723e754c88ecd875cbe6d93389058cf97117f253cebd9b904c6f98"), looks := true }, kinds := [], alts := [], laidByText := true, laidKinds := [.data, .data, .data, .data, .sentinel, .sentinel, .sentinel, .sentinel, .sentinel, .pinned, .data, .handle, .sentinel, .sentinel, .data, .sentinel, .sentinel, .sentinel, .sentinel, .sentinel, .sentinel, .sentinel, .sentinel, .sentinel, .sentinel, .data, .sentinel, .sentinel, .sentinel, .sentinel, .sentinel, .data, .sentinel, .sentinel], laidTests := true, laidLooks := .later }
def EveryCardSaid : Prop := Claim7.holds Tryz.pinned (.plain (OpenSpec.ofChange everySpec)) everyCard

/-- THE SECOND FORM's CARD OF 'datebookkeep.Every'. -/
def everyUptoCard : Claim7 := { stood := { row := everyUptoRow, standIns := [], harness := (true, "73ab2b5b37723e754c88ecd875cbe6d93389058cf97117f253cebd9b904c6f98"), looks := true }, kinds := [], alts := [], laidByText := true, laidKinds := [.data, .data, .data, .data, .sentinel, .sentinel, .sentinel, .sentinel, .sentinel, .pinned, .data, .handle, .sentinel, .sentinel, .data, .sentinel, .sentinel, .sentinel, .sentinel, .sentinel, .sentinel, .sentinel, .sentinel, .sentinel, .sentinel, .data, .sentinel, .sentinel, .sentinel, .sentinel, .sentinel, .data, .sentinel, .sentinel], laidTests := true, laidLooks := .later }
def EveryUptoCardSaid : Prop := Claim7.holds Tryz.pinned (.plain (OpenSpec.upto everySpec)) everyUptoCard
end Rows
end Go.Proofs.YtmmnbdefkailpaaGreatDoor
