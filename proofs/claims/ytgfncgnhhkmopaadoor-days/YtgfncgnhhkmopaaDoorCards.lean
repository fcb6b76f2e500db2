/-
  DERIVED. GIVEN WITH THE SEED: THE CARDS: each row of YtgfncgnhhkmopaaDoorRows.lean that lists a variable, with what it lists TIED to the program's text (the seventh form; the later family's looks); each row that meets fmt, with fmt's text TOLD by the authors' own Lean function (tested against real Go, not proved from fmt's source: count such statements apart). THE CARD IS WHAT COUNTS. Prove the row's statement (the work); the ties are given (YtgfncgnhhkmopaaDoorTie.lean); close each card by the builder's one call (the guide's Derived/Test/ToyasCard.lean, 'card_holds'). Laid BY PROGRAM, IN A SANDBOX (cutbox-door.mjs). By AI agents, Wed Nov 11 2026. No macro, syntax, notation, axiom, sorry.
-/
import Derived.Test.YtgfncgnhhkmopaaDoorRows
import GoSem.ClaimSeven
namespace Go.Proofs.YtgfncgnhhkmopaaDoor
namespace Rows

/-- THE TIED CARD OF 'datebooklaw.Days'. -/
def daysCard : Claim7 := { stood := { row := daysRow, standIns := [], harness := (true, "d430cc85d0da98d167f8224661a14bea0f6845f5088d6990b82bffcd1dc76cfc"), looks := false }, kinds := [], alts := [], laidByText := true, laidKinds := [.data], laidTests := true, laidLooks := .later }
def DaysCardSaid : Prop := Claim7.holds Tryd.pinned (.plain (OpenSpec.ofChange daysSpec)) daysCard

/-- THE TIED CARD OF 'datebookkeep.Calendar'. -/
def calendarCard : Claim7 := { stood := { row := calendarRow, standIns := [], harness := (true, "d430cc85d0da98d167f8224661a14bea0f6845f5088d6990b82bffcd1dc76cfc"), looks := false }, kinds := [], alts := [], laidByText := true, laidKinds := [.data], laidTests := true, laidLooks := .later }
def CalendarCardSaid : Prop := Claim7.holds Tryd.pinned (.plain (OpenSpec.ofChange calendarSpec)) calendarCard

/-- THE SECOND FORM's CARD OF 'datebooklaw.Days'. -/
def daysUptoCard : Claim7 := { stood := { row := daysUptoRow, standIns := [], harness := (true, "d430cc85d0da98d167f8224661a14bea0f6845f5088d6990b82bffcd1dc76cfc"), looks := false }, kinds := [], alts := [], laidByText := true, laidKinds := [.data], laidTests := true, laidLooks := .later }
def DaysUptoCardSaid : Prop := Claim7.holds Tryd.pinned (.plain (OpenSpec.upto daysSpec)) daysUptoCard

/-- THE SECOND FORM's CARD OF 'datebookkeep.Calendar'. -/
def calendarUptoCard : Claim7 := { stood := { row := calendarUptoRow, standIns := [], harness := (true, "d430cc85d0da98d167f8224661a14bea0f6845f5088d6990b82bffcd1dc76cfc"), looks := false }, kinds := [], alts := [], laidByText := true, laidKinds := [.data], laidTests := true, laidLooks := .later }
def CalendarUptoCardSaid : Prop := Claim7.holds Tryd.pinned (.plain (OpenSpec.upto calendarSpec)) calendarUptoCard
end Rows
end Go.Proofs.YtgfncgnhhkmopaaDoor
