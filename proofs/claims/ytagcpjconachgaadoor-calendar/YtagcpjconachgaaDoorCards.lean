/-
  DERIVED. GIVEN WITH THE SEED: THE CARDS: each row of YtagcpjconachgaaDoorRows.lean that lists a variable, with what it lists TIED to the program's text (the seventh form; the later family's looks); each row that meets fmt, with fmt's text TOLD by the authors' own Lean function (tested against real Go, not proved from fmt's source: count such statements apart). THE CARD IS WHAT COUNTS. Prove the row's statement (the work); the ties are given (YtagcpjconachgaaDoorTie.lean); close each card by the builder's one call (the guide's Derived/Test/ToyasCard.lean, 'card_holds'). Laid BY PROGRAM, IN A SANDBOX (cutbox-door.mjs). By AI agents, Wed Nov 11 2026. No macro, syntax, notation, axiom, sorry.
-/
import Derived.Test.YtagcpjconachgaaDoorRows
import GoSem.ClaimSeven
namespace Go.Proofs.YtagcpjconachgaaDoor
namespace Rows

/-- THE TIED CARD OF 'datebooklaw.Days'. -/
def daysCard : Claim7 := { stood := { row := daysRow, standIns := [], harness := (true, "9577748c21f9973f3e9216036a8e5cacd0b06b1bf9cfecbb3368882113a8f224"), looks := true }, kinds := [], alts := [], laidByText := true, laidKinds := [.data], laidTests := true, laidLooks := .later }
def DaysCardSaid : Prop := Claim7.holds Tryd.pinned (.plain (OpenSpec.ofChange daysSpec)) daysCard

/-- THE TIED CARD OF 'datebooklaw.Unfolds'. -/
def unfoldsCard : Claim7 := { stood := { row := unfoldsRow, standIns := [], harness := (true, "9577748c21f9973f3e9216036a8e5cacd0b06b1bf9cfecbb3368882113a8f224"), looks := true }, kinds := [], alts := [], laidByText := true, laidKinds := [.data, .handle, .sentinel, .sentinel, .sentinel, .sentinel, .sentinel, .pinned], laidTests := true, laidLooks := .later }
def UnfoldsCardSaid : Prop := Claim7.holds Tryd.pinned (.plain (OpenSpec.ofChange unfoldsSpec)) unfoldsCard

/-- THE TIED CARD OF 'datebooklaw.Folds'. -/
def foldsCard : Claim7 := { stood := { row := foldsRow, standIns := [], harness := (true, "9577748c21f9973f3e9216036a8e5cacd0b06b1bf9cfecbb3368882113a8f224"), looks := true }, kinds := [], alts := [], laidByText := true, laidKinds := [.data, .sentinel, .sentinel, .sentinel, .sentinel, .pinned], laidTests := true, laidLooks := .later }
def FoldsCardSaid : Prop := Claim7.holds Tryd.pinned (.plain (OpenSpec.ofChange foldsSpec)) foldsCard

/-- THE TIED CARD OF 'datebookkeep.Calendar'. -/
def calendarCard : Claim7 := { stood := { row := calendarRow, standIns := [], harness := (true, "9577748c21f9973f3e9216036a8e5cacd0b06b1bf9cfecbb3368882113a8f224"), looks := true }, kinds := [], alts := [], laidByText := true, laidKinds := [.data], laidTests := true, laidLooks := .later }
def CalendarCardSaid : Prop := Claim7.holds Tryd.pinned (.plain (OpenSpec.ofChange calendarSpec)) calendarCard

/-- THE TIED CARD OF 'datebookkeep.Lined'. -/
def linedCard : Claim7 := { stood := { row := linedRow, standIns := [], harness := (true, "9577748c21f9973f3e9216036a8e5cacd0b06b1bf9cfecbb3368882113a8f224"), looks := true }, kinds := [], alts := [], laidByText := true, laidKinds := [.data, .handle, .sentinel, .sentinel, .sentinel, .sentinel, .sentinel, .pinned], laidTests := true, laidLooks := .later }
def LinedCardSaid : Prop := Claim7.holds Tryd.pinned (.plain (OpenSpec.ofChange linedSpec)) linedCard

/-- THE SECOND FORM's CARD OF 'datebooklaw.Days'. -/
def daysUptoCard : Claim7 := { stood := { row := daysUptoRow, standIns := [], harness := (true, "9577748c21f9973f3e9216036a8e5cacd0b06b1bf9cfecbb3368882113a8f224"), looks := true }, kinds := [], alts := [], laidByText := true, laidKinds := [.data], laidTests := true, laidLooks := .later }
def DaysUptoCardSaid : Prop := Claim7.holds Tryd.pinned (.plain (OpenSpec.upto daysSpec)) daysUptoCard

/-- THE SECOND FORM's CARD OF 'datebooklaw.Unfolds'. -/
def unfoldsUptoCard : Claim7 := { stood := { row := unfoldsUptoRow, standIns := [], harness := (true, "9577748c21f9973f3e9216036a8e5cacd0b06b1bf9cfecbb3368882113a8f224"), looks := true }, kinds := [], alts := [], laidByText := true, laidKinds := [.data, .handle, .sentinel, .sentinel, .sentinel, .sentinel, .sentinel, .pinned], laidTests := true, laidLooks := .later }
def UnfoldsUptoCardSaid : Prop := Claim7.holds Tryd.pinned (.plain (OpenSpec.upto unfoldsSpec)) unfoldsUptoCard

/-- THE SECOND FORM's CARD OF 'datebooklaw.Folds'. -/
def foldsUptoCard : Claim7 := { stood := { row := foldsUptoRow, standIns := [], harness := (true, "9577748c21f9973f3e9216036a8e5cacd0b06b1bf9cfecbb3368882113a8f224"), looks := true }, kinds := [], alts := [], laidByText := true, laidKinds := [.data, .sentinel, .sentinel, .sentinel, .sentinel, .pinned], laidTests := true, laidLooks := .later }
def FoldsUptoCardSaid : Prop := Claim7.holds Tryd.pinned (.plain (OpenSpec.upto foldsSpec)) foldsUptoCard

/-- THE SECOND FORM's CARD OF 'datebookkeep.Calendar'. -/
def calendarUptoCard : Claim7 := { stood := { row := calendarUptoRow, standIns := [], harness := (true, "9577748c21f9973f3e9216036a8e5cacd0b06b1bf9cfecbb3368882113a8f224"), looks := true }, kinds := [], alts := [], laidByText := true, laidKinds := [.data], laidTests := true, laidLooks := .later }
def CalendarUptoCardSaid : Prop := Claim7.holds Tryd.pinned (.plain (OpenSpec.upto calendarSpec)) calendarUptoCard

/-- THE SECOND FORM's CARD OF 'datebookkeep.Lined'. -/
def linedUptoCard : Claim7 := { stood := { row := linedUptoRow, standIns := [], harness := (true, "9577748c21f9973f3e9216036a8e5cacd0b06b1bf9cfecbb3368882113a8f224"), looks := true }, kinds := [], alts := [], laidByText := true, laidKinds := [.data, .handle, .sentinel, .sentinel, .sentinel, .sentinel, .sentinel, .pinned], laidTests := true, laidLooks := .later }
def LinedUptoCardSaid : Prop := Claim7.holds Tryd.pinned (.plain (OpenSpec.upto linedSpec)) linedUptoCard
end Rows
end Go.Proofs.YtagcpjconachgaaDoor
