/-
  DERIVED. GIVEN WITH THE SEED: THE CARDS: each row of YtdhobemladckjaaDoorRows.lean that lists a variable, with what it lists TIED to the program's text (the seventh form; the later family's looks); each row that meets fmt, with fmt's text TOLD by the authors' own Lean function (tested against real Go, not proved from fmt's source: count such statements apart). THE CARD IS WHAT COUNTS. Prove the row's statement (the work); the ties are given (YtdhobemladckjaaDoorTie.lean); close each card by the builder's one call (the guide's Derived/Test/ToyasCard.lean, 'card_holds'). Laid BY PROGRAM, IN A SANDBOX (cutbox-door.mjs). By AI agents, Wed Nov 11 2026. No macro, syntax, notation, axiom, sorry.
-/
import Derived.Test.YtdhobemladckjaaDoorRows
import GoSem.ClaimSeven
namespace Go.Proofs.YtdhobemladckjaaDoor
namespace Rows

/-- THE TIED CARD OF 'datebooklaw.Unfolds'. -/
def unfoldsCard : Claim7 := { stood := { row := unfoldsRow, standIns := [], harness := (true, "a4f98db4b6458f857c93d36e5515efa511ef344eae39385e927791de6d53a3c1"), looks := true }, kinds := [], alts := [], laidByText := true, laidKinds := [.data, .handle, .sentinel, .sentinel, .sentinel, .sentinel, .sentinel, .pinned], laidTests := true, laidLooks := .later }
def UnfoldsCardSaid : Prop := Claim7.holds Tryd.pinned (.plain (OpenSpec.ofChange unfoldsSpec)) unfoldsCard

/-- THE TIED CARD OF 'datebooklaw.Folds'. -/
def foldsCard : Claim7 := { stood := { row := foldsRow, standIns := [], harness := (true, "a4f98db4b6458f857c93d36e5515efa511ef344eae39385e927791de6d53a3c1"), looks := true }, kinds := [], alts := [], laidByText := true, laidKinds := [.data, .sentinel, .sentinel, .sentinel, .sentinel, .pinned], laidTests := true, laidLooks := .later }
def FoldsCardSaid : Prop := Claim7.holds Tryd.pinned (.plain (OpenSpec.ofChange foldsSpec)) foldsCard

/-- THE TIED CARD OF 'datebookkeep.Lined'. -/
def linedCard : Claim7 := { stood := { row := linedRow, standIns := [], harness := (true, "a4f98db4b6458f857c93d36e5515efa511ef344eae39385e927791de6d53a3c1"), looks := true }, kinds := [], alts := [], laidByText := true, laidKinds := [.data, .handle, .sentinel, .sentinel, .sentinel, .sentinel, .sentinel, .pinned], laidTests := true, laidLooks := .later }
def LinedCardSaid : Prop := Claim7.holds Tryd.pinned (.plain (OpenSpec.ofChange linedSpec)) linedCard

/-- THE SECOND FORM's CARD OF 'datebooklaw.Unfolds'. -/
def unfoldsUptoCard : Claim7 := { stood := { row := unfoldsUptoRow, standIns := [], harness := (true, "a4f98db4b6458f857c93d36e5515efa511ef344eae39385e927791de6d53a3c1"), looks := true }, kinds := [], alts := [], laidByText := true, laidKinds := [.data, .handle, .sentinel, .sentinel, .sentinel, .sentinel, .sentinel, .pinned], laidTests := true, laidLooks := .later }
def UnfoldsUptoCardSaid : Prop := Claim7.holds Tryd.pinned (.plain (OpenSpec.upto unfoldsSpec)) unfoldsUptoCard

/-- THE SECOND FORM's CARD OF 'datebooklaw.Folds'. -/
def foldsUptoCard : Claim7 := { stood := { row := foldsUptoRow, standIns := [], harness := (true, "a4f98db4b6458f857c93d36e5515efa511ef344eae39385e927791de6d53a3c1"), looks := true }, kinds := [], alts := [], laidByText := true, laidKinds := [.data, .sentinel, .sentinel, .sentinel, .sentinel, .pinned], laidTests := true, laidLooks := .later }
def FoldsUptoCardSaid : Prop := Claim7.holds Tryd.pinned (.plain (OpenSpec.upto foldsSpec)) foldsUptoCard

/-- THE SECOND FORM's CARD OF 'datebookkeep.Lined'. -/
def linedUptoCard : Claim7 := { stood := { row := linedUptoRow, standIns := [], harness := (true, "a4f98db4b6458f857c93d36e5515efa511ef344eae39385e927791de6d53a3c1"), looks := true }, kinds := [], alts := [], laidByText := true, laidKinds := [.data, .handle, .sentinel, .sentinel, .sentinel, .sentinel, .sentinel, .pinned], laidTests := true, laidLooks := .later }
def LinedUptoCardSaid : Prop := Claim7.holds Tryd.pinned (.plain (OpenSpec.upto linedSpec)) linedUptoCard
end Rows
end Go.Proofs.YtdhobemladckjaaDoor
