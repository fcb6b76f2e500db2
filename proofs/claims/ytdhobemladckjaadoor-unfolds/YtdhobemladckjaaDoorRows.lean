/-
  NARROWER THAN 'FOR EVERY INPUT', by the rows' own cells (each row's printed sentence says how): Unfolds: laid · Folds: laid · Lined: laid.
  DERIVED. THE GIVEN ROWS OF THIS SEAT. 3 by the template 'for every input the law returns true; each argument reads behind the call as it read before'; 0 by the template 'total and deterministic' (their statements: YtdhobemladckjaaDoorTotals.lean).
  GIVEN WITH THE SEED: the statements are not yours to turn. If you find one false, say at which input.
  Laid BY PROGRAM, IN A SANDBOX (cutbox-rows.mjs): the forced cells as the released guide's own fill.sh prints them over the translation b191fe9f75ff76f3… (all of the seat's roots in one cut). By AI agents, Wed Nov 11 2026. No macro, syntax, notation, axiom, sorry.
-/
import Derived.Test.YtdhobemladckjaaDoorChecked
import GoSem.PinnedTables
import GoSem.Claim
import GoSem.ClaimJoined
import GoSem.ClaimMapViews
import Derived.JoinedTies
import Derived.KernelRfl
namespace Go.Proofs.YtdhobemladckjaaDoor
/- THE CELL 'sum', in the pinned program and in every row, IS THE sha256 OF THE DUMP (.gsa) THAT YtdhobemladckjaaDoorProg.lean LOADS. Nothing in Lean hashes anything: it is a label: what it is worth is what the hold of that sum in a sandbox is worth. -/
noncomputable def Tryd.pinned : Pinned := { name := "ytdhobemladckjaadoor", sum := "b191fe9f75ff76f3ace4bcdbdce4445c7276d1849850a7819e2e88e891d7f762", checked := Tryd.checked }
namespace Rows
def none {H : Type} : Left H := { results := [], args := [] }

/- WHAT THE LISTED PACKAGE-LEVEL VARIABLES READ AS WHEN THE CALL BEGINS. Each datum BY PROGRAM (the guide's laid-datum.mjs) off the statement by which the dump's own 'gosem.cut.vars' lays the variable. In a bare row this is a premise. The card (YtdhobemladckjaaDoorCards.lean) ties it to the program's text. -/
def laid_unicode_utf8_acceptRanges {H : Type} : DataW H := .agg [.agg [.lit (.int .u8 128), .lit (.int .u8 191)], .agg [.lit (.int .u8 160), .lit (.int .u8 191)], .agg [.lit (.int .u8 128), .lit (.int .u8 159)], .agg [.lit (.int .u8 144), .lit (.int .u8 191)], .agg [.lit (.int .u8 128), .lit (.int .u8 143)], .agg [.lit (.int .u8 0), .lit (.int .u8 0)], .agg [.lit (.int .u8 0), .lit (.int .u8 0)], .agg [.lit (.int .u8 0), .lit (.int .u8 0)], .agg [.lit (.int .u8 0), .lit (.int .u8 0)], .agg [.lit (.int .u8 0), .lit (.int .u8 0)], .agg [.lit (.int .u8 0), .lit (.int .u8 0)], .agg [.lit (.int .u8 0), .lit (.int .u8 0)], .agg [.lit (.int .u8 0), .lit (.int .u8 0)], .agg [.lit (.int .u8 0), .lit (.int .u8 0)], .agg [.lit (.int .u8 0), .lit (.int .u8 0)], .agg [.lit (.int .u8 0), .lit (.int .u8 0)]]
def laid_errors_errorType {H : Type} : DataW H := .iface "internal/reflectlite.rtype" (.agg [.ptr (.lit (.string [101, 114, 114, 111, 114]))])
def laid_datebook_lines_errLong {H : Type} : DataW H := .iface "*errors.errorString" (.ptr (.agg [.lit (.string [116, 111, 111, 32, 109, 97, 110, 121, 32, 98, 121, 116, 101, 115])]))
def laid_datebook_lines_errEnd {H : Type} : DataW H := .iface "*errors.errorString" (.ptr (.agg [.lit (.string [110, 111, 32, 67, 82, 32, 97, 110, 100, 32, 76, 70, 32, 97, 116, 32, 116, 104, 101, 32, 101, 110, 100])]))
def laid_datebook_lines_errGoesOn {H : Type} : DataW H := .iface "*errors.errorString" (.ptr (.agg [.lit (.string [97, 32, 98, 108, 97, 110, 107, 32, 111, 114, 32, 97, 32, 116, 97, 98, 32, 97, 116, 32, 116, 104, 101, 32, 98, 101, 103, 105, 110, 110, 105, 110, 103])]))
def laid_datebook_lines_errUtf8 {H : Type} : DataW H := .iface "*errors.errorString" (.ptr (.agg [.lit (.string [98, 121, 116, 101, 115, 32, 116, 104, 97, 116, 32, 97, 114, 101, 32, 110, 111, 32, 85, 84, 70, 45, 56])]))
def laid_datebook_lines_errByte {H : Type} : DataW H := .iface "*errors.errorString" (.ptr (.agg [.lit (.string [97, 32, 98, 121, 116, 101, 32, 116, 104, 97, 116, 32, 109, 97, 121, 32, 110, 111, 116, 32, 115, 116, 97, 110, 100, 32, 105, 110, 32, 97, 32, 108, 105, 110, 101])]))
/-- One of Go's own tables, pinned by name: the form's constant. -/
def laid_unicode_utf8_first : DataW Unit := Go.Pinned.utf8First

/-- 'datebooklaw.Unfolds': WHATEVER THE INPUT: true; the input reads as it did. -/
def unfoldsSpec : ChangeSpec := { name := "unfolds", fn := fun _ => fun
  | [d] => { results := [.lit (.bool true)], args := [d] }
  | _ => none }
def unfoldsRow : OpenClaim := { program := "ytdhobemladckjaadoor", sum := "b191fe9f75ff76f3ace4bcdbdce4445c7276d1849850a7819e2e88e891d7f762", func := "datebook/datebooklaw.Unfolds", spec := "unfolds", inPlace := ["internal/bytealg.IndexByteString", "internal/bytealg.IndexString", "internal/reflectlite.ValueOf", "(internal/reflectlite.Value).Type", "(internal/reflectlite.Value).IsNil", "internal/reflectlite.TypeOf", "(internal/reflectlite.Value).Elem", "(internal/reflectlite.Value).Set"], unfollowed := true, recurses := true, named := ["datebook/lines.errLong", "datebook/lines.errEnd", "datebook/lines.errGoesOn", "internal/bytealg.MaxLen", "datebook/lines.errUtf8", "datebook/lines.errByte", "unicode/utf8.first", "unicode/utf8.acceptRanges", "errors.errorType"], apart := false, laid := [("unicode/utf8.acceptRanges", laid_unicode_utf8_acceptRanges), ("errors.errorType", laid_errors_errorType), ("datebook/lines.errLong", laid_datebook_lines_errLong), ("datebook/lines.errEnd", laid_datebook_lines_errEnd), ("datebook/lines.errGoesOn", laid_datebook_lines_errGoesOn), ("datebook/lines.errUtf8", laid_datebook_lines_errUtf8), ("datebook/lines.errByte", laid_datebook_lines_errByte), ("unicode/utf8.first", laid_unicode_utf8_first)] }
def UnfoldsSaid : Prop := unfoldsRow.holds Tryd.pinned (OpenSpec.ofChange unfoldsSpec)

/-- ITS FALSE NEIGHBOUR: 'it returns false'. Refute it at one input. -/
def unfoldsWrong : ChangeSpec := { name := "unfolds", fn := fun _ => fun
  | [d] => { results := [.lit (.bool false)], args := [d] }
  | _ => none }
def UnfoldsWrongFalsely : Prop := unfoldsRow.holds Tryd.pinned (OpenSpec.ofChange unfoldsWrong)

/-- 'datebooklaw.Folds': WHATEVER THE INPUT: true; the input reads as it did. -/
def foldsSpec : ChangeSpec := { name := "folds", fn := fun _ => fun
  | [d] => { results := [.lit (.bool true)], args := [d] }
  | _ => none }
def foldsRow : OpenClaim := { program := "ytdhobemladckjaadoor", sum := "b191fe9f75ff76f3ace4bcdbdce4445c7276d1849850a7819e2e88e891d7f762", func := "datebook/datebooklaw.Folds", spec := "folds", inPlace := ["internal/abi.NoEscape"], named := ["datebook/lines.errLong", "datebook/lines.errGoesOn", "datebook/lines.errUtf8", "datebook/lines.errByte", "unicode/utf8.first", "unicode/utf8.acceptRanges"], apart := false, laid := [("unicode/utf8.acceptRanges", laid_unicode_utf8_acceptRanges), ("datebook/lines.errLong", laid_datebook_lines_errLong), ("datebook/lines.errGoesOn", laid_datebook_lines_errGoesOn), ("datebook/lines.errUtf8", laid_datebook_lines_errUtf8), ("datebook/lines.errByte", laid_datebook_lines_errByte), ("unicode/utf8.first", laid_unicode_utf8_first)] }
def FoldsSaid : Prop := foldsRow.holds Tryd.pinned (OpenSpec.ofChange foldsSpec)

/-- ITS FALSE NEIGHBOUR: 'it returns false'. Refute it at one input. -/
def foldsWrong : ChangeSpec := { name := "folds", fn := fun _ => fun
  | [d] => { results := [.lit (.bool false)], args := [d] }
  | _ => none }
def FoldsWrongFalsely : Prop := foldsRow.holds Tryd.pinned (OpenSpec.ofChange foldsWrong)

/-- 'datebookkeep.Lined': WHATEVER THE INPUT: true; the input reads as it did. -/
def linedSpec : ChangeSpec := { name := "lined", fn := fun _ => fun
  | [d1, d2] => { results := [.lit (.bool true)], args := [d1, d2] }
  | _ => none }
def linedRow : OpenClaim := { program := "ytdhobemladckjaadoor", sum := "b191fe9f75ff76f3ace4bcdbdce4445c7276d1849850a7819e2e88e891d7f762", func := "datebook/datebookkeep.Lined", spec := "lined", inPlace := ["internal/bytealg.IndexByteString", "internal/bytealg.IndexString", "internal/reflectlite.ValueOf", "(internal/reflectlite.Value).Type", "(internal/reflectlite.Value).IsNil", "internal/reflectlite.TypeOf", "(internal/reflectlite.Value).Elem", "(internal/reflectlite.Value).Set", "internal/abi.NoEscape"], unfollowed := true, recurses := true, named := ["datebook/lines.errLong", "datebook/lines.errEnd", "datebook/lines.errGoesOn", "internal/bytealg.MaxLen", "datebook/lines.errUtf8", "datebook/lines.errByte", "unicode/utf8.first", "unicode/utf8.acceptRanges", "errors.errorType"], apart := false, laid := [("unicode/utf8.acceptRanges", laid_unicode_utf8_acceptRanges), ("errors.errorType", laid_errors_errorType), ("datebook/lines.errLong", laid_datebook_lines_errLong), ("datebook/lines.errEnd", laid_datebook_lines_errEnd), ("datebook/lines.errGoesOn", laid_datebook_lines_errGoesOn), ("datebook/lines.errUtf8", laid_datebook_lines_errUtf8), ("datebook/lines.errByte", laid_datebook_lines_errByte), ("unicode/utf8.first", laid_unicode_utf8_first)] }
def LinedSaid : Prop := linedRow.holds Tryd.pinned (OpenSpec.ofChange linedSpec)

/-- ITS FALSE NEIGHBOUR: 'it returns false'. Refute it at one input. -/
def linedWrong : ChangeSpec := { name := "lined", fn := fun _ => fun
  | [d1, d2] => { results := [.lit (.bool false)], args := [d1, d2] }
  | _ => none }
def LinedWrongFalsely : Prop := linedRow.holds Tryd.pinned (OpenSpec.ofChange linedWrong)

/- THE SECOND FORM. 'bulk': how many values and letters a reading holds, each counted each time it is reached (what is shared counts as often as it is met; a slice's spare places count too). A statement '..UptoSaid' is the law's where the arguments, and the package variables that the reading takes, are together of bulk at most 1048576: NARROWER than '..Said'. Prove '..Said' where nothing that the law and all that it calls make is longer than what came in: it says more and counts as full. Else prove '..UptoSaid'. A law counts once. -/
mutual
def uptoBulk {H : Type} : DataW H → Nat
  | .lit (.string bytes) => bytes.length + 1
  | .lit _ => 1
  | .nil => 1
  | .ptr d => uptoBulk d + 1
  | .slice elems spare => uptoBulkAll elems + uptoBulkAll spare + 1
  | .agg parts => uptoBulkAll parts + 1
  | .iface _ d => uptoBulk d + 1
  | .map entries => uptoBulkEntries entries + 1
  | .held _ => 1
def uptoBulkAll {H : Type} : List (DataW H) → Nat
  | [] => 0
  | d :: r => uptoBulk d + uptoBulkAll r
def uptoBulkEntries {H : Type} : List (Lit × DataW H) → Nat
  | [] => 0
  | x :: r => uptoBulkEntry x + uptoBulkEntries r
def uptoBulkEntry {H : Type} : Lit × DataW H → Nat
  | (.string bytes, d) => bytes.length + uptoBulk d + 1
  | (_, d) => uptoBulk d + 1
 end
def uptoSmall : (H : Type) → List (DataW H) → Bool := fun _ ds => decide (uptoBulkAll ds ≤ 1048576)
def OpenSpec.upto (s : _root_.Go.ChangeSpec) : _root_.Go.OpenSpec := { _root_.Go.OpenSpec.ofChange s with cond := some uptoSmall }

/-- 'datebooklaw.Unfolds', WHERE WHAT IT READS IS OF BULK AT MOST 1048576: true; the input reads as it did. -/
def unfoldsUptoRow : OpenClaim := { program := "ytdhobemladckjaadoor", sum := "b191fe9f75ff76f3ace4bcdbdce4445c7276d1849850a7819e2e88e891d7f762", func := "datebook/datebooklaw.Unfolds", spec := "unfolds", inPlace := ["internal/bytealg.IndexByteString", "internal/bytealg.IndexString", "internal/reflectlite.ValueOf", "(internal/reflectlite.Value).Type", "(internal/reflectlite.Value).IsNil", "internal/reflectlite.TypeOf", "(internal/reflectlite.Value).Elem", "(internal/reflectlite.Value).Set"], unfollowed := true, recurses := true, named := ["datebook/lines.errLong", "datebook/lines.errEnd", "datebook/lines.errGoesOn", "internal/bytealg.MaxLen", "datebook/lines.errUtf8", "datebook/lines.errByte", "unicode/utf8.first", "unicode/utf8.acceptRanges", "errors.errorType"], apart := false, laid := [("unicode/utf8.acceptRanges", laid_unicode_utf8_acceptRanges), ("errors.errorType", laid_errors_errorType), ("datebook/lines.errLong", laid_datebook_lines_errLong), ("datebook/lines.errEnd", laid_datebook_lines_errEnd), ("datebook/lines.errGoesOn", laid_datebook_lines_errGoesOn), ("datebook/lines.errUtf8", laid_datebook_lines_errUtf8), ("datebook/lines.errByte", laid_datebook_lines_errByte), ("unicode/utf8.first", laid_unicode_utf8_first)], narrowed := true }
def UnfoldsUptoSaid : Prop := unfoldsUptoRow.holds Tryd.pinned (OpenSpec.upto unfoldsSpec)

/-- 'datebooklaw.Folds', WHERE WHAT IT READS IS OF BULK AT MOST 1048576: true; the input reads as it did. -/
def foldsUptoRow : OpenClaim := { program := "ytdhobemladckjaadoor", sum := "b191fe9f75ff76f3ace4bcdbdce4445c7276d1849850a7819e2e88e891d7f762", func := "datebook/datebooklaw.Folds", spec := "folds", inPlace := ["internal/abi.NoEscape"], named := ["datebook/lines.errLong", "datebook/lines.errGoesOn", "datebook/lines.errUtf8", "datebook/lines.errByte", "unicode/utf8.first", "unicode/utf8.acceptRanges"], apart := false, laid := [("unicode/utf8.acceptRanges", laid_unicode_utf8_acceptRanges), ("datebook/lines.errLong", laid_datebook_lines_errLong), ("datebook/lines.errGoesOn", laid_datebook_lines_errGoesOn), ("datebook/lines.errUtf8", laid_datebook_lines_errUtf8), ("datebook/lines.errByte", laid_datebook_lines_errByte), ("unicode/utf8.first", laid_unicode_utf8_first)], narrowed := true }
def FoldsUptoSaid : Prop := foldsUptoRow.holds Tryd.pinned (OpenSpec.upto foldsSpec)

/-- 'datebookkeep.Lined', WHERE WHAT IT READS IS OF BULK AT MOST 1048576: true; the input reads as it did. -/
def linedUptoRow : OpenClaim := { program := "ytdhobemladckjaadoor", sum := "b191fe9f75ff76f3ace4bcdbdce4445c7276d1849850a7819e2e88e891d7f762", func := "datebook/datebookkeep.Lined", spec := "lined", inPlace := ["internal/bytealg.IndexByteString", "internal/bytealg.IndexString", "internal/reflectlite.ValueOf", "(internal/reflectlite.Value).Type", "(internal/reflectlite.Value).IsNil", "internal/reflectlite.TypeOf", "(internal/reflectlite.Value).Elem", "(internal/reflectlite.Value).Set", "internal/abi.NoEscape"], unfollowed := true, recurses := true, named := ["datebook/lines.errLong", "datebook/lines.errEnd", "datebook/lines.errGoesOn", "internal/bytealg.MaxLen", "datebook/lines.errUtf8", "datebook/lines.errByte", "unicode/utf8.first", "unicode/utf8.acceptRanges", "errors.errorType"], apart := false, laid := [("unicode/utf8.acceptRanges", laid_unicode_utf8_acceptRanges), ("errors.errorType", laid_errors_errorType), ("datebook/lines.errLong", laid_datebook_lines_errLong), ("datebook/lines.errEnd", laid_datebook_lines_errEnd), ("datebook/lines.errGoesOn", laid_datebook_lines_errGoesOn), ("datebook/lines.errUtf8", laid_datebook_lines_errUtf8), ("datebook/lines.errByte", laid_datebook_lines_errByte), ("unicode/utf8.first", laid_unicode_utf8_first)], narrowed := true }
def LinedUptoSaid : Prop := linedUptoRow.holds Tryd.pinned (OpenSpec.upto linedSpec)

end Rows
end Go.Proofs.YtdhobemladckjaaDoor
