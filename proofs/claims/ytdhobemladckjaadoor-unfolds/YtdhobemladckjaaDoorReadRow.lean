/- What the listed variables give the walks that read texts; a start that meets the condition; the wrap that keeps the world's shape beside the listed variables. -/
import Derived.Test.YtdhobemladckjaaDoorUnD
import Derived.Test.YtdhobemladckjaaDoorRows
import Derived.ProofKit
import Derived.Lay
import Derived.LaidMore
import Derived.LaidHandle
import Derived.HandedShaped
import Derived.Shelf.Vars
import Derived.OpenShut
import Derived.Carry
import Derived.SizedLaws
import Derived.Stop.Joined
import Derived.Stop.LaidErr
import Derived.PinnedBridge
import Derived.Lib.LaidU8T
namespace Go.Proofs.YtdhobemladckjaaDoor
open Go.ChangeShapes Go.WideShapes Go.ChangeAt Go.WideMaps Go.WideElems Go.RowKit
set_option linter.unusedVariables false

theorem own : ownKnob Tryd.prog.godebug = none := by kernel_rfl
theorem laidOut' : laidOutB Tryd.prog = true := by kernel_rfl
theorem cells9 : Tryd.prog.cellsOf 9 = 1 := by kernel_rfl
theorem cells149 : Tryd.prog.cellsOf 149 = 1 := by kernel_rfl
theorem star : "*" ++ "errors.errorString" = "*errors.errorString" := by decide
theorem row131 (u : TypeId) (h : Tryd.prog.typeName? 3 u = some "*errors.errorString") : u = 131 :=
  typeName_ptr_named (nm := "errors.errorString") (by rw [star]; kernel_rfl) (by kernel_rfl) (by decide) u (by rw [star]; exact h)
theorem gLong : Tryd.prog.globalNamed "datebook/lines.errLong" = some 0 := by kernel_rfl
theorem gEnd : Tryd.prog.globalNamed "datebook/lines.errEnd" = some 1 := by kernel_rfl
theorem gGoes : Tryd.prog.globalNamed "datebook/lines.errGoesOn" = some 2 := by kernel_rfl
theorem gType : Tryd.prog.globalNamed "errors.errorType" = some 3 := by kernel_rfl
theorem gUtf : Tryd.prog.globalNamed "datebook/lines.errUtf8" = some 4 := by kernel_rfl
theorem gByte : Tryd.prog.globalNamed "datebook/lines.errByte" = some 5 := by kernel_rfl
theorem tLong : (Tryd.prog.globals[0]?).map (·.type) = some 42 := by kernel_rfl
theorem tEnd : (Tryd.prog.globals[1]?).map (·.type) = some 42 := by kernel_rfl
theorem tGoes : (Tryd.prog.globals[2]?).map (·.type) = some 42 := by kernel_rfl
theorem tUtf : (Tryd.prog.globals[4]?).map (·.type) = some 42 := by kernel_rfl
theorem tByte : (Tryd.prog.globals[5]?).map (·.type) = some 42 := by kernel_rfl
theorem u8x : U8Extra Tryd.prog lays196_ren := ⟨by kernel_rfl, by kernel_rfl, by kernel_rfl, by kernel_rfl, by kernel_rfl, by kernel_rfl, by kernel_rfl⟩
theorem accept_eq : Rows.laid_unicode_utf8_acceptRanges = Lib.acceptData := by kernel_rfl
theorem rt : (Tryd.prog.cutTypes.find? (·.1 == "internal/reflectlite.rtype")).map (·.2) = some 103 := by kernel_rfl
theorem oneRow : ((List.range 160).filter fun t => Tryd.prog.rowNamed t [101, 114, 114, 111, 114]) = [42] := by kernel_rfl
theorem tsize : Tryd.prog.types.size = 160 := by kernel_rfl

/-- the list without the handle -/
def plainLaid : List (String × DataW Unit) := [("unicode/utf8.acceptRanges", Rows.laid_unicode_utf8_acceptRanges), ("datebook/lines.errLong", Rows.laid_datebook_lines_errLong), ("datebook/lines.errEnd", Rows.laid_datebook_lines_errEnd), ("datebook/lines.errGoesOn", Rows.laid_datebook_lines_errGoesOn), ("datebook/lines.errUtf8", Rows.laid_datebook_lines_errUtf8), ("datebook/lines.errByte", Rows.laid_datebook_lines_errByte), ("unicode/utf8.first", Rows.laid_unicode_utf8_first)]
def handleLaid : List (String × DataW Unit) := [("errors.errorType", Rows.laid_errors_errorType)]
theorem plain_eq : (Rows.linedRow.laid.filter fun x => x.2.handleName?.isNone) = plainLaid := by kernel_rfl
theorem handle_eq : (Rows.linedRow.laid.filter fun x => x.2.handleName?.isSome) = handleLaid := by kernel_rfl

theorem parts_of_laid {W : World} (hL : laidMetH Tryd.prog Rows.linedRow.laid W) : laidMet Tryd.prog plainLaid W ∧ handlesMet Tryd.prog handleLaid W := by
  unfold laidMetH at hL
  rw [handle_eq, plain_eq] at hL
  exact hL

theorem handle_cell {W : World} (h : handlesMet Tryd.prog handleLaid W) : W.cell? ⟨3, 0, none⟩ = some (.iface 103 (.agg #[.pointer (some ⟨9, 42, none⟩)])) := by
  obtain ⟨name, u, ty, e1, e2, e3, e4, e5⟩ := h _ (List.mem_singleton.2 rfl)
  have en : name = [101, 114, 114, 111, 114] := (Option.some.inj e1).symm
  subst en
  obtain rfl := Option.some.inj (rt.symm.trans e2)
  have hm : ty ∈ (List.range 160).filter fun t => Tryd.prog.rowNamed t [101, 114, 114, 111, 114] := List.mem_filter.2 ⟨List.mem_range.2 (by rw [← tsize]; exact e3), e4⟩
  rw [oneRow] at hm
  obtain rfl := List.mem_singleton.1 hm
  have hh : typeHandle Tryd.prog 42 = .pointer (some ⟨9, 42, none⟩) := by kernel_rfl
  rw [hh] at e5
  simpa using World.var?_cell gType e5 0

theorem prep4_of_laid {W : World} (hL0 : laidMetH Tryd.prog Rows.linedRow.laid W) (hsh : W.ShapedOpen Tryd.prog) : Prep4 W := by
  obtain ⟨hL, hH⟩ := parts_of_laid hL0
  have hT : Lib.Utf8Tabs (lays196_ren.g 3) (lays196_ren.g 4) W := utf8Tabs_of_readsT (U8Types.of196 lays196) u8x (Pinned.utf8First_eq ▸ Lib.laidMet.reads hL (n := "unicode/utf8.first") (d := Rows.laid_unicode_utf8_first) (by simp [plainLaid])) (accept_eq ▸ Lib.laidMet.reads hL (n := "unicode/utf8.acceptRanges") (d := Rows.laid_unicode_utf8_acceptRanges) (by simp [plainLaid]))
  obtain ⟨a0, _, h0, _⟩ := laid_sentinel hL.tail gLong tLong Tryd.underlying42 row131 Tryd.underlying131 Tryd.underlying149 rfl rfl Tryd.underlying9 cells149 cells9
  obtain ⟨a1, _, h1, _⟩ := laid_sentinel hL.tail.tail gEnd tEnd Tryd.underlying42 row131 Tryd.underlying131 Tryd.underlying149 rfl rfl Tryd.underlying9 cells149 cells9
  obtain ⟨a2, _, h2, _⟩ := laid_sentinel hL.tail.tail.tail gGoes tGoes Tryd.underlying42 row131 Tryd.underlying131 Tryd.underlying149 rfl rfl Tryd.underlying9 cells149 cells9
  obtain ⟨a4, _, h4, _⟩ := laid_sentinel hL.tail.tail.tail.tail gUtf tUtf Tryd.underlying42 row131 Tryd.underlying131 Tryd.underlying149 rfl rfl Tryd.underlying9 cells149 cells9
  obtain ⟨a5, _, h5, _⟩ := laid_sentinel hL.tail.tail.tail.tail.tail gByte tByte Tryd.underlying42 row131 Tryd.underlying131 Tryd.underlying149 rfl rfl Tryd.underlying9 cells149 cells9
  have c0 : W.cell? ⟨0, 0, none⟩ = some (.iface 131 (.pointer (some a0))) := by simpa using World.var?_cell gLong h0 0
  exact ⟨⟨⟨⟨⟨131, a0, c0⟩, ⟨131, a2, by simpa using World.var?_cell gGoes h2 0⟩, ⟨131, a4, by simpa using World.var?_cell gUtf h4 0⟩, ⟨131, a5, by simpa using World.var?_cell gByte h5 0⟩, hT, World.block_lt_of_cell? W ⟨7, 0, none⟩ (hT.2 0 (by decide)).1⟩, ⟨131, a1, by simpa using World.var?_cell gEnd h1 0⟩, cell_of_shapedOpen_int (zero := #[.int .i64 0]) (t := 3) hsh (by decide +kernel) (by kernel_rfl) rfl (by kernel_rfl) (by kernel_rfl) Tryd.underlying3⟩, ⟨a0, c0⟩⟩, handle_cell hH⟩

/-- a start that meets the condition -/
theorem start_met (os : Os) (args : Array Value) :
    laidMetH Tryd.prog Rows.linedRow.laid (((({ World.holding Tryd.prog os ⟨#[], #[], []⟩ with heap := (World.holding Tryd.prog os ⟨#[], #[], []⟩).heap.setIfInBounds 3 (.cells #[.iface 103 (.agg #[.pointer (some ⟨9, 42, none⟩)])] 90) } : World).layVars Tryd.prog plainLaid)).forCall (fun _ _ => 0) ⟨#[], args, []⟩).memory := by
  refine laidMetH_of_parts ?_ (by kernel_rfl)
  rw [plain_eq]
  refine laidMet.of_heap (w := (({ World.holding Tryd.prog os ⟨#[], #[], []⟩ with heap := (World.holding Tryd.prog os ⟨#[], #[], []⟩).heap.setIfInBounds 3 (.cells #[.iface 103 (.agg #[.pointer (some ⟨9, 42, none⟩)])] 90) } : World).layVars Tryd.prog plainLaid)) (by simp [World.memory, World.forCall, Input.heap]) ?_
  have e1 : (plainLaid.filter fun x => (plainLaid.map (·.1)).contains x.1) = plainLaid := by kernel_rfl
  have e2 : (plainLaid.filter fun x => !(plainLaid.map (·.1)).contains x.1) = [] := by kernel_rfl
  exact laidMet_layVars (plainLaid.map (·.1)) [] (by rw [e1]) (by rw [e1]; kernel_rfl) (by rw [e1]; kernel_rfl) (by rw [e2]; exact LaidIn.none)
end Go.Proofs.YtdhobemladckjaaDoor
