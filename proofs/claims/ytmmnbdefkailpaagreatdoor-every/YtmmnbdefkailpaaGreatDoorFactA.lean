/- The closed facts of Every's row, one by one: those that are small. -/
import Derived.Test.YtmmnbdefkailpaaGreatDoorRows
import Derived.JoinedOf
namespace Go.Proofs.YtmmnbdefkailpaaGreatDoor
open Go
set_option maxRecDepth 100000
theorem fact1 : Rows.everyRow.wf (OpenSpec.ofChange Rows.everySpec) = true := by kernel_rfl
theorem fact2 : laidOutB Tryz.prog = true := by kernel_rfl
theorem fact3 : mapsRowed Tryz.prog = true := by kernel_rfl
theorem fact4 : Tryz.f3.params.all (Tryz.prog.readableRec ·) = true := by kernel_rfl
theorem fact5 : namedTie Tryz.prog Rows.everyRow.named Rows.everySpec.vars = true := by kernel_rfl
theorem fact6 : (Rows.everyRow.stops == []) = true := by kernel_rfl
theorem fact7 : (Tryz.prog.stops == []) = true := by kernel_rfl
theorem fact8 : (Rows.everyRow.knobs == []) = true := by kernel_rfl
theorem fact9 : (Tryz.prog.stopKnobs == []) = true := by kernel_rfl
theorem fact14 : (Rows.everyRow.maps == (Tryz.f3.params.toList ++ Rows.everySpec.plain.varTypes Tryz.prog).any (Tryz.prog.mapsRec ·)) = true := by kernel_rfl
theorem fact15 : (Rows.everyRow.ifaces == (Tryz.f3.params.toList ++ Rows.everySpec.plain.varTypes Tryz.prog).any (Tryz.prog.ifacesRec ·)) = true := by kernel_rfl
theorem fact16 : (Rows.everyRow.mapsOut == Tryz.prog.mapsAmong Tryz.f3.resultTypes.toList) = true := by kernel_rfl
theorem fact17 : (Rows.everyRow.loops == (Tryz.f3.params.toList ++ Rows.everySpec.plain.varTypes Tryz.prog).any (Tryz.prog.loopsFrom ·)) = true := by kernel_rfl
theorem fact17b : (Rows.everyRow.wideKeys == (Tryz.f3.params.toList ++ Rows.everySpec.plain.varTypes Tryz.prog ++ Tryz.f3.resultTypes.toList).any (Tryz.prog.wideKeysFrom ·)) = true := by kernel_rfl
theorem fact18 : Rows.everySpec.vars.all (Tryz.prog.varReadable ·) = true := by kernel_rfl
theorem fact19 : Tryz.f3.resultTypes.all (fun t => Tryz.prog.readableRec t && decide (t < Tryz.prog.types.size)) = true := by kernel_rfl
theorem fact20 : (Rows.everyRow.ifacesOut == Tryz.f3.resultTypes.toList.any (Tryz.prog.ifacesRec ·)) = true := by kernel_rfl
theorem fact21 : (Rows.everyRow.loopsOut == Tryz.f3.resultTypes.toList.any (Tryz.prog.loopsFrom ·)) = true := by kernel_rfl
theorem fact22 : (Rows.everyRow.plainKeys == Tryz.prog.plainKeys) = true := by kernel_rfl
theorem fact23 : Rows.everyRow.shortTexts.isNone = true := by kernel_rfl
theorem fact23b : Tryz.prog.stopsHeard = true := by kernel_rfl
theorem fact24 : Tryz.prog.mayEnter = true := by kernel_rfl
theorem fact24b : (Rows.everyRow.lifted == Tryz.prog.liftsFinal) = true := by kernel_rfl
theorem fact24c : (Tryz.prog.make == some Rows.everyRow.make) = true := by kernel_rfl
theorem fact25 : (Rows.everyRow.kinds == (if Rows.everyRow.domain.isEmpty then [] else Tryz.f3.params.toList.map fun t => match Tryz.prog.underlying t with | some (.int k) => some k | _ => none)) = true := by kernel_rfl
theorem fact26 : (Rows.everyRow.pinned == Rows.everyRow.pinnedBy) = true := by kernel_rfl
theorem fact27 : (Rows.everyRow.veiled == (Tryz.f3.params.toList ++ Rows.everySpec.plain.varTypes Tryz.prog ++ Tryz.f3.resultTypes.toList).any (Tryz.prog.veiledRec ·)) = true := by kernel_rfl
theorem fact28 : Rows.everyRow.veiledFits Tryz.prog Tryz.f3.params.toList (Tryz.f3.params.toList ++ Rows.everySpec.plain.varTypes Tryz.prog ++ Tryz.f3.resultTypes.toList) = true := by kernel_rfl
end Go.Proofs.YtmmnbdefkailpaaGreatDoor
