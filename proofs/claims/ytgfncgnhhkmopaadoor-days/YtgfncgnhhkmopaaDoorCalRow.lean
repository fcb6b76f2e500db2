/-
  What the listed table of months' lengths gives the walks (its twelve cells), and a start that meets the condition: the heap that the program's own start-up leaves.
-/
import Derived.Test.YtgfncgnhhkmopaaDoorRows
import Derived.Test.YtgfncgnhhkmopaaDoorCivA
import Derived.ProofKit
import Derived.LaidMore
import Derived.OpenShut
import Derived.Stop.Joined
namespace Go.Proofs.YtgfncgnhhkmopaaDoor
open Go.ChangeShapes Go.WideShapes Go.ChangeAt Go.WideMaps Go.WideElems Go.RowKit

theorem own : ownKnob Tryd.prog.godebug = none := by kernel_rfl
theorem gMonths : Tryd.prog.globalNamed "datebook/calendar.monthLengths" = some 0 := by kernel_rfl
theorem tMonths : (Tryd.prog.globals[0]?).map (·.type) = some 39 := by kernel_rfl
theorem cells3 : Tryd.prog.cellsOf 3 = 1 := by kernel_rfl

/-- The lengths, as numbers. -/
def lens : List Int := [31, 28, 31, 30, 31, 30, 31, 31, 30, 31, 30, 31]
theorem take_drop_one {α : Type} : ∀ (l : List α) (i : Nat) (v : α), (l.drop i).take 1 = [v] → l[i]? = some v
  | [], i, v, h => by simp at h
  | a :: l, 0, v, h => by simpa using h
  | a :: l, i + 1, v, h => by simpa using take_drop_one l i v (by simpa using h)

theorem laid_cell {W : World} (h : laidMetH Tryd.prog Rows.daysRow.laid W) (i : Nat) (hi : i < 12) : W.cell? ⟨0, i, none⟩ = some (.int .i64 (lens.getD i 0)) := by
  rw [MakeChecks.laidMetH_plain _ _ _ (by kernel_rfl)] at h
  obtain ⟨ps, ⟨g0, t0, cs0, f0, p0, q0, hg0, ht0, hv0, hd0, _, _⟩, _, _⟩ := h
  obtain rfl := Option.some.inj (gMonths.symm.trans hg0)
  obtain rfl := Option.some.inj (tMonths.symm.trans ht0)
  obtain ⟨xs, m1, rfl, hx1, hlen, hn, hel⟩ := DataW.trod_array Tryd.underlying39 hd0
  have h0 := hel i hi
  rw [cells3, Nat.mul_one] at h0
  have hxi : xs[i]? = some xs[i] := List.getElem?_eq_getElem (by omega)
  rw [hxi] at h0
  obtain ⟨k, e1, e2, _⟩ := DataW.trod_int Tryd.underlying3 h0
  have hc := World.var?_cell hg0 hv0 i
  have e3 : cs0[i]? = some (.int .i64 k) := by
    rw [← Array.getElem?_toList]; exact take_drop_one _ _ _ e1
  rw [hc, e3]
  simp only [Prod.mk.injEq] at hx1
  have hx2 : lens.map (fun k => (DataW.lit (.int .i64 k) : DataW Unit)) = xs.map (fun x => x.1) := by
    have := hx1.1
    unfold Rows.laid_datebook_calendar_monthLengths at this
    simpa [lens] using this
  have hx3 : (lens.map (fun k => (DataW.lit (.int .i64 k) : DataW Unit)))[i]? = (xs.map (fun x => x.1))[i]? := by rw [hx2]
  rw [List.getElem?_map, List.getElem?_map, hxi] at hx3
  have hl : lens[i]? = some lens[i] := List.getElem?_eq_getElem (by simpa [lens] using hi)
  rw [hl] at hx3
  simp only [Option.map_some, Option.some.injEq, e2, DataW.lit.injEq, Lit.int.injEq, true_and] at hx3
  rw [List.getD_eq_getElem?_getD, hl, ← hx3]
  rfl

theorem tab_of_laid {W : World} (h : laidMetH Tryd.prog Rows.daysRow.laid W) : Tab W :=
  ⟨laid_cell h 0 (by decide), laid_cell h 1 (by decide), laid_cell h 2 (by decide), laid_cell h 3 (by decide), laid_cell h 4 (by decide), laid_cell h 5 (by decide), laid_cell h 6 (by decide), laid_cell h 7 (by decide), laid_cell h 8 (by decide), laid_cell h 9 (by decide), laid_cell h 10 (by decide), laid_cell h 11 (by decide)⟩

/-- The door's own heap meets the condition. -/
theorem door_met (os : Os) (args : Array Value) : laidMetH Tryd.prog Rows.daysRow.laid ((World.doorLaid Tryd.prog 14 os).forCall (fun _ _ => 0) ⟨#[], args, []⟩).memory :=
  laidMetH_of_parts3 (fuel := 8) (laidMet_of_run' 8 (by kernel_rfl) (by kernel_rfl)) (by kernel_rfl) (by kernel_rfl)
end Go.Proofs.YtgfncgnhhkmopaaDoor
