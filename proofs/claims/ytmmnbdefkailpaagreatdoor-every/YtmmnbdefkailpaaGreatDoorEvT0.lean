/- What the door of the program leaves in the listed variables, read by groups of them: the definitions, and how two readings join. -/
import Derived.Test.YtmmnbdefkailpaaGreatDoorRows
import Derived.LaidByTextLater
import Derived.SevenTiedAt
import Derived.LaidOnce
namespace Go.Proofs.YtmmnbdefkailpaaGreatDoor
open Go
set_option maxRecDepth 100000

theorem grp_get {w : World} {ns : List String} {l : List (String × DataW Unit)} {p : List MemPlace} (h : (DataW.laidRun Tryz.prog w 8 ns).map (fun x => (x.1, x.2, laidRowsB Tryz.prog w x.2)) = some (l, p, true)) : DataW.laidRun Tryz.prog w 8 ns = some (l, p) ∧ laidRowsB Tryz.prog w p = true := by
  cases hx : DataW.laidRun Tryz.prog w 8 ns with
  | none => rw [hx] at h; cases h
  | some x =>
    obtain ⟨a, b⟩ := x
    rw [hx] at h
    simp only [Option.map_some, Option.some.injEq, Prod.mk.injEq] at h
    obtain ⟨e1, e2, e3⟩ := h
    subst e1 e2
    exact ⟨rfl, e3⟩

theorem laidRun_app {P : Program} {w : World} {fuel : Nat} {ms : List String} {y : List (String × DataW Unit) × List MemPlace} (hy : DataW.laidRun P w fuel ms = some y) :
    ∀ {ns : List String} {x : List (String × DataW Unit) × List MemPlace}, DataW.laidRun P w fuel ns = some x → DataW.laidRun P w fuel (ns ++ ms) = some (x.1 ++ y.1, x.2 ++ y.2) := by
  intro ns
  induction ns with
  | nil =>
    intro x hx
    have e : x = ([], []) := by simpa [DataW.laidRun] using hx.symm
    subst e
    exact hy
  | cons a r ih =>
    intro x hx
    unfold DataW.laidRun at hx
    split at hx
    · rename_i g hg
      split at hx
      · rename_i t cs ht hcs
        split at hx
        · rename_i u v hu hv
          have e := (Option.some.inj hx).symm
          subst e
          rw [List.cons_append]
          unfold DataW.laidRun
          simp only [hg, ht, hcs, hu, ih hv, List.cons_append, List.append_assoc]
        · cases hx
      · cases hx
    · cases hx

theorem grp_join {w : World} {ns ms : List String} {l m : List (String × DataW Unit)} {p q : List MemPlace} (h1 : DataW.laidRun Tryz.prog w 8 ns = some (l, p) ∧ laidRowsB Tryz.prog w p = true) (h2 : DataW.laidRun Tryz.prog w 8 ms = some (m, q) ∧ laidRowsB Tryz.prog w q = true) :
    DataW.laidRun Tryz.prog w 8 (ns ++ ms) = some (l ++ m, p ++ q) ∧ laidRowsB Tryz.prog w (p ++ q) = true := by
  refine ⟨laidRun_app h2.1 h1.1, ?_⟩
  have a := h1.2
  have b := h2.2
  unfold laidRowsB at a b ⊢
  rw [List.all_append, a, b]
  rfl

def laid0 : List (String × DataW Unit) := [("datebook/calendar.monthLengths", Rows.laid_datebook_calendar_monthLengths), ("internal/strconv.uint64pow10", Rows.laid_internal_strconv_uint64pow10), ("math/bits.deBruijn32tab", Rows.laid_math_bits_deBruijn32tab), ("math/bits.deBruijn64tab", Rows.laid_math_bits_deBruijn64tab)]
def places0 : List MemPlace := (List.range 12).map (MemPlace.cell 0) ++ (List.range 20).map (MemPlace.cell 3) ++ (List.range 32).map (MemPlace.cell 20) ++ (List.range 64).map (MemPlace.cell 21)
def laid1 : List (String × DataW Unit) := [("datebook/lines.errLong", Rows.laid_datebook_lines_errLong), ("datebook/lines.errEnd", Rows.laid_datebook_lines_errEnd), ("datebook/lines.errGoesOn", Rows.laid_datebook_lines_errGoesOn), ("datebook/lines.errUtf8", Rows.laid_datebook_lines_errUtf8), ("datebook/lines.errByte", Rows.laid_datebook_lines_errByte), ("unicode/utf8.acceptRanges", Rows.laid_unicode_utf8_acceptRanges)]
def places1 : List MemPlace := [.cell 1 0, .cell 43 0] ++ [.cell 4 0, .cell 44 0] ++ [.cell 5 0, .cell 45 0] ++ [.cell 15 0, .cell 46 0] ++ [.cell 16 0, .cell 47 0] ++ (List.range 32).map (MemPlace.cell 23)
def laid2 : List (String × DataW Unit) := [("datebook/event.errFrame", Rows.laid_datebook_event_errFrame), ("datebook/event.errName", Rows.laid_datebook_event_errName), ("datebook/event.lineNames", Rows.laid_datebook_event_lineNames), ("datebook/event.errTwice", Rows.laid_datebook_event_errTwice), ("datebook/event.errMissing", Rows.laid_datebook_event_errMissing), ("datebook/event.errLong", Rows.laid_datebook_event_errLong), ("datebook/event.errByte", Rows.laid_datebook_event_errByte)]
def places2 : List MemPlace := [.cell 6 0, .cell 48 0] ++ [.cell 7 0, .cell 49 0] ++ (List.range 16).map (MemPlace.cell 17) ++ [.cell 8 0, .cell 50 0] ++ [.cell 9 0, .cell 51 0] ++ [.cell 10 0, .cell 52 0] ++ [.cell 11 0, .cell 53 0]
def laid3 : List (String × DataW Unit) := [("datebook/event.errEscape", Rows.laid_datebook_event_errEscape), ("datebook/event.errDate", Rows.laid_datebook_event_errDate), ("datebook/event.errLength", Rows.laid_datebook_event_errLength), ("datebook/event.errTogether", Rows.laid_datebook_event_errTogether), ("datebook/event.errDuration", Rows.laid_datebook_event_errDuration), ("datebook/event.errPart", Rows.laid_datebook_event_errPart), ("datebook/event.freqNames", Rows.laid_datebook_event_freqNames), ("datebook/event.errFreq", Rows.laid_datebook_event_errFreq)]
def places3 : List MemPlace := [.cell 24 0, .cell 54 0] ++ [.cell 18 0, .cell 55 0] ++ [.cell 12 0, .cell 57 0] ++ [.cell 13 0, .cell 62 0] ++ [.cell 25 0, .cell 56 0] ++ [.cell 19 0, .cell 60 0] ++ (List.range 4).map (MemPlace.cell 27) ++ [.cell 28 0, .cell 59 0]
def laid4 : List (String × DataW Unit) := [("datebook/pieces.ErrNumber", Rows.laid_datebook_pieces_ErrNumber), ("strconv.ErrSyntax", Rows.laid_strconv_ErrSyntax), ("strconv.ErrRange", Rows.laid_strconv_ErrRange), ("datebook/event.errMany", Rows.laid_datebook_event_errMany), ("datebook/event.weekdayNames", Rows.laid_datebook_event_weekdayNames), ("datebook/event.errWeekday", Rows.laid_datebook_event_errWeekday), ("datebook/event.errFirst", Rows.laid_datebook_event_errFirst)]
def places4 : List MemPlace := [.cell 29 0, .cell 42 0] ++ [.cell 33 0, .cell 41 0] ++ [.cell 34 0, .cell 40 0] ++ [.cell 26 0, .cell 61 0] ++ (List.range 7).map (MemPlace.cell 30) ++ [.cell 31 0, .cell 58 0] ++ [.cell 14 0, .cell 63 0]
def plainTie : List (String × DataW Unit) := laid0 ++ (laid1 ++ (laid2 ++ (laid3 ++ laid4)))
def placesAll : List MemPlace := places0 ++ (places1 ++ (places2 ++ (places3 ++ places4)))
/-- the whole list, the handle with it -/
def tieLaid : List (String × DataW Unit) := [("datebook/calendar.monthLengths", Rows.laid_datebook_calendar_monthLengths), ("internal/strconv.uint64pow10", Rows.laid_internal_strconv_uint64pow10), ("math/bits.deBruijn32tab", Rows.laid_math_bits_deBruijn32tab), ("math/bits.deBruijn64tab", Rows.laid_math_bits_deBruijn64tab), ("datebook/lines.errLong", Rows.laid_datebook_lines_errLong), ("datebook/lines.errEnd", Rows.laid_datebook_lines_errEnd), ("datebook/lines.errGoesOn", Rows.laid_datebook_lines_errGoesOn), ("datebook/lines.errUtf8", Rows.laid_datebook_lines_errUtf8), ("datebook/lines.errByte", Rows.laid_datebook_lines_errByte), ("unicode/utf8.acceptRanges", Rows.laid_unicode_utf8_acceptRanges), ("errors.errorType", Rows.laid_errors_errorType), ("datebook/event.errFrame", Rows.laid_datebook_event_errFrame), ("datebook/event.errName", Rows.laid_datebook_event_errName), ("datebook/event.lineNames", Rows.laid_datebook_event_lineNames), ("datebook/event.errTwice", Rows.laid_datebook_event_errTwice), ("datebook/event.errMissing", Rows.laid_datebook_event_errMissing), ("datebook/event.errLong", Rows.laid_datebook_event_errLong), ("datebook/event.errByte", Rows.laid_datebook_event_errByte), ("datebook/event.errEscape", Rows.laid_datebook_event_errEscape), ("datebook/event.errDate", Rows.laid_datebook_event_errDate), ("datebook/event.errLength", Rows.laid_datebook_event_errLength), ("datebook/event.errTogether", Rows.laid_datebook_event_errTogether), ("datebook/event.errDuration", Rows.laid_datebook_event_errDuration), ("datebook/event.errPart", Rows.laid_datebook_event_errPart), ("datebook/event.freqNames", Rows.laid_datebook_event_freqNames), ("datebook/event.errFreq", Rows.laid_datebook_event_errFreq), ("datebook/pieces.ErrNumber", Rows.laid_datebook_pieces_ErrNumber), ("strconv.ErrSyntax", Rows.laid_strconv_ErrSyntax), ("strconv.ErrRange", Rows.laid_strconv_ErrRange), ("datebook/event.errMany", Rows.laid_datebook_event_errMany), ("datebook/event.weekdayNames", Rows.laid_datebook_event_weekdayNames), ("datebook/event.errWeekday", Rows.laid_datebook_event_errWeekday), ("datebook/event.errFirst", Rows.laid_datebook_event_errFirst)]
theorem plainTie_eq : (tieLaid.filter fun x => x.2.handleName?.isNone) = plainTie := by kernel_rfl
theorem placesAll_nodup : placesAll.Nodup := (nodupBits_sound (M := 65) (seen := 0) (by kernel_rfl)).1
end Go.Proofs.YtmmnbdefkailpaaGreatDoor
