/- The tie of Every's row: the listed variables lie behind the door's run as the row's data say; by the groups. -/
import Derived.Test.YtmmnbdefkailpaaGreatDoorEvT1
import Derived.Test.YtmmnbdefkailpaaGreatDoorEvT2
import Derived.Test.YtmmnbdefkailpaaGreatDoorEvT3
import Derived.Test.YtmmnbdefkailpaaGreatDoorEvT4
import Derived.Test.YtmmnbdefkailpaaGreatDoorEvT5
import Derived.Test.YtmmnbdefkailpaaGreatDoorEvT6
import Derived.Test.YtmmnbdefkailpaaGreatDoorEvT7
namespace Go.Proofs.YtmmnbdefkailpaaGreatDoor
open Go
set_option maxRecDepth 100000

theorem run_all (os : Os) (tape : Tape) : DataW.laidRun Tryz.prog (varsWorld Tryz.prog 520 (varsId Tryz.prog) os tape).memory 8 (plainTie.map (·.1)) = some (plainTie, placesAll) ∧ laidRowsB Tryz.prog (varsWorld Tryz.prog 520 (varsId Tryz.prog) os tape).memory placesAll = true := by
  have h := grp_join (grp_get (grp_0 os tape)) (grp_join (grp_get (grp_1 os tape)) (grp_join (grp_get (grp_2 os tape)) (grp_join (grp_get (grp_3 os tape)) (grp_get (grp_4 os tape)))))
  simp only [← List.map_append] at h
  exact h

theorem tie : Tryz.prog.laidByTextLater tieLaid [.data, .data, .data, .data, .sentinel, .sentinel, .sentinel, .sentinel, .sentinel, .data, .handle, .sentinel, .sentinel, .data, .sentinel, .sentinel, .sentinel, .sentinel, .sentinel, .sentinel, .sentinel, .sentinel, .sentinel, .sentinel, .data, .sentinel, .sentinel, .sentinel, .sentinel, .sentinel, .data, .sentinel, .sentinel] true :=
  Program.laidByTextLater_by_run_h 520 8 (by kernel_rfl) (by kernel_rfl) (by kernel_rfl) (by kernel_rfl) (by kernel_rfl) (by kernel_rfl) door_done
    (fun os tape => by
      rw [plainTie_eq]
      have h := (run_all os tape).1
      rw [h, Option.map_some])
    (fun os tape => by
      rw [plainTie_eq]
      have h := run_all os tape
      rw [h.1, Option.map_some]
      simp only [h.2, decide_eq_true placesAll_nodup, Bool.and_self])
    door_handle
theorem pin_laid_unicode_utf8_first : Tryz.pinned.checked.prog.pinnedFits "unicode/utf8.first" = true := by kernel_rfl
theorem fits1 : Tryz.pinned.checked.prog.listedFits [("datebook/calendar.monthLengths", Rows.laid_datebook_calendar_monthLengths), ("internal/strconv.uint64pow10", Rows.laid_internal_strconv_uint64pow10), ("math/bits.deBruijn32tab", Rows.laid_math_bits_deBruijn32tab), ("math/bits.deBruijn64tab", Rows.laid_math_bits_deBruijn64tab), ("datebook/lines.errLong", Rows.laid_datebook_lines_errLong), ("datebook/lines.errEnd", Rows.laid_datebook_lines_errEnd), ("datebook/lines.errGoesOn", Rows.laid_datebook_lines_errGoesOn), ("datebook/lines.errUtf8", Rows.laid_datebook_lines_errUtf8), ("datebook/lines.errByte", Rows.laid_datebook_lines_errByte), ("unicode/utf8.first", Rows.laid_unicode_utf8_first), ("unicode/utf8.acceptRanges", Rows.laid_unicode_utf8_acceptRanges), ("errors.errorType", Rows.laid_errors_errorType), ("datebook/event.errFrame", Rows.laid_datebook_event_errFrame), ("datebook/event.errName", Rows.laid_datebook_event_errName), ("datebook/event.lineNames", Rows.laid_datebook_event_lineNames), ("datebook/event.errTwice", Rows.laid_datebook_event_errTwice), ("datebook/event.errMissing", Rows.laid_datebook_event_errMissing), ("datebook/event.errLong", Rows.laid_datebook_event_errLong), ("datebook/event.errByte", Rows.laid_datebook_event_errByte), ("datebook/event.errEscape", Rows.laid_datebook_event_errEscape), ("datebook/event.errDate", Rows.laid_datebook_event_errDate), ("datebook/event.errLength", Rows.laid_datebook_event_errLength), ("datebook/event.errTogether", Rows.laid_datebook_event_errTogether), ("datebook/event.errDuration", Rows.laid_datebook_event_errDuration), ("datebook/event.errPart", Rows.laid_datebook_event_errPart), ("datebook/event.freqNames", Rows.laid_datebook_event_freqNames), ("datebook/event.errFreq", Rows.laid_datebook_event_errFreq), ("datebook/pieces.ErrNumber", Rows.laid_datebook_pieces_ErrNumber), ("strconv.ErrSyntax", Rows.laid_strconv_ErrSyntax), ("strconv.ErrRange", Rows.laid_strconv_ErrRange), ("datebook/event.errMany", Rows.laid_datebook_event_errMany), ("datebook/event.weekdayNames", Rows.laid_datebook_event_weekdayNames), ("datebook/event.errWeekday", Rows.laid_datebook_event_errWeekday), ("datebook/event.errFirst", Rows.laid_datebook_event_errFirst)] = true := by kernel_rfl
theorem every_row_tie : Rows.everyRow.laidByTextAt .later Tryz.pinned [.data, .data, .data, .data, .sentinel, .sentinel, .sentinel, .sentinel, .sentinel, .pinned, .data, .handle, .sentinel, .sentinel, .data, .sentinel, .sentinel, .sentinel, .sentinel, .sentinel, .sentinel, .sentinel, .sentinel, .sentinel, .sentinel, .data, .sentinel, .sentinel, .sentinel, .sentinel, .sentinel, .data, .sentinel, .sentinel] true :=
  OpenClaim.laidByTextAt_pinned rfl rfl tie rfl rfl rfl rfl (fun y hy _e => by
    simp only [Rows.everyRow, List.zip_cons_cons, List.zip_nil_right, List.mem_cons, List.mem_nil_iff, or_false] at hy
    rcases hy with rfl | rfl | rfl | rfl | rfl | rfl | rfl | rfl | rfl | rfl | rfl | rfl | rfl | rfl | rfl | rfl | rfl | rfl | rfl | rfl | rfl | rfl | rfl | rfl | rfl | rfl | rfl | rfl | rfl | rfl | rfl | rfl | rfl | rfl
    · cases _e
    · cases _e
    · cases _e
    · cases _e
    · cases _e
    · cases _e
    · cases _e
    · cases _e
    · cases _e
    · exact ⟨pin_laid_unicode_utf8_first, by kernel_rfl⟩
    · cases _e
    · cases _e
    · cases _e
    · cases _e
    · cases _e
    · cases _e
    · cases _e
    · cases _e
    · cases _e
    · cases _e
    · cases _e
    · cases _e
    · cases _e
    · cases _e
    · cases _e
    · cases _e
    · cases _e
    · cases _e
    · cases _e
    · cases _e
    · cases _e
    · cases _e
    · cases _e
    · cases _e) fits1
end Go.Proofs.YtmmnbdefkailpaaGreatDoor
