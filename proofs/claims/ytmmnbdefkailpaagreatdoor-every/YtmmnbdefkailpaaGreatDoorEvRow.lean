/- What the listed variables give the walk. -/
import Derived.Test.YtmmnbdefkailpaaGreatDoorEvZD
import Derived.Test.YtmmnbdefkailpaaGreatDoorRows
import Derived.ProofKit
import Derived.Lay
import Derived.LaidMore
import Derived.LaidHandle
import Derived.HandedShaped
import Derived.Shelf.Vars
import Derived.OpenShut
import Derived.Carry
import Derived.SizedLaws
import Derived.Stop.Joined
import Derived.Stop.LaidErr
import Derived.PinnedBridge
import Derived.Lib.LaidU8T

namespace Go.Proofs.YtmmnbdefkailpaaGreatDoor
open Go.ChangeShapes Go.WideShapes Go.ChangeAt Go.WideMaps Go.WideElems Go.RowKit Go.Shelf
set_option linter.unusedVariables false

theorem own : ownKnob Tryz.prog.godebug = none := by kernel_rfl
theorem cells4 : Tryz.prog.cellsOf 4 = 1 := by kernel_rfl
theorem cells9 : Tryz.prog.cellsOf 9 = 1 := by kernel_rfl
theorem cells220 : Tryz.prog.cellsOf 220 = 2 := by kernel_rfl
theorem cells379 : Tryz.prog.cellsOf 379 = 1 := by kernel_rfl
theorem star : "*" ++ "errors.errorString" = "*errors.errorString" := by decide
theorem row377 (u : TypeId) (h : Tryz.prog.typeName? 3 u = some "*errors.errorString") : u = 377 :=
  typeName_ptr_named (nm := "errors.errorString") (by rw [star]; kernel_rfl) (by kernel_rfl) (by decide) u (by rw [star]; exact h)
def u8ren : Ren := ⟨fun n => n, fun | 119 => 255 | 138 => 257 | 139 => 258 | n => n, fun | 3 => 22 | 4 => 23 | n => n⟩
theorem u8t : U8Types Tryz.prog u8ren := ⟨Tryz.underlying5, Tryz.underlying255, Tryz.underlying257, Tryz.underlying258⟩
theorem u8x : U8Extra Tryz.prog u8ren := ⟨by kernel_rfl, by kernel_rfl, by kernel_rfl, by kernel_rfl, by kernel_rfl, by kernel_rfl, by kernel_rfl⟩
theorem accept_eq : Rows.laid_unicode_utf8_acceptRanges = Lib.acceptData := by kernel_rfl

/-- the list without the handle -/
def plainLaid : List (String × DataW Unit) := [("datebook/calendar.monthLengths", Rows.laid_datebook_calendar_monthLengths), ("internal/strconv.uint64pow10", Rows.laid_internal_strconv_uint64pow10), ("math/bits.deBruijn32tab", Rows.laid_math_bits_deBruijn32tab), ("math/bits.deBruijn64tab", Rows.laid_math_bits_deBruijn64tab), ("datebook/lines.errLong", Rows.laid_datebook_lines_errLong), ("datebook/lines.errEnd", Rows.laid_datebook_lines_errEnd), ("datebook/lines.errGoesOn", Rows.laid_datebook_lines_errGoesOn), ("datebook/lines.errUtf8", Rows.laid_datebook_lines_errUtf8), ("datebook/lines.errByte", Rows.laid_datebook_lines_errByte), ("unicode/utf8.first", Rows.laid_unicode_utf8_first), ("unicode/utf8.acceptRanges", Rows.laid_unicode_utf8_acceptRanges), ("datebook/event.errFrame", Rows.laid_datebook_event_errFrame), ("datebook/event.errName", Rows.laid_datebook_event_errName), ("datebook/event.lineNames", Rows.laid_datebook_event_lineNames), ("datebook/event.errTwice", Rows.laid_datebook_event_errTwice), ("datebook/event.errMissing", Rows.laid_datebook_event_errMissing), ("datebook/event.errLong", Rows.laid_datebook_event_errLong), ("datebook/event.errByte", Rows.laid_datebook_event_errByte), ("datebook/event.errEscape", Rows.laid_datebook_event_errEscape), ("datebook/event.errDate", Rows.laid_datebook_event_errDate), ("datebook/event.errLength", Rows.laid_datebook_event_errLength), ("datebook/event.errTogether", Rows.laid_datebook_event_errTogether), ("datebook/event.errDuration", Rows.laid_datebook_event_errDuration), ("datebook/event.errPart", Rows.laid_datebook_event_errPart), ("datebook/event.freqNames", Rows.laid_datebook_event_freqNames), ("datebook/event.errFreq", Rows.laid_datebook_event_errFreq), ("datebook/pieces.ErrNumber", Rows.laid_datebook_pieces_ErrNumber), ("strconv.ErrSyntax", Rows.laid_strconv_ErrSyntax), ("strconv.ErrRange", Rows.laid_strconv_ErrRange), ("datebook/event.errMany", Rows.laid_datebook_event_errMany), ("datebook/event.weekdayNames", Rows.laid_datebook_event_weekdayNames), ("datebook/event.errWeekday", Rows.laid_datebook_event_errWeekday), ("datebook/event.errFirst", Rows.laid_datebook_event_errFirst)]
theorem plain_eq : (Rows.everyRow.laid.filter fun x => x.2.handleName?.isNone) = plainLaid := by kernel_rfl
theorem laid_plain {W : World} (hL : laidMetH Tryz.prog Rows.everyRow.laid W) : laidMet Tryz.prog plainLaid W := by
  unfold laidMetH at hL
  rw [plain_eq] at hL
  exact hL.1

section
variable {H : Type} {enc : TypeId × Value → H} {w : World} {base : Nat} {sp : Nat → Bool} {held : Bool}
theorem str_of {fuel : Nat} {cs : List Value} {bs : List UInt8} {p : List MemPlace} (h : DataW.trod enc Tryz.prog w base sp held fuel 9 cs = some (.lit (.string bs), p)) : cs = [.string ⟨bs.toArray⟩] := by
  obtain ⟨s, hs, hx, _⟩ := DataW.trod_string Tryz.underlying9 h
  have e := congrArg Prod.fst hx
  simp only [DataW.lit.injEq, Lit.string.injEq] at e
  rw [hs, e]
set_option maxRecDepth 100000 in
theorem sb_of {fuel : Nat} {cs : List Value} {bs : List UInt8} {b : Bool} {p : List MemPlace} (h : DataW.trod enc Tryz.prog w base sp held fuel 220 cs = some (.agg [.lit (.string bs), .lit (.bool b)], p)) : cs = [.string ⟨bs.toArray⟩, .bool b] := by
  obtain ⟨xs, n, rfl, hx, hl, hxl, hall⟩ := DataW.trod_struct Tryz.underlying220 h
  have hxs : xs.map (·.1) = [.lit (.string bs), .lit (.bool b)] := by
    have := congrArg Prod.fst hx
    simpa using this.symm
  rw [cells220] at hl
  match cs, hl with
  | [c0, c1], _ =>
  match xs, hxs, hall with
  | [x0, x1], hxs, hall =>
  simp only [List.map_cons, List.map_nil, List.cons.injEq, and_true] at hxs
  have h0 : DataW.trod enc Tryz.prog w base sp held n 9 (([c0, c1].drop 0).take (Tryz.prog.cellsOf 9)) = some x0 := hall 0 _ rfl
  have h1 : DataW.trod enc Tryz.prog w base sp held n 4 (([c0, c1].drop 1).take (Tryz.prog.cellsOf 4)) = some x1 := hall 1 _ rfl
  rw [cells9] at h0
  rw [cells4] at h1
  obtain ⟨x0a, x0b⟩ := x0
  obtain ⟨x1a, x1b⟩ := x1
  obtain ⟨e0, e1⟩ := hxs
  dsimp only at e0 e1
  subst e0 e1
  have k0 : [c0] = _ := str_of h0
  obtain ⟨b', k1', hx1⟩ := DataW.trod_bool Tryz.underlying4 h1
  have k1 : [c1] = [Value.bool b'] := k1'
  have e := congrArg Prod.fst hx1
  simp only [DataW.lit.injEq, Lit.bool.injEq] at e
  subst e
  simp only [List.cons.injEq, and_true] at k0 k1
  rw [k0, k1]
end
theorem fn_of {W : World} (h : Lib.VarReads Tryz.prog W "datebook/event.freqNames" Rows.laid_datebook_event_freqNames) : FN W := by
  obtain ⟨g, t, cs, fuel, p, hg, hty, hvar, hd⟩ := h
  obtain rfl := Option.some.inj ((show Tryz.prog.globalNamed "datebook/event.freqNames" = some 27 by kernel_rfl).symm.trans hg)
  obtain rfl := Option.some.inj ((show (Tryz.prog.globals[27]?).map (·.type) = some 274 by kernel_rfl).symm.trans hty)
  have k : ∀ (i : Nat) (bs : List UInt8), i < 4 → [DataW.lit (H := Unit) (.string [68, 65, 73, 76, 89]), .lit (.string [87, 69, 69, 75, 76, 89]), .lit (.string [77, 79, 78, 84, 72, 76, 89]), .lit (.string [89, 69, 65, 82, 76, 89])][i]? = some (.lit (.string bs)) → W.cell? ⟨27, i, none⟩ = some (.string ⟨bs.toArray⟩) := fun i bs hi hb => by
    obtain ⟨f', d, q, e1, e2⟩ := Lib.array_elem Tryz.underlying274 hd i hi
    rw [hb] at e1
    obtain rfl := Option.some.inj e1
    rw [cells9, Nat.mul_one] at e2
    have e3 := congrArg (·[0]?) (str_of e2)
    simp only [List.getElem?_take, List.getElem?_drop] at e3
    rw [World.var?_cell hg hvar i, ← Array.getElem?_toList]
    simpa using e3
  exact ⟨k 0 _ (by decide) rfl, k 1 _ (by decide) rfl, k 2 _ (by decide) rfl, k 3 _ (by decide) rfl⟩
theorem ln_of {W : World} (h : Lib.VarReads Tryz.prog W "datebook/event.lineNames" Rows.laid_datebook_event_lineNames) : LN W := by
  obtain ⟨g, t, cs, fuel, p, hg, hty, hvar, hd⟩ := h
  obtain rfl := Option.some.inj ((show Tryz.prog.globalNamed "datebook/event.lineNames" = some 17 by kernel_rfl).symm.trans hg)
  obtain rfl := Option.some.inj ((show (Tryz.prog.globals[17]?).map (·.type) = some 221 by kernel_rfl).symm.trans hty)
  have k : ∀ (i : Nat) (bs : List UInt8) (b : Bool), i < 8 → [DataW.agg (H := Unit) [.lit (.string [85, 73, 68]), .lit (.bool false)], .agg [.lit (.string [83, 85, 77, 77, 65, 82, 89]), .lit (.bool false)], .agg [.lit (.string [68, 84, 83, 84, 65, 82, 84]), .lit (.bool true)], .agg [.lit (.string [68, 84, 69, 78, 68]), .lit (.bool true)], .agg [.lit (.string [68, 85, 82, 65, 84, 73, 79, 78]), .lit (.bool false)], .agg [.lit (.string [82, 82, 85, 76, 69]), .lit (.bool false)], .agg [.lit (.string [82, 68, 65, 84, 69]), .lit (.bool true)], .agg [.lit (.string [69, 88, 68, 65, 84, 69]), .lit (.bool true)]][i]? = some (.agg [.lit (.string bs), .lit (.bool b)]) → W.cell? ⟨17, i * 2, none⟩ = some (.string ⟨bs.toArray⟩) ∧ W.cell? ⟨17, i * 2 + 1, none⟩ = some (.bool b) := fun i bs b hi hb => by
    obtain ⟨f', d, q, e1, e2⟩ := Lib.array_elem Tryz.underlying221 hd i hi
    rw [hb] at e1
    obtain rfl := Option.some.inj e1
    rw [cells220] at e2
    have e3 := congrArg (·[0]?) (sb_of e2)
    have e4 := congrArg (·[1]?) (sb_of e2)
    simp only [List.getElem?_take, List.getElem?_drop] at e3 e4
    rw [World.var?_cell hg hvar (i * 2), World.var?_cell hg hvar (i * 2 + 1), ← Array.getElem?_toList, ← Array.getElem?_toList]
    exact ⟨by simpa using e3, by simpa using e4⟩
  have k0 := k 0 _ _ (by decide) rfl
  have k1 := k 1 _ _ (by decide) rfl
  have k2 := k 2 _ _ (by decide) rfl
  have k3 := k 3 _ _ (by decide) rfl
  have k4 := k 4 _ _ (by decide) rfl
  have k5 := k 5 _ _ (by decide) rfl
  have k6 := k 6 _ _ (by decide) rfl
  have k7 := k 7 _ _ (by decide) rfl
  exact ⟨k0.1, k0.2, k1.1, k1.2, k2.1, k2.2, k3.1, k3.2, k4.1, k4.2, k5.1, k5.2, k6.1, k6.2, k7.1, k7.2⟩
def lens : List Int := [31, 28, 31, 30, 31, 30, 31, 31, 30, 31, 30, 31]
theorem months_eq : Rows.laid_datebook_calendar_monthLengths = (Lib.tabData .i64 lens : DataW Unit) := by kernel_rfl
theorem pow_eq : Rows.laid_internal_strconv_uint64pow10 = (Lib.tabData .u64 Lib.pow10Tab : DataW Unit) := by kernel_rfl
theorem gw_of_laid {W : World} (hL0 : laidMetH Tryz.prog Rows.everyRow.laid W) (hsh : W.ShapedOpen Tryz.prog) : GW W := by
  have hL := laid_plain hL0
  have gM : Tryz.prog.globalNamed "datebook/calendar.monthLengths" = some 0 := by kernel_rfl
  have hM : Lib.TabIs Tryz.prog W "datebook/calendar.monthLengths" .i64 lens := Lib.tabIs_of_head (rest := plainLaid.tail) gM (show (Tryz.prog.globals[0]?).map (·.type) = some 90 by kernel_rfl) Tryz.underlying90 Tryz.underlying3 (by kernel_rfl) (by kernel_rfl) hL
  have hP : Lib.TabIs Tryz.prog W "internal/strconv.uint64pow10" .u64 Lib.pow10Tab := Lib.tabIs_of_head (rest := plainLaid.tail.tail) (show Tryz.prog.globalNamed "internal/strconv.uint64pow10" = some 3 by kernel_rfl) (show (Tryz.prog.globals[3]?).map (·.type) = some 142 by kernel_rfl) Tryz.underlying142 Tryz.underlying92 (by kernel_rfl) (by kernel_rfl) (pow_eq ▸ hL.tail)
  have ht : Tab W := by
    have k : ∀ i, i < 12 → W.cell? ⟨0, i, none⟩ = some (.int .i64 (lens.getD i 0)) := fun i hi => hM.cell gM i hi
    exact ⟨k 0 (by decide), k 1 (by decide), k 2 (by decide), k 3 (by decide), k 4 (by decide), k 5 (by decide), k 6 (by decide), k 7 (by decide), k 8 (by decide), k 9 (by decide), k 10 (by decide), k 11 (by decide)⟩
  have hT : Lib.Utf8Tabs 22 23 W := utf8Tabs_of_readsT u8t u8x (Pinned.utf8First_eq ▸ Lib.laidMet.reads hL (n := "unicode/utf8.first") (d := Rows.laid_unicode_utf8_first) (by simp [plainLaid])) (accept_eq ▸ Lib.laidMet.reads hL (n := "unicode/utf8.acceptRanges") (d := Rows.laid_unicode_utf8_acceptRanges) (by simp [plainLaid]))
  have hF := fn_of (Lib.laidMet.reads hL (by simp [plainLaid]))
  have hN := ln_of (Lib.laidMet.reads hL (by simp [plainLaid]))
  obtain ⟨a0, _, h0, _⟩ := laid_sentinel (hL.tail.tail.tail.tail) (show Tryz.prog.globalNamed "datebook/lines.errLong" = some 1 by kernel_rfl) (show (Tryz.prog.globals[1]?).map (·.type) = some 47 by kernel_rfl) Tryz.underlying47 row377 Tryz.underlying377 Tryz.underlying379 rfl rfl Tryz.underlying9 cells379 cells9
  have c0 : W.cell? ⟨1, 0, none⟩ = some (.iface 377 (.pointer (some a0))) := by simpa using World.var?_cell (show Tryz.prog.globalNamed "datebook/lines.errLong" = some 1 by kernel_rfl) h0 0
  obtain ⟨a1, _, h1, _⟩ := laid_sentinel (hL.tail.tail.tail.tail.tail) (show Tryz.prog.globalNamed "datebook/lines.errEnd" = some 4 by kernel_rfl) (show (Tryz.prog.globals[4]?).map (·.type) = some 47 by kernel_rfl) Tryz.underlying47 row377 Tryz.underlying377 Tryz.underlying379 rfl rfl Tryz.underlying9 cells379 cells9
  have c1 : W.cell? ⟨4, 0, none⟩ = some (.iface 377 (.pointer (some a1))) := by simpa using World.var?_cell (show Tryz.prog.globalNamed "datebook/lines.errEnd" = some 4 by kernel_rfl) h1 0
  obtain ⟨a2, _, h2, _⟩ := laid_sentinel (hL.tail.tail.tail.tail.tail.tail) (show Tryz.prog.globalNamed "datebook/lines.errGoesOn" = some 5 by kernel_rfl) (show (Tryz.prog.globals[5]?).map (·.type) = some 47 by kernel_rfl) Tryz.underlying47 row377 Tryz.underlying377 Tryz.underlying379 rfl rfl Tryz.underlying9 cells379 cells9
  have c2 : W.cell? ⟨5, 0, none⟩ = some (.iface 377 (.pointer (some a2))) := by simpa using World.var?_cell (show Tryz.prog.globalNamed "datebook/lines.errGoesOn" = some 5 by kernel_rfl) h2 0
  obtain ⟨a4, _, h4, _⟩ := laid_sentinel (hL.tail.tail.tail.tail.tail.tail.tail) (show Tryz.prog.globalNamed "datebook/lines.errUtf8" = some 15 by kernel_rfl) (show (Tryz.prog.globals[15]?).map (·.type) = some 47 by kernel_rfl) Tryz.underlying47 row377 Tryz.underlying377 Tryz.underlying379 rfl rfl Tryz.underlying9 cells379 cells9
  have c4 : W.cell? ⟨15, 0, none⟩ = some (.iface 377 (.pointer (some a4))) := by simpa using World.var?_cell (show Tryz.prog.globalNamed "datebook/lines.errUtf8" = some 15 by kernel_rfl) h4 0
  obtain ⟨a5, _, h5, _⟩ := laid_sentinel (hL.tail.tail.tail.tail.tail.tail.tail.tail) (show Tryz.prog.globalNamed "datebook/lines.errByte" = some 16 by kernel_rfl) (show (Tryz.prog.globals[16]?).map (·.type) = some 47 by kernel_rfl) Tryz.underlying47 row377 Tryz.underlying377 Tryz.underlying379 rfl rfl Tryz.underlying9 cells379 cells9
  have c5 : W.cell? ⟨16, 0, none⟩ = some (.iface 377 (.pointer (some a5))) := by simpa using World.var?_cell (show Tryz.prog.globalNamed "datebook/lines.errByte" = some 16 by kernel_rfl) h5 0
  obtain ⟨a6, _, h6, _⟩ := laid_sentinel (hL.tail.tail.tail.tail.tail.tail.tail.tail.tail.tail.tail.tail.tail.tail.tail.tail.tail.tail.tail.tail.tail.tail.tail.tail.tail.tail.tail.tail) (show Tryz.prog.globalNamed "strconv.ErrRange" = some 34 by kernel_rfl) (show (Tryz.prog.globals[34]?).map (·.type) = some 47 by kernel_rfl) Tryz.underlying47 row377 Tryz.underlying377 Tryz.underlying379 rfl rfl Tryz.underlying9 cells379 cells9
  have c6 : W.cell? ⟨34, 0, none⟩ = some (.iface 377 (.pointer (some a6))) := by simpa using World.var?_cell (show Tryz.prog.globalNamed "strconv.ErrRange" = some 34 by kernel_rfl) h6 0
  have hml : ∃ m, W.cell? ⟨32, 0, none⟩ = some (.int .i64 m) := cell_of_shapedOpen_int (zero := #[.int .i64 0]) (t := 3) hsh (by decide +kernel) (by kernel_rfl) rfl (by kernel_rfl) (by kernel_rfl) Tryz.underlying3
  have hsz : 35 ≤ W.heap.size := World.block_lt_of_cell? W ⟨34, 0, none⟩ c6
  exact ⟨⟨ht, hN, hF, hml, ⟨⟨⟨⟨377, a0, c0⟩, ⟨377, a2, c2⟩, ⟨377, a4, c4⟩, ⟨377, a5, c5⟩, hT, hsz⟩, ⟨377, a1, c1⟩, hml⟩, ⟨a0, c0⟩⟩⟩, hP⟩
end Go.Proofs.YtmmnbdefkailpaaGreatDoor
