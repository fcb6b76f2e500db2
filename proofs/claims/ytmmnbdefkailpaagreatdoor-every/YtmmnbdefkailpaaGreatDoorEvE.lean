/- Package event: the kinds of lines. -/
import Derived.Test.YtmmnbdefkailpaaGreatDoorEvA
import Derived.Deep.RegionHeld3
import Derived.BigRegion

namespace Go.Proofs.YtmmnbdefkailpaaGreatDoor
open Go.RowKit Cal
set_option linter.unusedVariables false

/-- the names of the lines -/
structure LN (w : World) : Prop where
  n0 : w.cell? ⟨17, 0, none⟩ = some (.string ⟨#[85, 73, 68]⟩)
  d0 : w.cell? ⟨17, 1, none⟩ = some (.bool false)
  n1 : w.cell? ⟨17, 2, none⟩ = some (.string ⟨#[83, 85, 77, 77, 65, 82, 89]⟩)
  d1 : w.cell? ⟨17, 3, none⟩ = some (.bool false)
  n2 : w.cell? ⟨17, 4, none⟩ = some (.string ⟨#[68, 84, 83, 84, 65, 82, 84]⟩)
  d2 : w.cell? ⟨17, 5, none⟩ = some (.bool true)
  n3 : w.cell? ⟨17, 6, none⟩ = some (.string ⟨#[68, 84, 69, 78, 68]⟩)
  d3 : w.cell? ⟨17, 7, none⟩ = some (.bool true)
  n4 : w.cell? ⟨17, 8, none⟩ = some (.string ⟨#[68, 85, 82, 65, 84, 73, 79, 78]⟩)
  d4 : w.cell? ⟨17, 9, none⟩ = some (.bool false)
  n5 : w.cell? ⟨17, 10, none⟩ = some (.string ⟨#[82, 82, 85, 76, 69]⟩)
  d5 : w.cell? ⟨17, 11, none⟩ = some (.bool false)
  n6 : w.cell? ⟨17, 12, none⟩ = some (.string ⟨#[82, 68, 65, 84, 69]⟩)
  d6 : w.cell? ⟨17, 13, none⟩ = some (.bool true)
  n7 : w.cell? ⟨17, 14, none⟩ = some (.string ⟨#[69, 88, 68, 65, 84, 69]⟩)
  d7 : w.cell? ⟨17, 15, none⟩ = some (.bool true)
theorem ln_at0 (w : World) : (Instr.index 221 (.agg #[.string ⟨#[85, 73, 68]⟩, .bool false, .string ⟨#[83, 85, 77, 77, 65, 82, 89]⟩, .bool false, .string ⟨#[68, 84, 83, 84, 65, 82, 84]⟩, .bool true, .string ⟨#[68, 84, 69, 78, 68]⟩, .bool true, .string ⟨#[68, 85, 82, 65, 84, 73, 79, 78]⟩, .bool false, .string ⟨#[82, 82, 85, 76, 69]⟩, .bool false, .string ⟨#[82, 68, 65, 84, 69]⟩, .bool true, .string ⟨#[69, 88, 68, 65, 84, 69]⟩, .bool true]) (.int .i64 0)).run Tryz.prog w = .ok (.agg #[.string ⟨#[85, 73, 68]⟩, .bool false]) w := by kernel_rfl
theorem ln_at1 (w : World) : (Instr.index 221 (.agg #[.string ⟨#[85, 73, 68]⟩, .bool false, .string ⟨#[83, 85, 77, 77, 65, 82, 89]⟩, .bool false, .string ⟨#[68, 84, 83, 84, 65, 82, 84]⟩, .bool true, .string ⟨#[68, 84, 69, 78, 68]⟩, .bool true, .string ⟨#[68, 85, 82, 65, 84, 73, 79, 78]⟩, .bool false, .string ⟨#[82, 82, 85, 76, 69]⟩, .bool false, .string ⟨#[82, 68, 65, 84, 69]⟩, .bool true, .string ⟨#[69, 88, 68, 65, 84, 69]⟩, .bool true]) (.int .i64 1)).run Tryz.prog w = .ok (.agg #[.string ⟨#[83, 85, 77, 77, 65, 82, 89]⟩, .bool false]) w := by kernel_rfl
theorem ln_at2 (w : World) : (Instr.index 221 (.agg #[.string ⟨#[85, 73, 68]⟩, .bool false, .string ⟨#[83, 85, 77, 77, 65, 82, 89]⟩, .bool false, .string ⟨#[68, 84, 83, 84, 65, 82, 84]⟩, .bool true, .string ⟨#[68, 84, 69, 78, 68]⟩, .bool true, .string ⟨#[68, 85, 82, 65, 84, 73, 79, 78]⟩, .bool false, .string ⟨#[82, 82, 85, 76, 69]⟩, .bool false, .string ⟨#[82, 68, 65, 84, 69]⟩, .bool true, .string ⟨#[69, 88, 68, 65, 84, 69]⟩, .bool true]) (.int .i64 2)).run Tryz.prog w = .ok (.agg #[.string ⟨#[68, 84, 83, 84, 65, 82, 84]⟩, .bool true]) w := by kernel_rfl
theorem ln_at3 (w : World) : (Instr.index 221 (.agg #[.string ⟨#[85, 73, 68]⟩, .bool false, .string ⟨#[83, 85, 77, 77, 65, 82, 89]⟩, .bool false, .string ⟨#[68, 84, 83, 84, 65, 82, 84]⟩, .bool true, .string ⟨#[68, 84, 69, 78, 68]⟩, .bool true, .string ⟨#[68, 85, 82, 65, 84, 73, 79, 78]⟩, .bool false, .string ⟨#[82, 82, 85, 76, 69]⟩, .bool false, .string ⟨#[82, 68, 65, 84, 69]⟩, .bool true, .string ⟨#[69, 88, 68, 65, 84, 69]⟩, .bool true]) (.int .i64 3)).run Tryz.prog w = .ok (.agg #[.string ⟨#[68, 84, 69, 78, 68]⟩, .bool true]) w := by kernel_rfl
theorem ln_at4 (w : World) : (Instr.index 221 (.agg #[.string ⟨#[85, 73, 68]⟩, .bool false, .string ⟨#[83, 85, 77, 77, 65, 82, 89]⟩, .bool false, .string ⟨#[68, 84, 83, 84, 65, 82, 84]⟩, .bool true, .string ⟨#[68, 84, 69, 78, 68]⟩, .bool true, .string ⟨#[68, 85, 82, 65, 84, 73, 79, 78]⟩, .bool false, .string ⟨#[82, 82, 85, 76, 69]⟩, .bool false, .string ⟨#[82, 68, 65, 84, 69]⟩, .bool true, .string ⟨#[69, 88, 68, 65, 84, 69]⟩, .bool true]) (.int .i64 4)).run Tryz.prog w = .ok (.agg #[.string ⟨#[68, 85, 82, 65, 84, 73, 79, 78]⟩, .bool false]) w := by kernel_rfl
theorem ln_at5 (w : World) : (Instr.index 221 (.agg #[.string ⟨#[85, 73, 68]⟩, .bool false, .string ⟨#[83, 85, 77, 77, 65, 82, 89]⟩, .bool false, .string ⟨#[68, 84, 83, 84, 65, 82, 84]⟩, .bool true, .string ⟨#[68, 84, 69, 78, 68]⟩, .bool true, .string ⟨#[68, 85, 82, 65, 84, 73, 79, 78]⟩, .bool false, .string ⟨#[82, 82, 85, 76, 69]⟩, .bool false, .string ⟨#[82, 68, 65, 84, 69]⟩, .bool true, .string ⟨#[69, 88, 68, 65, 84, 69]⟩, .bool true]) (.int .i64 5)).run Tryz.prog w = .ok (.agg #[.string ⟨#[82, 82, 85, 76, 69]⟩, .bool false]) w := by kernel_rfl
theorem LN.below {w w' : World} (h : LN w) {B : Nat} (hB : 17 < B) (hb : Below B w w') : LN w' := by
  have k : ∀ i v, w.cell? ⟨17, i, none⟩ = some v → w'.cell? ⟨17, i, none⟩ = some v := fun i v hc => by rw [hb.cell (p := ⟨17, i, none⟩) hB]; exact hc
  obtain ⟨a0, a1, a2, a3, a4, a5, a6, a7, a8, a9, a10, a11, a12, a13, a14, a15⟩ := h
  exact ⟨k _ _ a0, k _ _ a1, k _ _ a2, k _ _ a3, k _ _ a4, k _ _ a5, k _ _ a6, k _ _ a7, k _ _ a8, k _ _ a9, k _ _ a10, k _ _ a11, k _ _ a12, k _ _ a13, k _ _ a14, k _ _ a15⟩

set_option maxRecDepth 100000 in
set_option maxHeartbeats 4000000 in
theorem kind_uid (s : ByteArray) (w : World) (hl : LN w) (hs : s.size ≤ 4000) (hz : 3 < s.size) (has : ∀ (j : Nat) b, s.data.toList[j]? = some b → b.toNat < 128)
    (hI : Lib.indexAny s.data.toList [58, 59] = 3) (hx : s.extract 0 3 = ⟨#[85, 73, 68]⟩) (hc : s[3] = 58) :
    Calls Tryz.prog 91 #[.string s] w fun e w' => e = .returned (.tuple #[.int .i64 0, .string (s.extract 3 s.size)]) ∧ Below w.heap.size w w' := by
  have cI : ∀ wx, Calls Tryz.prog 137 #[.string s, .string ⟨#[58, 59]⟩] wx fun e w' => e = .returned (.int .i64 3) ∧ Below wx.heap.size wx w' := fun wx => by
    have := Tryz.strings_IndexAny_laid s ⟨#[58, 59]⟩ wx (by omega) (by decide) has (by intro j b hj; simp at hj; rcases j with _ | _ | j <;> simp at hj <;> subst hj <;> decide)
    simp only at this
    rw [hI] at this
    exact this
  have CI : Hid (∀ wx, Calls Tryz.prog 137 #[.string s, .string ⟨#[58, 59]⟩] wx fun e w' => e = .returned (.int .i64 3) ∧ Below wx.heap.size wx w') := cI
  have h17 : 17 < w.heap.size := World.block_lt_of_cell? _ _ hl.n0
  have HL : Hid (∀ w', Below w.heap.size w w' → LN w') := fun w' hb => hl.below h17 hb
  have hz' : (3 : Int) < s.size := by omega
  clear cI hI has hl
  go_enter Tryz.func91, Tryz.ntmps91
  go_wp2_with (go_at_call 137; refine (CI.out _).mono ?_; rintro e w1 ⟨rfl, hb1⟩; obtain ⟨a0, a1, a2, a3, a4, a5, a6, a7, a8, a9, a10, a11, a12, a13, a14, a15⟩ := HL.out _ hb1)
  clear a0 a1 a2 a3 a4 a5 a6 a7 a8 a9 a10 a11 a12 a13 a14 a15
  go_loopw [12] (fun i wr => ∃ j : Nat, j ≤ 0 ∧ i = .int .i64 j ∧ Below w.heap.size w wr) (fun i _ => 1 - (intOf i).toNat)
  case atStart => exact ⟨0, by omega, rfl, hb1⟩
  case round =>
    obtain ⟨j, hj, rfl, hbr⟩ := hrel
    have i0 := ln_at0 wr
    have i1 := ln_at1 wr
    have i2 := ln_at2 wr
    have i3 := ln_at3 wr
    have i4 := ln_at4 wr
    have i5 := ln_at5 wr
    obtain rfl : j = 0 := by omega
    · go_wp2
      go_quiet (fail)
      go_wp2
      go_quiet (fail)
      go_wp2
      go_ret2
      exact ⟨rfl, bel_drewN (bel_drewN (hbr.alloc hbr.size _) _) _⟩

set_option maxRecDepth 100000 in
set_option maxHeartbeats 4000000 in
theorem kind_start (s : ByteArray) (w : World) (hl : LN w) (hs : s.size ≤ 4000) (hz : 7 < s.size) (has : ∀ (j : Nat) b, s.data.toList[j]? = some b → b.toNat < 128)
    (hI : Lib.indexAny s.data.toList [58, 59] = 7) (hx : s.extract 0 7 = ⟨#[68, 84, 83, 84, 65, 82, 84]⟩) (hc : s[7] = 58) :
    Calls Tryz.prog 91 #[.string s] w fun e w' => e = .returned (.tuple #[.int .i64 2, .string (s.extract 7 s.size)]) ∧ Below w.heap.size w w' := by
  have cI : ∀ wx, Calls Tryz.prog 137 #[.string s, .string ⟨#[58, 59]⟩] wx fun e w' => e = .returned (.int .i64 7) ∧ Below wx.heap.size wx w' := fun wx => by
    have := Tryz.strings_IndexAny_laid s ⟨#[58, 59]⟩ wx (by omega) (by decide) has (by intro j b hj; simp at hj; rcases j with _ | _ | j <;> simp at hj <;> subst hj <;> decide)
    simp only at this
    rw [hI] at this
    exact this
  have CI : Hid (∀ wx, Calls Tryz.prog 137 #[.string s, .string ⟨#[58, 59]⟩] wx fun e w' => e = .returned (.int .i64 7) ∧ Below wx.heap.size wx w') := cI
  have h17 : 17 < w.heap.size := World.block_lt_of_cell? _ _ hl.n0
  have HL : Hid (∀ w', Below w.heap.size w w' → LN w') := fun w' hb => hl.below h17 hb
  have hz' : (7 : Int) < s.size := by omega
  clear cI hI has hl
  go_enter Tryz.func91, Tryz.ntmps91
  go_wp2_with (go_at_call 137; refine (CI.out _).mono ?_; rintro e w1 ⟨rfl, hb1⟩; obtain ⟨a0, a1, a2, a3, a4, a5, a6, a7, a8, a9, a10, a11, a12, a13, a14, a15⟩ := HL.out _ hb1)
  clear a0 a1 a2 a3 a4 a5 a6 a7 a8 a9 a10 a11 a12 a13 a14 a15
  go_loopw [12] (fun i wr => ∃ j : Nat, j ≤ 2 ∧ i = .int .i64 j ∧ Below w.heap.size w wr) (fun i _ => 3 - (intOf i).toNat)
  case atStart => exact ⟨0, by omega, rfl, hb1⟩
  case round =>
    obtain ⟨j, hj, rfl, hbr⟩ := hrel
    have i0 := ln_at0 wr
    have i1 := ln_at1 wr
    have i2 := ln_at2 wr
    have i3 := ln_at3 wr
    have i4 := ln_at4 wr
    have i5 := ln_at5 wr
    obtain rfl | rfl | rfl : j = 0 ∨ j = 1 ∨ j = 2 := by omega
    · go_wp2
      go_quiet (fail)
      go_wp2
      go_roundw
      case rel => exact ⟨1, by omega, by go_num, bel_drewN (hbr.alloc hbr.size _) _⟩
      case measure => simp [intOf]
    · go_wp2
      go_quiet (fail)
      go_wp2
      go_roundw
      case rel => exact ⟨2, by omega, by go_num, bel_drewN (hbr.alloc hbr.size _) _⟩
      case measure => simp [intOf]
    · go_wp2
      go_quiet (fail)
      go_wp2
      go_quiet (fail)
      go_wp2
      go_ret2
      exact ⟨rfl, bel_drewN (bel_drewN (hbr.alloc hbr.size _) _) _⟩

set_option maxRecDepth 100000 in
set_option maxHeartbeats 4000000 in
theorem kind_rule (s : ByteArray) (w : World) (hl : LN w) (hs : s.size ≤ 4000) (hz : 5 < s.size) (has : ∀ (j : Nat) b, s.data.toList[j]? = some b → b.toNat < 128)
    (hI : Lib.indexAny s.data.toList [58, 59] = 5) (hx : s.extract 0 5 = ⟨#[82, 82, 85, 76, 69]⟩) (hc : s[5] = 58) :
    Calls Tryz.prog 91 #[.string s] w fun e w' => e = .returned (.tuple #[.int .i64 5, .string (s.extract 5 s.size)]) ∧ Below w.heap.size w w' := by
  have cI : ∀ wx, Calls Tryz.prog 137 #[.string s, .string ⟨#[58, 59]⟩] wx fun e w' => e = .returned (.int .i64 5) ∧ Below wx.heap.size wx w' := fun wx => by
    have := Tryz.strings_IndexAny_laid s ⟨#[58, 59]⟩ wx (by omega) (by decide) has (by intro j b hj; simp at hj; rcases j with _ | _ | j <;> simp at hj <;> subst hj <;> decide)
    simp only at this
    rw [hI] at this
    exact this
  have CI : Hid (∀ wx, Calls Tryz.prog 137 #[.string s, .string ⟨#[58, 59]⟩] wx fun e w' => e = .returned (.int .i64 5) ∧ Below wx.heap.size wx w') := cI
  have h17 : 17 < w.heap.size := World.block_lt_of_cell? _ _ hl.n0
  have HL : Hid (∀ w', Below w.heap.size w w' → LN w') := fun w' hb => hl.below h17 hb
  have hz' : (5 : Int) < s.size := by omega
  clear cI hI has hl
  go_enter Tryz.func91, Tryz.ntmps91
  go_wp2_with (go_at_call 137; refine (CI.out _).mono ?_; rintro e w1 ⟨rfl, hb1⟩; obtain ⟨a0, a1, a2, a3, a4, a5, a6, a7, a8, a9, a10, a11, a12, a13, a14, a15⟩ := HL.out _ hb1)
  clear a0 a1 a2 a3 a4 a5 a6 a7 a8 a9 a10 a11 a12 a13 a14 a15
  go_loopw [12] (fun i wr => ∃ j : Nat, j ≤ 5 ∧ i = .int .i64 j ∧ Below w.heap.size w wr) (fun i _ => 6 - (intOf i).toNat)
  case atStart => exact ⟨0, by omega, rfl, hb1⟩
  case round =>
    obtain ⟨j, hj, rfl, hbr⟩ := hrel
    have i0 := ln_at0 wr
    have i1 := ln_at1 wr
    have i2 := ln_at2 wr
    have i3 := ln_at3 wr
    have i4 := ln_at4 wr
    have i5 := ln_at5 wr
    obtain rfl | rfl | rfl | rfl | rfl | rfl : j = 0 ∨ j = 1 ∨ j = 2 ∨ j = 3 ∨ j = 4 ∨ j = 5 := by omega
    · go_wp2
      go_quiet (fail)
      go_wp2
      go_roundw
      case rel => exact ⟨1, by omega, by go_num, bel_drewN (hbr.alloc hbr.size _) _⟩
      case measure => simp [intOf]
    · go_wp2
      go_quiet (fail)
      go_wp2
      go_roundw
      case rel => exact ⟨2, by omega, by go_num, bel_drewN (hbr.alloc hbr.size _) _⟩
      case measure => simp [intOf]
    · go_wp2
      go_quiet (fail)
      go_wp2
      go_roundw
      case rel => exact ⟨3, by omega, by go_num, bel_drewN (hbr.alloc hbr.size _) _⟩
      case measure => simp [intOf]
    · go_wp2
      go_quiet (fail)
      go_wp2
      go_roundw
      case rel => exact ⟨4, by omega, by go_num, bel_drewN (hbr.alloc hbr.size _) _⟩
      case measure => simp [intOf]
    · go_wp2
      go_quiet (fail)
      go_wp2
      go_roundw
      case rel => exact ⟨5, by omega, by go_num, bel_drewN (hbr.alloc hbr.size _) _⟩
      case measure => simp [intOf]
    · go_wp2
      go_quiet (fail)
      go_wp2
      go_quiet (fail)
      go_wp2
      go_ret2
      exact ⟨rfl, bel_drewN (bel_drewN (hbr.alloc hbr.size _) _) _⟩

end Go.Proofs.YtmmnbdefkailpaaGreatDoor

/- Package event: steps of reading. -/
namespace Go.Proofs.YtmmnbdefkailpaaGreatDoor
open Go.RowKit Cal
set_option linter.unusedVariables false

set_option maxRecDepth 100000 in
set_option maxHeartbeats 2000000 in
theorem readFrame_yes (B g cap : Nat) (w : World) (h0 : w.cell? ⟨B, 0, none⟩ = some (.slice (some ⟨g, 0, none⟩) 5 cap)) (f0 : w.frozen? ⟨B, 0, none⟩ = false) (hcap : 5 ≤ cap) (hcap2 : cap ≤ 9223372036854775807)
    (l0 : w.cell? ⟨g, 0, none⟩ = some (.string ⟨#[66, 69, 71, 73, 78, 58, 86, 69, 86, 69, 78, 84]⟩)) (l4 : w.cell? ⟨g, 4, none⟩ = some (.string ⟨#[69, 78, 68, 58, 86, 69, 86, 69, 78, 84]⟩)) :
    Calls Tryz.prog 52 #[.pointer (some ⟨B, 0, none⟩)] w fun e w' => e = .returned .nilIface ∧ w' = w.setCell ⟨B, 0, none⟩ (.slice (some ⟨g, 1, none⟩) 3 (cap - 1)) := by
  go_enter Tryz.func52, Tryz.ntmps52
  go_wp2
  go_ret
  exact ⟨rfl, rfl⟩

set_option maxRecDepth 100000 in
set_option maxHeartbeats 2000000 in
theorem readSummary_no (B : Nat) (a : Option Addr) (c : Nat) (w : World) (h : w.cell? ⟨B, 2, none⟩ = some (.slice a 0 c)) :
    Calls Tryz.prog 56 #[.pointer (some ⟨B, 0, none⟩)] w fun e w' => e = .returned .nilIface ∧ w' = w := by
  have c1 := has1 B a 0 c w (by omega) h
  go_enter Tryz.func56, Tryz.ntmps56
  go_wp2_with (go_at_call 92; refine c1.mono ?_; rintro e w1 ⟨rfl, rfl⟩)
  go_ret
  exact ⟨rfl, rfl⟩

set_option maxRecDepth 100000 in
set_option maxHeartbeats 2000000 in
theorem readDates_no (B : Nat) (a b : Option Addr) (c d : Nat) (w : World) (h : w.cell? ⟨B, 7, none⟩ = some (.slice a 0 c)) (k : w.cell? ⟨B, 8, none⟩ = some (.slice b 0 d)) :
    Calls Tryz.prog 61 #[.pointer (some ⟨B, 0, none⟩)] w fun e w' => e = .returned .nilIface ∧ w' = w := by
  have c1 : Hid (∀ wx, wx = w → Calls Tryz.prog 92 #[.pointer (some ⟨B, 0, none⟩), .int .i64 6] wx fun e w' => e = .returned (.bool false) ∧ w' = wx) := fun wx e => by subst e; exact has6 B a 0 c _ (by omega) h
  have c2 : Hid (∀ wx, wx = w → Calls Tryz.prog 92 #[.pointer (some ⟨B, 0, none⟩), .int .i64 7] wx fun e w' => e = .returned (.bool false) ∧ w' = wx) := fun wx e => by subst e; exact has7 B b 0 d _ (by omega) k
  go_enter Tryz.func61, Tryz.ntmps61
  go_wp2_with (first | (go_at_call 92; refine (c1.out _ rfl).mono ?_; clear c1; rintro e w1 ⟨rfl, rfl⟩) | (go_at_call 92; refine (c2.out _ rfl).mono ?_; rintro e w1 ⟨rfl, rfl⟩))
  go_ret
  exact ⟨rfl, rfl⟩

theorem ix61_0 (v0 v1 v2 v3 v4 v5 v6 v7 : Value) (w : World) : (Instr.index 61 (.agg #[v0, v1, v2, v3, v4, v5, v6, v7]) (.int .i64 0)).run Tryz.prog w = .ok v0 w := by kernel_rfl
theorem ix61_1 (v0 v1 v2 v3 v4 v5 v6 v7 : Value) (w : World) : (Instr.index 61 (.agg #[v0, v1, v2, v3, v4, v5, v6, v7]) (.int .i64 1)).run Tryz.prog w = .ok v1 w := by kernel_rfl
theorem ix61_2 (v0 v1 v2 v3 v4 v5 v6 v7 : Value) (w : World) : (Instr.index 61 (.agg #[v0, v1, v2, v3, v4, v5, v6, v7]) (.int .i64 2)).run Tryz.prog w = .ok v2 w := by kernel_rfl
theorem ix61_3 (v0 v1 v2 v3 v4 v5 v6 v7 : Value) (w : World) : (Instr.index 61 (.agg #[v0, v1, v2, v3, v4, v5, v6, v7]) (.int .i64 3)).run Tryz.prog w = .ok v3 w := by kernel_rfl
theorem ix61_4 (v0 v1 v2 v3 v4 v5 v6 v7 : Value) (w : World) : (Instr.index 61 (.agg #[v0, v1, v2, v3, v4, v5, v6, v7]) (.int .i64 4)).run Tryz.prog w = .ok v4 w := by kernel_rfl
theorem ix61_5 (v0 v1 v2 v3 v4 v5 v6 v7 : Value) (w : World) : (Instr.index 61 (.agg #[v0, v1, v2, v3, v4, v5, v6, v7]) (.int .i64 5)).run Tryz.prog w = .ok v5 w := by kernel_rfl
theorem ix61_6 (v0 v1 v2 v3 v4 v5 v6 v7 : Value) (w : World) : (Instr.index 61 (.agg #[v0, v1, v2, v3, v4, v5, v6, v7]) (.int .i64 6)).run Tryz.prog w = .ok v6 w := by kernel_rfl
theorem ix61_7 (v0 v1 v2 v3 v4 v5 v6 v7 : Value) (w : World) : (Instr.index 61 (.agg #[v0, v1, v2, v3, v4, v5, v6, v7]) (.int .i64 7)).run Tryz.prog w = .ok v7 w := by kernel_rfl

set_option maxRecDepth 100000 in
set_option maxHeartbeats 4000000 in
theorem checkTwice_yes (B : Nat) (a0 a1 a2 a3 a4 a5 a6 a7 : Option Addr) (n0 n1 n2 n3 n4 n5 n6 n7 c0 c1 c2 c3 c4 c5 c6 c7 : Nat) (w : World)
    (h0 : w.cell? ⟨B, 1, none⟩ = some (.slice a0 n0 c0)) (h1 : w.cell? ⟨B, 2, none⟩ = some (.slice a1 n1 c1)) (h2 : w.cell? ⟨B, 3, none⟩ = some (.slice a2 n2 c2)) (h3 : w.cell? ⟨B, 4, none⟩ = some (.slice a3 n3 c3))
    (h4 : w.cell? ⟨B, 5, none⟩ = some (.slice a4 n4 c4)) (h5 : w.cell? ⟨B, 6, none⟩ = some (.slice a5 n5 c5)) (h6 : w.cell? ⟨B, 7, none⟩ = some (.slice a6 n6 c6)) (h7 : w.cell? ⟨B, 8, none⟩ = some (.slice a7 n7 c7))
    (m0 : n0 ≤ 1) (m1 : n1 ≤ 1) (m2 : n2 ≤ 1) (m3 : n3 ≤ 1) (m4 : n4 ≤ 1) (m5 : n5 ≤ 1) (m6 : n6 ≤ 1) (m7 : n7 ≤ 1) :
    Calls Tryz.prog 54 #[.pointer (some ⟨B, 0, none⟩)] w fun e w' => e = .returned .nilIface ∧ w' = w := by
  go_enter Tryz.func54, Tryz.ntmps54
  go_wp2
  clear h0 h1 h2 h3 h4 h5 h6 h7
  go_loop [9] (fun i => ∃ j : Nat, j ≤ 8 ∧ i = .int .i64 j) (fun i => 9 - (intOf i).toNat)
  case atStart => exact ⟨0, by omega, rfl⟩
  case round =>
    obtain ⟨j, hj, rfl⟩ := hrel
    obtain rfl | rfl | rfl | rfl | rfl | rfl | rfl | rfl | rfl : j = 0 ∨ j = 1 ∨ j = 2 ∨ j = 3 ∨ j = 4 ∨ j = 5 ∨ j = 6 ∨ j = 7 ∨ j = 8 := by omega
    · have i0 := ix61_0 (.slice a0 n0 c0) (.slice a1 n1 c1) (.slice a2 n2 c2) (.slice a3 n3 c3) (.slice a4 n4 c4) (.slice a5 n5 c5) (.slice a6 n6 c6) (.slice a7 n7 c7) w
      go_wp2
      go_round
      case rel => exact ⟨1, by omega, by go_num⟩
      case measure => simp [intOf]
    · have i0 := ix61_1 (.slice a0 n0 c0) (.slice a1 n1 c1) (.slice a2 n2 c2) (.slice a3 n3 c3) (.slice a4 n4 c4) (.slice a5 n5 c5) (.slice a6 n6 c6) (.slice a7 n7 c7) w
      go_wp2
      go_round
      case rel => exact ⟨2, by omega, by go_num⟩
      case measure => simp [intOf]
    · have i0 := ix61_2 (.slice a0 n0 c0) (.slice a1 n1 c1) (.slice a2 n2 c2) (.slice a3 n3 c3) (.slice a4 n4 c4) (.slice a5 n5 c5) (.slice a6 n6 c6) (.slice a7 n7 c7) w
      go_wp2
      go_round
      case rel => exact ⟨3, by omega, by go_num⟩
      case measure => simp [intOf]
    · have i0 := ix61_3 (.slice a0 n0 c0) (.slice a1 n1 c1) (.slice a2 n2 c2) (.slice a3 n3 c3) (.slice a4 n4 c4) (.slice a5 n5 c5) (.slice a6 n6 c6) (.slice a7 n7 c7) w
      go_wp2
      go_round
      case rel => exact ⟨4, by omega, by go_num⟩
      case measure => simp [intOf]
    · have i0 := ix61_4 (.slice a0 n0 c0) (.slice a1 n1 c1) (.slice a2 n2 c2) (.slice a3 n3 c3) (.slice a4 n4 c4) (.slice a5 n5 c5) (.slice a6 n6 c6) (.slice a7 n7 c7) w
      go_wp2
      go_round
      case rel => exact ⟨5, by omega, by go_num⟩
      case measure => simp [intOf]
    · have i0 := ix61_5 (.slice a0 n0 c0) (.slice a1 n1 c1) (.slice a2 n2 c2) (.slice a3 n3 c3) (.slice a4 n4 c4) (.slice a5 n5 c5) (.slice a6 n6 c6) (.slice a7 n7 c7) w
      go_wp2
      go_round
      case rel => exact ⟨6, by omega, by go_num⟩
      case measure => simp [intOf]
    · have i0 := ix61_6 (.slice a0 n0 c0) (.slice a1 n1 c1) (.slice a2 n2 c2) (.slice a3 n3 c3) (.slice a4 n4 c4) (.slice a5 n5 c5) (.slice a6 n6 c6) (.slice a7 n7 c7) w
      go_wp2
      go_round
      case rel => exact ⟨7, by omega, by go_num⟩
      case measure => simp [intOf]
    · have i0 := ix61_7 (.slice a0 n0 c0) (.slice a1 n1 c1) (.slice a2 n2 c2) (.slice a3 n3 c3) (.slice a4 n4 c4) (.slice a5 n5 c5) (.slice a6 n6 c6) (.slice a7 n7 c7) w
      go_wp2
      go_round
      case rel => exact ⟨8, by omega, by go_num⟩
      case measure => simp [intOf]
    · go_wp2
      go_ret
      exact ⟨rfl, rfl⟩
end Go.Proofs.YtmmnbdefkailpaaGreatDoor

/- Package event: the uid, the length, what goes together. -/
namespace Go.Proofs.YtmmnbdefkailpaaGreatDoor
open Go.RowKit Cal
set_option linter.unusedVariables false

set_option maxRecDepth 100000 in
theorem isUidByte_x (w : World) : Calls Tryz.prog 94 #[.int .u8 120] w fun e w' => e = .returned (.bool true) ∧ w' = w := by
  have c1 : Hid (∀ wx, Calls Tryz.prog 138 #[.int .u8 120] wx fun e w' => e = .returned (.bool false) ∧ w' = wx) := fun wx => by
    go_enter Tryz.func138, Tryz.ntmps138
    go_wp2
    go_ret
    exact ⟨rfl, rfl⟩
  go_enter Tryz.func94, Tryz.ntmps94
  go_wp2_with (go_at_call 138; refine (c1.out _).mono ?_; rintro e w1 ⟨rfl, rfl⟩)
  go_ret
  exact ⟨rfl, rfl⟩

set_option maxRecDepth 100000 in
theorem clone_any (s : ByteArray) (w : World) (hs : s.size ≤ 4000) :
    Calls Tryz.prog 47 #[.string s] w fun e w' => e = .returned (.string s) ∧ Below w.heap.size w w' := by
  have cC := Tryz.stringslite_Clone s w (by omega)
  go_enter Tryz.func47, Tryz.ntmps47
  go_wp2_with (go_at_call 86; refine cC.mono ?_; rintro e w1 ⟨rfl, hb⟩)
  go_ret
  exact ⟨rfl, hb⟩

set_option maxRecDepth 100000 in
set_option maxHeartbeats 2000000 in
theorem readUid_yes (B g c : Nat) (w : World) (h : w.cell? ⟨B, 1, none⟩ = some (.slice (some ⟨g, 0, none⟩) 1 c)) (hg : w.cell? ⟨g, 0, none⟩ = some (.string ⟨#[58, 120]⟩)) (v : Value) (hv : w.cell? ⟨B, 11, none⟩ = some v) (hf : w.frozen? ⟨B, 11, none⟩ = false) :
    Calls Tryz.prog 55 #[.pointer (some ⟨B, 0, none⟩)] w fun e w' => e = .returned .nilIface ∧ ∃ w1, Below w.heap.size w w1 ∧ w' = w1.setCell ⟨B, 11, none⟩ (.string ⟨#[120]⟩) := by
  have c0 := has0 B _ 1 c w (by omega) h
  have c1 := value0 B g 1 c ⟨#[58, 120]⟩ w (by omega) (by omega) (by decide) (by decide) h hg
  have ex : (ByteArray.mk #[58, 120]).extract 1 (ByteArray.mk #[58, 120]).size = ⟨#[120]⟩ := by decide
  rw [ex] at c1
  have hB : B < w.heap.size := World.block_lt_of_cell? _ _ hv
  go_enter Tryz.func55, Tryz.ntmps55
  go_wp2_with (first | (go_at_call 92; refine c0.mono ?_; rintro e w1 ⟨rfl, rfl⟩) | (go_at_call 93; refine c1.mono ?_; rintro e w1 ⟨rfl, rfl⟩))
  clear c0 c1 ex
  go_loop [22] (fun i => ∃ j : Nat, j ≤ 1 ∧ i = .int .i64 j) (fun i => 2 - (intOf i).toNat)
  case atStart => exact ⟨0, by omega, rfl⟩
  case round =>
    obtain ⟨j, hj, rfl⟩ := hrel
    obtain rfl | rfl : j = 0 ∨ j = 1 := by omega
    · go_wp2_with (go_at_call 94; refine (isUidByte_x _).mono ?_; rintro e w1 ⟨rfl, rfl⟩)
      go_round
      case rel => exact ⟨1, by omega, by go_num⟩
      case measure => simp [intOf]
    · go_wp2_with (go_at_call 47; refine (clone_any _ _ (by decide)).mono ?_; rintro e w3 ⟨rfl, hb3⟩; obtain ⟨hc3, hf3⟩ := bcell hb3)
      go_ret
      exact ⟨rfl, w3, hb3, rfl⟩

set_option maxRecDepth 100000 in
set_option maxHeartbeats 2000000 in
theorem length_no (B : Nat) (a b : Option Addr) (c d : Nat) (w : World) (h : w.cell? ⟨B, 4, none⟩ = some (.slice a 0 c)) (k : w.cell? ⟨B, 5, none⟩ = some (.slice b 0 d)) (hw : w.cell? ⟨B, 9, none⟩ = some (.bool false)) :
    Calls Tryz.prog 100 #[.pointer (some ⟨B, 0, none⟩)] w fun e w' => e = .returned (.tuple #[.int .i64 0, .nilIface]) ∧ w' = w := by
  have c1 : Hid (∀ wx, wx = w → Calls Tryz.prog 92 #[.pointer (some ⟨B, 0, none⟩), .int .i64 3] wx fun e w' => e = .returned (.bool false) ∧ w' = wx) := fun wx e => by subst e; exact has3 B a 0 c _ (by omega) h
  have c2 : Hid (∀ wx, wx = w → Calls Tryz.prog 92 #[.pointer (some ⟨B, 0, none⟩), .int .i64 4] wx fun e w' => e = .returned (.bool false) ∧ w' = wx) := fun wx e => by subst e; exact has4 B b 0 d _ (by omega) k
  have c3 := c1
  go_enter Tryz.func100, Tryz.ntmps100
  go_wp2_with (first | (go_at_call 92; refine (c1.out _ rfl).mono ?_; clear c1; rintro e w1 ⟨rfl, rfl⟩) | (go_at_call 92; refine (c3.out _ rfl).mono ?_; clear c3; rintro e w1 ⟨rfl, rfl⟩) | (go_at_call 92; refine (c2.out _ rfl).mono ?_; rintro e w1 ⟨rfl, rfl⟩))
  go_ret2
  exact ⟨rfl, rfl⟩

set_option maxRecDepth 100000 in
set_option maxHeartbeats 2000000 in
theorem readLength_no (B : Nat) (a b : Option Addr) (c d : Nat) (w : World) (h : w.cell? ⟨B, 4, none⟩ = some (.slice a 0 c)) (k : w.cell? ⟨B, 5, none⟩ = some (.slice b 0 d)) (hw : w.cell? ⟨B, 9, none⟩ = some (.bool false)) (v : Value) (hv : w.cell? ⟨B, 16, none⟩ = some v) (hf : w.frozen? ⟨B, 16, none⟩ = false) :
    Calls Tryz.prog 58 #[.pointer (some ⟨B, 0, none⟩)] w fun e w' => e = .returned .nilIface ∧ w' = w.setCell ⟨B, 16, none⟩ (.int .i64 0) := by
  have c0 := length_no B a b c d w h k hw
  go_enter Tryz.func58, Tryz.ntmps58
  go_wp2_with (go_at_call 100; refine c0.mono ?_; rintro e w1 ⟨rfl, rfl⟩)
  go_ret
  exact ⟨rfl, rfl⟩

set_option maxRecDepth 100000 in
set_option maxHeartbeats 4000000 in
theorem checkTogether_daily (B : Nat) (ev ct : Int) (w : World) (h1 : 1 ≤ ct) (h2 : ct ≤ 999)
    (c17 : w.cell? ⟨B, 17, none⟩ = some (.int .i64 1)) (c18 : w.cell? ⟨B, 18, none⟩ = some (.int .i64 ev)) (c19 : w.cell? ⟨B, 19, none⟩ = some (.int .i64 ct)) (c20 : w.cell? ⟨B, 20, none⟩ = some (.int .i64 0)) (c21 : w.cell? ⟨B, 21, none⟩ = some (.bool false))
    (c22 : w.cell? ⟨B, 22, none⟩ = some (.slice none 0 0)) (c23 : w.cell? ⟨B, 23, none⟩ = some (.slice none 0 0)) (c24 : w.cell? ⟨B, 24, none⟩ = some (.slice none 0 0)) (c25 : w.cell? ⟨B, 25, none⟩ = some (.slice none 0 0)) (c26 : w.cell? ⟨B, 26, none⟩ = some (.int .i64 0)) :
    Calls Tryz.prog 60 #[.pointer (some ⟨B, 0, none⟩)] w fun e w' => e = .returned .nilIface ∧ Below w.heap.size w w' := by
  have cH : Hid (∀ wx, Calls Tryz.prog 103 #[.slice none 0 0] wx fun e w' => e = .returned (.bool false) ∧ w' = wx) := fun wx => by
    go_enter Tryz.func103, Tryz.ntmps103
    go_wp2
    go_loop [7] (fun i => i = .int .i64 0) (fun _ => 1)
    case atStart => exact rfl
    case round =>
      obtain rfl := hrel
      go_wp2
      go_ret
      exact ⟨rfl, rfl⟩
  go_enter Tryz.func60, Tryz.ntmps60
  go_wp2_with (go_at_call 103; refine (cH.out _).mono ?_; rintro e w1 ⟨rfl, rfl⟩)
  go_ret
  exact ⟨rfl, (Below.refl _ _).alloc (Nat.le_refl _) _⟩
end Go.Proofs.YtmmnbdefkailpaaGreatDoor
