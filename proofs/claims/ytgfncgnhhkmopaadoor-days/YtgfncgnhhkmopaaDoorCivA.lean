/-
  The contracts of the small functions of packages civil and datebookref: leap years, lengths of months and years, first days of years.
-/
import Derived.Test.YtgfncgnhhkmopaaDoorProg
import Derived.Test.YtgfncgnhhkmopaaDoorCal
import Derived.WalkKit
namespace Go.Proofs.YtgfncgnhhkmopaaDoor
open Go.RowKit Cal

theorem ret_int {k : IntKind} {a b : Int} (h : a = b) : Ending.returned (.int k a) = .returned (.int k b) := by rw [h]
theorem ret_bool {a b : Bool} (h : a = b) : Ending.returned (.bool a) = .returned (.bool b) := by rw [h]

theorem isLeap_any (y : Int) (w : World) (h1 : 1 ≤ y) (h2 : y ≤ 100000) :
    Calls Tryd.prog 25 #[.int .i64 y] w fun e w' => e = .returned (.bool (lpB y)) ∧ w' = w := by
  by_cases a : y % 4 = 0
  · by_cases b : y % 100 = 0
    · by_cases c : y % 400 = 0
      · go_enter Tryd.func25, Tryd.ntmps25
        go_wp2
        go_ret
        exact ⟨ret_bool (by first | rw [lpB_y (y := y) (by omega)] | (rw [lpB_n (y := y) (by omega)]; done) | (rw [lpB_n (y := y) (by omega)]; simpa using c)), rfl⟩
      · go_enter Tryd.func25, Tryd.ntmps25
        go_wp2
        go_ret
        exact ⟨ret_bool (by first | rw [lpB_y (y := y) (by omega)] | (rw [lpB_n (y := y) (by omega)]; done) | (rw [lpB_n (y := y) (by omega)]; simpa using c)), rfl⟩
    · go_enter Tryd.func25, Tryd.ntmps25
      go_wp2
      go_ret
      exact ⟨ret_bool (by first | rw [lpB_y (y := y) (by omega)] | (rw [lpB_n (y := y) (by omega)]; done) | (rw [lpB_n (y := y) (by omega)]; simpa using c)), rfl⟩
  · go_enter Tryd.func25, Tryd.ntmps25
    go_wp2
    go_ret
    exact ⟨ret_bool (by first | rw [lpB_y (y := y) (by omega)] | (rw [lpB_n (y := y) (by omega)]; done) | (rw [lpB_n (y := y) (by omega)]; simpa using c)), rfl⟩

theorem leaps_any (y : Int) (w : World) (h1 : 0 ≤ y) (h2 : y ≤ 100000) :
    Calls Tryd.prog 30 #[.int .i64 y] w fun e w' => e = .returned (.int .i64 (y / 4 - y / 100 + y / 400)) ∧ w' = w := by
  go_enter Tryd.func30, Tryd.ntmps30
  go_wp2
  go_ret
  exact ⟨rfl, rfl⟩

theorem newYear_any (y : Int) (w : World) (h1 : 1 ≤ y) (h2 : y ≤ 10000) :
    Calls Tryd.prog 22 #[.int .i64 y] w fun e w' => e = .returned (.int .i64 (ny y)) ∧ w' = w := by
  go_enter Tryd.func22, Tryd.ntmps22
  go_wp2_with (go_at_call 30; refine (leaps_any _ _ (by omega) (by omega)).mono ?_; rintro e w' ⟨rfl, rfl⟩)
  go_ret
  exact ⟨ret_int (by unfold ny; omega), rfl⟩

theorem rleap_any (y : Int) (w : World) (h1 : 1 ≤ y) (h2 : y ≤ 100000) :
    Calls Tryd.prog 26 #[.int .i64 y] w fun e w' => e = .returned (.bool (lpB y)) ∧ w' = w := by
  by_cases a : y % 4 = 0
  · by_cases b : y % 100 = 0
    · by_cases c : y % 400 = 0
      · go_enter Tryd.func26, Tryd.ntmps26
        go_wp2
        go_ret
        exact ⟨ret_bool (by first | rw [lpB_y (y := y) (by omega)] | (rw [lpB_n (y := y) (by omega)]; done) | (rw [lpB_n (y := y) (by omega)]; simpa using c)), rfl⟩
      · go_enter Tryd.func26, Tryd.ntmps26
        go_wp2
        go_ret
        exact ⟨ret_bool (by first | rw [lpB_y (y := y) (by omega)] | (rw [lpB_n (y := y) (by omega)]; done) | (rw [lpB_n (y := y) (by omega)]; simpa using c)), rfl⟩
    · go_enter Tryd.func26, Tryd.ntmps26
      go_wp2
      go_ret
      exact ⟨ret_bool (by first | rw [lpB_y (y := y) (by omega)] | (rw [lpB_n (y := y) (by omega)]; done) | (rw [lpB_n (y := y) (by omega)]; simpa using c)), rfl⟩
  · go_enter Tryd.func26, Tryd.ntmps26
    go_wp2
    go_ret
    exact ⟨ret_bool (by first | rw [lpB_y (y := y) (by omega)] | (rw [lpB_n (y := y) (by omega)]; done) | (rw [lpB_n (y := y) (by omega)]; simpa using c)), rfl⟩

theorem ryearLength_any (y : Int) (w : World) (h1 : 1 ≤ y) (h2 : y ≤ 100000) :
    Calls Tryd.prog 27 #[.int .i64 y] w fun e w' => e = .returned (.int .i64 (365 + lp y)) ∧ w' = w := by
  cases hl : lpB y
  · have h3 := lpB_false hl
    go_enter Tryd.func27, Tryd.ntmps27
    go_wp2_with (go_at_call 26; refine (rleap_any _ _ (by omega) (by omega)).mono ?_; rintro e w' ⟨rfl, rfl⟩)
    go_ret
    exact ⟨ret_int (by omega), rfl⟩
  · have h3 := lpB_true hl
    go_enter Tryd.func27, Tryd.ntmps27
    go_wp2_with (go_at_call 26; refine (rleap_any _ _ (by omega) (by omega)).mono ?_; rintro e w' ⟨rfl, rfl⟩)
    go_ret
    exact ⟨ret_int (by omega), rfl⟩

/-- What the walks want of the table of months' lengths, in memory. -/
def Tab (w : World) : Prop := w.cell? ⟨0, 0, none⟩ = some (.int .i64 31) ∧ w.cell? ⟨0, 1, none⟩ = some (.int .i64 28) ∧ w.cell? ⟨0, 2, none⟩ = some (.int .i64 31) ∧ w.cell? ⟨0, 3, none⟩ = some (.int .i64 30) ∧ w.cell? ⟨0, 4, none⟩ = some (.int .i64 31) ∧ w.cell? ⟨0, 5, none⟩ = some (.int .i64 30) ∧ w.cell? ⟨0, 6, none⟩ = some (.int .i64 31) ∧ w.cell? ⟨0, 7, none⟩ = some (.int .i64 31) ∧ w.cell? ⟨0, 8, none⟩ = some (.int .i64 30) ∧ w.cell? ⟨0, 9, none⟩ = some (.int .i64 31) ∧ w.cell? ⟨0, 10, none⟩ = some (.int .i64 30) ∧ w.cell? ⟨0, 11, none⟩ = some (.int .i64 31)

theorem monthLength_any (y m : Int) (w : World) (ht : Tab w) (h1 : 1 ≤ y) (h2 : y ≤ 100000) (m1 : 1 ≤ m) (m2 : m ≤ 12) :
    Calls Tryd.prog 12 #[.int .i64 y, .int .i64 m] w fun e w' => e = .returned (.int .i64 (dim y m)) ∧ w' = w := by
  obtain ⟨t0, t1, t2, t3, t4, t5, t6, t7, t8, t9, t10, t11⟩ := ht
  by_cases h : m = 2
  · subst h
    cases hl : lpB y
    · have h3 := lpB_false hl
      go_enter Tryd.func12, Tryd.ntmps12
      go_wp2_with (go_at_call 25; refine (isLeap_any _ _ (by omega) (by omega)).mono ?_; rintro e w' ⟨rfl, rfl⟩)
      go_ret
      exact ⟨ret_int (by simp [dim]; omega), rfl⟩
    · have h3 := lpB_true hl
      go_enter Tryd.func12, Tryd.ntmps12
      go_wp2_with (go_at_call 25; refine (isLeap_any _ _ (by omega) (by omega)).mono ?_; rintro e w' ⟨rfl, rfl⟩)
      go_ret
      exact ⟨ret_int (by simp [dim]; omega), rfl⟩
  · rcases months m1 m2 with rfl | rfl | rfl | rfl | rfl | rfl | rfl | rfl | rfl | rfl | rfl | rfl
    all_goals first
      | exact absurd rfl h
      | (go_enter Tryd.func12, Tryd.ntmps12
         go_wp2
         go_ret
         exact ⟨ret_int (by simp [dim]), rfl⟩)

theorem rmonthLength_any (y m : Int) (w : World) (h1 : 1 ≤ y) (h2 : y ≤ 100000) (m1 : 1 ≤ m) (m2 : m ≤ 12) :
    Calls Tryd.prog 14 #[.int .i64 y, .int .i64 m] w fun e w' => e = .returned (.int .i64 (dim y m)) ∧ w' = w := by
  by_cases h : m = 2
  · subst h
    cases hl : lpB y
    · have h3 := lpB_false hl
      go_enter Tryd.func14, Tryd.ntmps14
      go_wp2_with (go_at_call 26; refine (rleap_any _ _ (by omega) (by omega)).mono ?_; rintro e w' ⟨rfl, rfl⟩)
      go_ret
      exact ⟨ret_int (by simp [dim]; omega), rfl⟩
    · have h3 := lpB_true hl
      go_enter Tryd.func14, Tryd.ntmps14
      go_wp2_with (go_at_call 26; refine (rleap_any _ _ (by omega) (by omega)).mono ?_; rintro e w' ⟨rfl, rfl⟩)
      go_ret
      exact ⟨ret_int (by simp [dim]; omega), rfl⟩
  · rcases months m1 m2 with rfl | rfl | rfl | rfl | rfl | rfl | rfl | rfl | rfl | rfl | rfl | rfl
    all_goals first
      | exact absurd rfl h
      | (go_enter Tryd.func14, Tryd.ntmps14
         go_wp2
         go_ret
         exact ⟨ret_int (by simp [dim]), rfl⟩)
end Go.Proofs.YtgfncgnhhkmopaaDoor
