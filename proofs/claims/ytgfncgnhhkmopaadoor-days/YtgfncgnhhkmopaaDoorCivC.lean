/-
  The contracts of Number, Date and Week, of packages civil and datebookref both: at any numbers.
-/
import Derived.Test.YtgfncgnhhkmopaaDoorCivB
namespace Go.Proofs.YtgfncgnhhkmopaaDoor
open Go.RowKit Cal

theorem first_any (w : World) :
    Calls Tryd.prog 28 #[] w fun e w' => e = .returned (.int .i64 (-25567)) ∧ w' = w := by
  have a1 := ny_1900
  go_enter Tryd.func28, Tryd.ntmps28
  go_wp2_with (go_at_call 22; refine (newYear_any _ _ (by omega) (by omega)).mono ?_; rintro e w' ⟨rfl, rfl⟩)
  go_ret
  exact ⟨by first | rfl | rw [a1], rfl⟩

theorem last_any (w : World) :
    Calls Tryd.prog 29 #[] w fun e w' => e = .returned (.int .i64 84005) ∧ w' = w := by
  have a2 := ny_2200
  go_enter Tryd.func29, Tryd.ntmps29
  go_wp2_with (go_at_call 22; refine (newYear_any _ _ (by omega) (by omega)).mono ?_; rintro e w' ⟨rfl, rfl⟩)
  go_ret
  exact ⟨by first | rfl | (congr 2; omega), rfl⟩

theorem isDay_any (n : Int) (w : World) :
    Calls Tryd.prog 16 #[.int .i64 n] w fun e w' => e = .returned (.bool (day n)) ∧ w' = w := by
  by_cases h1 : -25567 ≤ n
  · by_cases h2 : n < 84006
    · have h3 : day n = true := day_mk h1 (by omega)
      rw [h3]
      clear h3
      go_enter Tryd.func16, Tryd.ntmps16
      go_wp2_with (first | (go_at_call 28; refine (first_any _).mono ?_; rintro e w' ⟨rfl, rfl⟩) | (go_at_call 29; refine (last_any _).mono ?_; rintro e w' ⟨rfl, rfl⟩))
      go_ret
      exact ⟨ret_bool (decide_eq_true (by omega)), rfl⟩
    · have h3 : day n = false := by simp [day]; omega
      rw [h3]
      clear h3
      go_enter Tryd.func16, Tryd.ntmps16
      go_wp2_with (first | (go_at_call 28; refine (first_any _).mono ?_; rintro e w' ⟨rfl, rfl⟩) | (go_at_call 29; refine (last_any _).mono ?_; rintro e w' ⟨rfl, rfl⟩))
      go_ret
      exact ⟨ret_bool (decide_eq_false (by omega)), rfl⟩
  · have h3 : day n = false := by simp [day]; omega
    rw [h3]
    clear h3
    go_enter Tryd.func16, Tryd.ntmps16
    go_wp2_with (first | (go_at_call 28; refine (first_any _).mono ?_; rintro e w' ⟨rfl, rfl⟩) | (go_at_call 29; refine (last_any _).mono ?_; rintro e w' ⟨rfl, rfl⟩))
    go_ret
    exact ⟨rfl, rfl⟩

theorem risDay_any (n : Int) (w : World) :
    Calls Tryd.prog 18 #[.int .i64 n] w fun e w' => e = .returned (.bool (day n)) ∧ w' = w := by
  by_cases h1 : -25567 ≤ n
  · by_cases h2 : n ≤ 84005
    · have h3 : day n = true := day_mk h1 h2
      rw [h3]
      clear h3
      go_enter Tryd.func18, Tryd.ntmps18
      go_wp2
      go_ret
      exact ⟨rfl, rfl⟩
    · have h3 : day n = false := by simp [day]; omega
      rw [h3]
      clear h3
      go_enter Tryd.func18, Tryd.ntmps18
      go_wp2
      go_ret
      exact ⟨rfl, rfl⟩
  · have h3 : day n = false := by simp [day]; omega
    rw [h3]
    clear h3
    go_enter Tryd.func18, Tryd.ntmps18
    go_wp2
    go_ret
    exact ⟨rfl, rfl⟩

set_option maxHeartbeats 400000 in
theorem yearOf_any (n : Int) (w : World) (h1 : -25932 ≤ n) (h2 : n < 84371) :
    Calls Tryd.prog 21 #[.int .i64 n] w fun e w' => e = .returned (.int .i64 (yr n)) ∧ w' = w := by
  have a1 := ny_1899
  have HG : Hid (ny (1899 + (n + 25932) / 366) ≤ n) := by
    have : ny (1899 + (n + 25932) / 366) ≤ n := by unfold ny; omega
    exact this
  go_enter Tryd.func21, Tryd.ntmps21
  go_wp2_with (go_at_call 22; refine (newYear_any _ _ (by omega) (by omega)).mono ?_; rintro e w' ⟨rfl, rfl⟩)
  clear a1
  go_loop [3] (fun k => ∃ y : Int, 1899 ≤ y ∧ y ≤ 2200 ∧ ny y ≤ n ∧ k = .int .i64 y) (fun k => (2201 - intOf k).toNat)
  case atStart => exact ⟨1899 + (n + 25932) / 366, by omega, by omega, HG.out, by congr 1⟩
  case round =>
    obtain ⟨y, y1, y2, y3, rfl⟩ := hrel
    by_cases hle : ny (y + 1) ≤ n
    · have y4 : y + 1 < 2201 := ny_inv (by rw [ny_2201]; omega)
      go_wp2_with (go_at_call 22; refine (newYear_any _ _ (by omega) (by omega)).mono ?_; rintro e w' ⟨rfl, rfl⟩)
      go_round
      case rel => exact ⟨y + 1, by omega, by omega, hle, rfl⟩
      case measure => simp [intOf]; omega
    · have HY : Hid (y = yr n) := yr_eq h1 h2 y3 (by omega)
      go_wp2_with (go_at_call 22; refine (newYear_any _ _ (by omega) (by omega)).mono ?_; rintro e w' ⟨rfl, rfl⟩)
      go_ret
      exact ⟨ret_int HY.out, rfl⟩

set_option maxHeartbeats 400000 in
theorem newMonth_any (y m : Int) (w : World) (ht : Tab w) (h1 : 1800 ≤ y) (h2 : y ≤ 2300) (h3 : 1 ≤ m) (h4 : m ≤ 12) :
    Calls Tryd.prog 13 #[.int .i64 y, .int .i64 m] w fun e w' => e = .returned (.int .i64 (ny y + cum y m)) ∧ w' = w := by
  have HT : Hid (Tab w) := ht
  clear ht
  have hb := ny_bd (y := y) (by omega) (by omega)
  go_enter Tryd.func13, Tryd.ntmps13
  go_wp2_with (go_at_call 22; refine (newYear_any _ _ (by omega) (by omega)).mono ?_; rintro e w' ⟨rfl, rfl⟩)
  go_loop [5, 6] (fun n k => ∃ j : Int, 1 ≤ j ∧ j ≤ m ∧ k = .int .i64 j ∧ n = .int .i64 (ny y + cum y j)) (fun _ k => (12 - intOf k).toNat)
  case atStart => exact ⟨1, by omega, by omega, rfl, by rw [cum_1]; congr 1; omega⟩
  case round =>
    obtain ⟨j, j1, j2, rfl, rfl⟩ := hrel
    have cb := cum_bd y (m := j) (by omega) (by omega)
    by_cases hlt : j < m
    · have db := dim_bd y j
      have CS : Hid (cum y (j + 1) = cum y j + dim y j) := cum_succ y (m := j) (by omega) (by omega)
      go_wp2_with (go_at_call 12; refine (monthLength_any _ _ _ HT.out (by omega) (by omega) (by omega) (by omega)).mono ?_; rintro e w' ⟨rfl, rfl⟩)
      go_round
      case rel => exact ⟨j + 1, by omega, by omega, rfl, by rw [CS.out]; congr 1; omega⟩
      case measure => simp [intOf]; omega
    · have e : j = m := by omega
      subst e
      go_wp2
      go_ret
      exact ⟨rfl, rfl⟩

set_option maxHeartbeats 400000 in
theorem number_any (y m d : Int) (w : World) (ht : Tab w) :
    Calls Tryd.prog 5 #[.int .i64 y, .int .i64 m, .int .i64 d] w fun e w' => e = .returned (.tuple #[.int .i64 (numV y m d), .int .i64 (numE y m d)]) ∧ w' = w := by
  by_cases h1 : y < 1900
  · have h : vld y m d = false := vld_no (by omega)
    rw [numV_no h, numE_no h]; clear h
    go_enter Tryd.func5, Tryd.ntmps5
    go_wp2
    go_ret2
    exact ⟨rfl, rfl⟩
  by_cases h2 : 2199 < y
  · have h : vld y m d = false := vld_no (by omega)
    rw [numV_no h, numE_no h]; clear h
    go_enter Tryd.func5, Tryd.ntmps5
    go_wp2
    go_ret2
    exact ⟨rfl, rfl⟩
  by_cases h3 : m < 1
  · have h : vld y m d = false := vld_no (by omega)
    rw [numV_no h, numE_no h]; clear h
    go_enter Tryd.func5, Tryd.ntmps5
    go_wp2
    go_ret2
    exact ⟨rfl, rfl⟩
  by_cases h4 : 12 < m
  · have h : vld y m d = false := vld_no (by omega)
    rw [numV_no h, numE_no h]; clear h
    go_enter Tryd.func5, Tryd.ntmps5
    go_wp2
    go_ret2
    exact ⟨rfl, rfl⟩
  by_cases h5 : d < 1
  · have h : vld y m d = false := vld_no (by omega)
    rw [numV_no h, numE_no h]; clear h
    go_enter Tryd.func5, Tryd.ntmps5
    go_wp2
    go_ret2
    exact ⟨rfl, rfl⟩
  have HT : Hid (Tab w) := ht
  clear ht
  by_cases h6 : dim y m < d
  · have h : vld y m d = false := vld_no (by omega)
    rw [numV_no h, numE_no h]; clear h
    go_enter Tryd.func5, Tryd.ntmps5
    go_wp2_with (go_at_call 12; refine (monthLength_any _ _ _ HT.out (by omega) (by omega) (by omega) (by omega)).mono ?_; rintro e w' ⟨rfl, rfl⟩)
    go_ret2
    exact ⟨rfl, rfl⟩
  have h : vld y m d = true := vld_mk (by omega)
  have h7 := dim_bd y m
  have hb := ny_bd (y := y) (by omega) (by omega)
  rw [numV_yes h, numE_yes h]; clear h
  go_enter Tryd.func5, Tryd.ntmps5
  have cb := cum_bd y (m := m) (by omega) (by omega)
  go_wp2_with (first | (go_at_call 12; refine (monthLength_any _ _ _ HT.out (by omega) (by omega) (by omega) (by omega)).mono ?_; rintro e w' ⟨rfl, rfl⟩) | (go_at_call 13; refine (newMonth_any _ _ _ HT.out (by omega) (by omega) (by omega) (by omega)).mono ?_; rintro e w' ⟨rfl, rfl⟩))
  go_ret2
  exact ⟨rfl, rfl⟩

set_option maxHeartbeats 400000 in
theorem rnumber_any (y m d : Int) (w : World) :
    Calls Tryd.prog 6 #[.int .i64 y, .int .i64 m, .int .i64 d] w fun e w' => e = .returned (.tuple #[.int .i64 (numV y m d), .int .i64 (numE y m d)]) ∧ w' = w := by
  by_cases h1 : y < 1900
  · have h : vld y m d = false := vld_no (by omega)
    rw [numV_no h, numE_no h]; clear h
    go_enter Tryd.func6, Tryd.ntmps6
    go_wp2
    go_ret2
    exact ⟨rfl, rfl⟩
  by_cases h2 : 2199 < y
  · have h : vld y m d = false := vld_no (by omega)
    rw [numV_no h, numE_no h]; clear h
    go_enter Tryd.func6, Tryd.ntmps6
    go_wp2
    go_ret2
    exact ⟨rfl, rfl⟩
  by_cases h3 : m < 1
  · have h : vld y m d = false := vld_no (by omega)
    rw [numV_no h, numE_no h]; clear h
    go_enter Tryd.func6, Tryd.ntmps6
    go_wp2
    go_ret2
    exact ⟨rfl, rfl⟩
  by_cases h4 : 12 < m
  · have h : vld y m d = false := vld_no (by omega)
    rw [numV_no h, numE_no h]; clear h
    go_enter Tryd.func6, Tryd.ntmps6
    go_wp2
    go_ret2
    exact ⟨rfl, rfl⟩
  by_cases h5 : d < 1
  · have h : vld y m d = false := vld_no (by omega)
    rw [numV_no h, numE_no h]; clear h
    go_enter Tryd.func6, Tryd.ntmps6
    go_wp2
    go_ret2
    exact ⟨rfl, rfl⟩
  by_cases h6 : dim y m < d
  · have h : vld y m d = false := vld_no (by omega)
    rw [numV_no h, numE_no h]; clear h
    go_enter Tryd.func6, Tryd.ntmps6
    go_wp2_with (go_at_call 14; refine (rmonthLength_any _ _ _ (by omega) (by omega) (by omega) (by omega)).mono ?_; rintro e w' ⟨rfl, rfl⟩)
    go_ret2
    exact ⟨rfl, rfl⟩
  have h : vld y m d = true := vld_mk (by omega)
  have h7 := dim_bd y m
  have hb := ny_bd (y := y) (by omega) (by omega)
  rw [numV_yes h, numE_yes h]; clear h
  go_enter Tryd.func6, Tryd.ntmps6
  go_wp2_with (first | (go_at_call 14; refine (rmonthLength_any _ _ _ (by omega) (by omega) (by omega) (by omega)).mono ?_; rintro e w' ⟨rfl, rfl⟩) | (go_at_call 15; refine (rnewYear_any _ _ (by omega) (by omega)).mono ?_; rintro e w' ⟨rfl, rfl⟩))
  go_loop [8, 9] (fun n k => ∃ j : Int, 1 ≤ j ∧ j ≤ m ∧ k = .int .i64 j ∧ n = .int .i64 (ny y + cum y j + d - 1)) (fun _ k => (12 - intOf k).toNat)
  case atStart => exact ⟨1, by omega, by omega, rfl, by rw [cum_1]; congr 1; omega⟩
  case round =>
    obtain ⟨j, j1, j2, rfl, rfl⟩ := hrel
    have cb := cum_bd y (m := j) (by omega) (by omega)
    by_cases hlt : j < m
    · have db := dim_bd y j
      have CS : Hid (cum y (j + 1) = cum y j + dim y j) := cum_succ y (m := j) (by omega) (by omega)
      go_wp2_with (go_at_call 14; refine (rmonthLength_any _ _ _ (by omega) (by omega) (by omega) (by omega)).mono ?_; rintro e w' ⟨rfl, rfl⟩)
      go_round
      case rel => exact ⟨j + 1, by omega, by omega, rfl, by rw [CS.out]; congr 1; omega⟩
      case measure => simp [intOf]; omega
    · have e : j = m := by omega
      subst e
      go_wp2
      go_ret2
      exact ⟨rfl, rfl⟩
end Go.Proofs.YtgfncgnhhkmopaaDoor
