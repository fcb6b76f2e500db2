/-
  The contracts of newYear, date, mod, weekday of package datebookref, and of isDay, yearOf, daysSince of package civil: loops.
-/
import Derived.Test.YtgfncgnhhkmopaaDoorCivA
namespace Go.Proofs.YtgfncgnhhkmopaaDoor
open Go.RowKit Cal

theorem ret_int2 {k l : IntKind} {a b c d : Int} (h : a = b) (g : c = d) : Ending.returned (.tuple #[.int k a, .int l c]) = .returned (.tuple #[.int k b, .int l d]) := by rw [h, g]
theorem ret_int3 {a b c d e f : Int} (h : a = b) (g : c = d) (j : e = f) : Ending.returned (.tuple #[.int .i64 a, .int .i64 c, .int .i64 e]) = .returned (.tuple #[.int .i64 b, .int .i64 d, .int .i64 f]) := by rw [h, g, j]

set_option maxHeartbeats 400000 in
theorem rnewYear_any (y : Int) (w : World) (h1 : 1800 ≤ y) (h2 : y ≤ 2300) :
    Calls Tryd.prog 15 #[.int .i64 y] w fun e w' => e = .returned (.int .i64 (ny y)) ∧ w' = w := by
  go_enter Tryd.func15, Tryd.ntmps15
  go_wp2
  go_loop [3, 4] (fun n k => ∃ j : Int, 1970 ≤ j ∧ (j ≤ y ∨ j = 1970) ∧ k = .int .i64 j ∧ n = .int .i64 (ny j)) (fun _ k => (2300 - intOf k).toNat)
  case atStart => exact ⟨1970, by omega, by omega, rfl, by rw [ny_1970]⟩
  case round =>
    obtain ⟨j, hj, hle, rfl, rfl⟩ := hrel
    by_cases hlt : j < y
    · have hb := ny_bd (y := j) (by omega) (by omega)
      have hs := ny_succ j
      have hl := lp_01 j
      have HS : Hid (ny (j + 1) = ny j + 365 + lp j) := hs
      clear hs
      go_wp2_with (go_at_call 27; refine (ryearLength_any _ _ (by omega) (by omega)).mono ?_; rintro e w' ⟨rfl, rfl⟩)
      go_round
      case rel => exact ⟨j + 1, by omega, by omega, rfl, by rw [HS.out]; congr 1; omega⟩
      case measure => simp [intOf]; omega
    · by_cases hy : 1970 ≤ y
      · have e : j = y := by omega
        subst e
        go_wp2
        go_loop [3, 5] (fun n k => n = .int .i64 (ny j) ∧ k = .int .i64 j) (fun _ _ => 0)
        case atStart => exact ⟨rfl, rfl⟩
        case round =>
          obtain ⟨rfl, rfl⟩ := hrel
          go_wp2
          go_ret
          exact ⟨rfl, rfl⟩
      · have e : j = 1970 := by omega
        subst e
        go_wp2
        go_loop [3, 5] (fun n k => ∃ j : Int, y ≤ j ∧ j ≤ 1970 ∧ k = .int .i64 j ∧ n = .int .i64 (ny y - ny j)) (fun _ k => (1970 - intOf k).toNat)
        case atStart => exact ⟨y, by omega, by omega, rfl, by rw [ny_1970]; congr 1; omega⟩
        case round =>
          obtain ⟨j, hj, hle, rfl, rfl⟩ := hrel
          by_cases hlt : j < 1970
          · have hb := ny_bd (y := j) (by omega) (by omega)
            have hb2 := ny_bd (y := y) (by omega) (by omega)
            have hl := lp_01 j
            have HS : Hid (ny (j + 1) = ny j + 365 + lp j) := ny_succ j
            go_wp2_with (go_at_call 27; refine (ryearLength_any _ _ (by omega) (by omega)).mono ?_; rintro e w' ⟨rfl, rfl⟩)
            go_round
            case rel => exact ⟨j + 1, by omega, by omega, rfl, by rw [HS.out]; congr 1; omega⟩
            case measure => simp [intOf]; omega
          · have e : j = 1970 := by omega
            subst e
            go_wp2
            go_ret
            exact ⟨ret_int (by rw [ny_1970]; omega), rfl⟩

theorem rmod_any (a b : Int) (w : World) (_h1 : -1000000 ≤ a) (_h2 : a ≤ 1000000) (h3 : 1 ≤ b) (h4 : b ≤ 1000) :
    Calls Tryd.prog 23 #[.int .i64 a, .int .i64 b] w fun e w' => e = .returned (.int .i64 (a % b)) ∧ w' = w := by
  have e0 := tm_eq a b
  have e1 := tm_bd a b h3
  go_enter Tryd.func23, Tryd.ntmps23
  go_wp2
  go_ret
  exact ⟨ret_int (by first | rfl | exact e0), rfl⟩

theorem rweekday_any (n : Int) (w : World) (h1 : -200000 ≤ n) (h2 : n ≤ 200000) :
    Calls Tryd.prog 24 #[.int .i64 n] w fun e w' => e = .returned (.int .i64 ((n + 3) % 7)) ∧ w' = w := by
  go_enter Tryd.func24, Tryd.ntmps24
  go_wp2_with (go_at_call 23; refine (rmod_any _ _ _ (by omega) (by omega) (by omega) (by omega)).mono ?_; rintro e w' ⟨rfl, rfl⟩)
  go_ret
  exact ⟨rfl, rfl⟩

theorem daysSince_any (f n : Int) (w : World) (h1 : -200000 ≤ n) (h2 : n ≤ 200000) (h3 : 0 ≤ f) (h4 : f ≤ 6) :
    Calls Tryd.prog 20 #[.int .i64 f, .int .i64 n] w fun e w' => e = .returned (.int .i64 ((n + 3 - f) % 7)) ∧ w' = w := by
  have e0 := tm_eq (n + 3 - f) 7
  have e1 := tm_bd (n + 3 - f) 7 (by omega)
  go_enter Tryd.func20, Tryd.ntmps20
  go_wp2
  go_ret
  exact ⟨ret_int (by first | rfl | exact e0), rfl⟩

set_option maxHeartbeats 1000000 in
theorem rdate_any (n : Int) (w : World) (h1 : -25932 ≤ n) (h2 : n < 84371) :
    Calls Tryd.prog 19 #[.int .i64 n] w fun e w' => e = .returned (.tuple #[.int .i64 (yr n), .int .i64 (mo (yr n) (n - ny (yr n))), .int .i64 (n - ny (yr n) - cum (yr n) (mo (yr n) (n - ny (yr n))) + 1)]) ∧ w' = w := by
  go_enter Tryd.func19, Tryd.ntmps19
  go_wp2
  go_loop [0, 5] (fun r k => ∃ y : Int, 1899 ≤ y ∧ y ≤ 1970 ∧ k = .int .i64 y ∧ r = .int .i64 (n - ny y)) (fun _ k => (intOf k).toNat)
  case atStart => exact ⟨1970, by omega, by omega, rfl, by rw [ny_1970]; congr 1; omega⟩
  case round =>
    obtain ⟨y, y1, y2, rfl, rfl⟩ := hrel
    have hb := ny_bd (y := y) (by omega) (by omega)
    by_cases hlt : n - ny y < 0
    · have y3 : 1900 ≤ y := by
        have := ny_inv (a := 1899) (b := y) (by rw [ny_1899]; omega); omega
      have hl := lp_01 (y - 1)
      have HS : Hid (ny (y - 1 + 1) = ny (y - 1) + 365 + lp (y - 1)) := ny_succ (y - 1)
      go_wp2_with (go_at_call 27; refine (ryearLength_any _ _ (by omega) (by omega)).mono ?_; rintro e w' ⟨rfl, rfl⟩)
      go_round
      case rel => exact ⟨y - 1, by omega, by omega, rfl, by have := HS.out; rw [show y - 1 + 1 = y by omega] at this; congr 1; omega⟩
      case measure => simp [intOf]; omega
    · go_wp2
      clear hb
      go_loop [0, 5] (fun r k => ∃ y : Int, 1899 ≤ y ∧ y ≤ 2200 ∧ ny y ≤ n ∧ k = .int .i64 y ∧ r = .int .i64 (n - ny y)) (fun _ k => (2201 - intOf k).toNat)
      case atStart => exact ⟨y, by omega, by omega, by omega, rfl, rfl⟩
      case round =>
        clear hlt y1 y2
        obtain ⟨y, y1, y2, y3, rfl, rfl⟩ := hrel
        have hb := ny_bd (y := y) (by omega) (by omega)
        have hl := lp_01 y
        have HS : Hid (ny (y + 1) = ny y + 365 + lp y) := ny_succ y
        by_cases hge : 365 + lp y ≤ n - ny y
        · have y4 : y + 1 < 2201 := ny_inv (by rw [HS.out, ny_2201]; omega)
          go_wp2_with (go_at_call 27; refine (ryearLength_any _ _ (by omega) (by omega)).mono ?_; rintro e w' ⟨rfl, rfl⟩)
          go_round
          case rel => exact ⟨y + 1, by omega, by omega, by rw [HS.out]; omega, rfl, by rw [HS.out]; congr 1; omega⟩
          case measure => simp [intOf]; omega
        · go_wp2_with (go_at_call 27; refine (ryearLength_any _ _ (by omega) (by omega)).mono ?_; rintro e w' ⟨rfl, rfl⟩)
          have HY : Hid (y = yr n) := yr_eq h1 h2 y3 (by rw [HS.out]; omega)
          go_loop [0, 6] (fun r k => ∃ m : Int, 1 ≤ m ∧ m ≤ 12 ∧ cum y m ≤ n - ny y ∧ k = .int .i64 m ∧ r = .int .i64 (n - ny y - cum y m)) (fun _ k => (13 - intOf k).toNat)
          case atStart => exact ⟨1, by omega, by omega, by rw [cum_1]; omega, rfl, by rw [cum_1]; congr 1; omega⟩
          case round =>
            obtain ⟨m, m1, m2, m3, rfl, rfl⟩ := hrel
            have cb := cum_bd y (m := m) (by omega) (by omega)
            have db := dim_bd y m
            have CS : Hid (cum y (m + 1) = cum y m + dim y m) := cum_succ y m1 m2
            by_cases hc : dim y m ≤ n - ny y - cum y m
            · have m4 : m < 12 := by
                by_cases e : m = 12
                · subst e; have := CS.out; have h13 := cum_13 y; rw [show (12 : Int) + 1 = 13 by decide] at this; omega
                · omega
              go_wp2_with (go_at_call 14; refine (rmonthLength_any _ _ _ (by omega) (by omega) (by omega) (by omega)).mono ?_; rintro e w' ⟨rfl, rfl⟩)
              go_round
              case rel => exact ⟨m + 1, by omega, by omega, by rw [CS.out]; omega, rfl, by rw [CS.out]; congr 1; omega⟩
              case measure => simp [intOf]; omega
            · go_wp2_with (go_at_call 14; refine (rmonthLength_any _ _ _ (by omega) (by omega) (by omega) (by omega)).mono ?_; rintro e w' ⟨rfl, rfl⟩)
              go_ret3
              have HM : m = mo y (n - ny y) := mo_eq (by omega) (by omega) m1 m2 m3 (by rw [CS.out]; omega)
              rw [← HY.out, ← HM]
              exact ⟨rfl, rfl⟩
end Go.Proofs.YtgfncgnhhkmopaaDoor
