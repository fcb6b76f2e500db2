/-
  The contract of datebookref.Week, and the walk of the law Days.
-/
import Derived.Test.YtgfncgnhhkmopaaDoorCivD
namespace Go.Proofs.YtgfncgnhhkmopaaDoor
open Go.RowKit Cal

theorem wd_eq (n f : Int) : ((n + 3) % 7 - f) % 7 = (n + 3 - f) % 7 := by omega

set_option maxHeartbeats 400000 in
theorem rWeek_any (n f : Int) (w : World) :
    Calls Tryd.prog 10 #[.int .i64 n, .int .i64 f] w fun e w' => e = .returned (.tuple #[.int .i64 (wY n f), .int .i64 (wW n f), .int .i64 (wE n f)]) ∧ w' = w := by
  cases hday : day n
  · obtain ⟨e1, e2, e3⟩ := wk_isnt (n := n) (f := f) (by rw [hday]; simp)
    rw [e1, e2, e3]; clear e1 e2 e3
    go_enter Tryd.func10, Tryd.ntmps10
    go_wp2_with (go_at_call 18; refine (risDay_any _ _).mono ?_; rintro e w' ⟨rfl, rfl⟩)
    go_ret3
    exact ⟨rfl, rfl⟩
  · by_cases f1 : f < 0
    · obtain ⟨e1, e2, e3⟩ := wk_isnt (n := n) (f := f) (by omega)
      rw [e1, e2, e3]; clear e1 e2 e3
      go_enter Tryd.func10, Tryd.ntmps10
      go_wp2_with (go_at_call 18; refine (risDay_any _ _).mono ?_; rintro e w' ⟨rfl, rfl⟩)
      go_ret3
      exact ⟨rfl, rfl⟩
    · by_cases f2 : 6 < f
      · obtain ⟨e1, e2, e3⟩ := wk_isnt (n := n) (f := f) (by omega)
        rw [e1, e2, e3]; clear e1 e2 e3
        go_enter Tryd.func10, Tryd.ntmps10
        go_wp2_with (go_at_call 18; refine (risDay_any _ _).mono ?_; rintro e w' ⟨rfl, rfl⟩)
        go_ret3
        exact ⟨rfl, rfl⟩
      · obtain ⟨e1, e2, e3⟩ := wk_is (n := n) (f := f) hday (by omega) (by omega)
        obtain ⟨h1, h2⟩ := day_get hday
        rw [e1, e2, e3]; clear e1 e2 e3
        obtain ⟨b1, b2⟩ := fourth_bd (f := f) h1 h2
        obtain ⟨y1, y2, y3, y4⟩ := yr_is b1 b2
        have hb := ny_bd (y := yr (fourth n f)) (by omega) (by omega)
        unfold fourth at *
        go_enter Tryd.func10, Tryd.ntmps10
        go_wp2_with (first | (go_at_call 18; refine (risDay_any _ _).mono ?_; rintro e w' ⟨rfl, rfl⟩) | (go_at_call 24; refine (rweekday_any _ _ (by omega) (by omega)).mono ?_; rintro e w' ⟨rfl, rfl⟩) | (go_at_call 23; refine (rmod_any _ _ _ (by omega) (by omega) (by omega) (by omega)).mono ?_; rintro e w' ⟨rfl, rfl⟩) | (go_at_call 19; refine (rdate_any _ _ (by omega) (by omega)).mono ?_; rintro e w' ⟨rfl, rfl⟩) | (go_at_call 15; refine (rnewYear_any _ _ (by omega) (by omega)).mono ?_; rintro e w' ⟨rfl, rfl⟩))
        go_ret3
        exact ⟨rfl, rfl⟩

set_option maxHeartbeats 400000 in
theorem days_walk (y m d n f : Int) (w : World) (ht : Tab w) :
    Calls Tryd.prog 3 #[.int .i64 y, .int .i64 m, .int .i64 d, .int .i64 n, .int .i64 f] w fun e w' => e = .returned (.bool true) ∧ Below w.heap.size w w' := by
  have HT : Hid (Tab w) := ht
  clear ht
  have z1 : numV 2000 2 29 = 11016 := by decide
  have z2 : numE 2000 2 29 = 0 := by decide
  go_enter Tryd.func3, Tryd.ntmps3
  go_wp2_with (first | (go_at_call 5; refine (number_any _ _ _ _ HT.out).mono ?_; rintro e w' ⟨rfl, rfl⟩) | (go_at_call 6; refine (rnumber_any _ _ _ _).mono ?_; rintro e w' ⟨rfl, rfl⟩) | (go_at_call 7; refine (date_any _ _ HT.out).mono ?_; rintro e w1 ⟨rfl, hb⟩) | (go_at_call 8; refine (rDate_any _ _).mono ?_; rintro e w' ⟨rfl, rfl⟩) | (go_at_call 9; refine (week_any _ _ _).mono ?_; rintro e w' ⟨rfl, rfl⟩) | (go_at_call 10; refine (rWeek_any _ _ _).mono ?_; rintro e w' ⟨rfl, rfl⟩))
  go_ret
  exact ⟨rfl, hb⟩
end Go.Proofs.YtgfncgnhhkmopaaDoor
