/-
  The contracts of Date and Week, of packages civil and datebookref both: at any numbers.
-/
import Derived.Test.YtagcpjconachgaaDoorCivC
namespace Go.Proofs.YtagcpjconachgaaDoor
open Go.RowKit Cal

theorem results_tmp4 {fn : Func} {t u v x : Tmp} (h : fn.results = #[.tmp t, .tmp u, .tmp v, .tmp x]) (tmps : Array Value) (P : Program) (w : World) :
    (results fn tmps).run P w = .ok (.tuple #[tmps.getD t undef, tmps.getD u undef, tmps.getD v undef, tmps.getD x undef]) w := by
  simp [results, h]

set_option maxHeartbeats 400000 in
theorem date_any (n : Int) (w : World) (ht : Tab w) :
    Calls Tryd.prog 10 #[.int .i64 n] w fun e w' => e = .returned (.tuple #[.int .i64 (dY n), .int .i64 (dM n), .int .i64 (dD n), .int .i64 (dE n)]) ∧ w' = w := by
  have HT : Hid (Tab w) := ht
  clear ht
  cases hday : day n
  · obtain ⟨e1, e2, e3, e4⟩ := day_isnt hday
    rw [e1, e2, e3, e4]; clear e1 e2 e3 e4
    go_enter Tryd.func10, Tryd.ntmps10
    go_wp2_with (go_at_call 27; refine (isDay_any _ _).mono ?_; rintro e w' ⟨rfl, rfl⟩)
    (try simp only [Exit.inBlock, Exit.then]); refine bodyPost_ret (results_tmp4 rfl _ _ _) rfl ?_
    exact ⟨rfl, rfl⟩
  · obtain ⟨e1, e2, e3, e4⟩ := day_is hday
    obtain ⟨h1, h2⟩ := day_get hday
    rw [e1, e2, e3, e4]; clear e1 e2 e3 e4
    have hy := yr_is (n := n) (by omega) (by omega)
    have hl := lp_01 (yr n)
    have HS : Hid (ny (yr n + 1) = ny (yr n) + 365 + lp (yr n)) := ny_succ (yr n)
    have HC : Hid (Calls Tryd.prog 28 #[.int .i64 n] w fun e w' => e = .returned (.int .i64 (yr n)) ∧ w' = w) := yearOf_any n w (by omega) (by omega)
    generalize yr n = y at *
    obtain ⟨y1, y2, y3, y4⟩ := hy
    have hb := ny_bd (y := y) (by omega) (by omega)
    have y5 : n - ny y < 365 + lp y := by have := HS.out; omega
    clear y2
    go_enter Tryd.func10, Tryd.ntmps10
    go_wp2_with (first | (go_at_call 27; refine (isDay_any _ _).mono ?_; rintro e w' ⟨rfl, rfl⟩) | (go_at_call 28; refine HC.out.mono ?_; rintro e w' ⟨rfl, rfl⟩) | (go_at_call 24; refine (newYear_any _ _ (by omega) (by omega)).mono ?_; rintro e w' ⟨rfl, rfl⟩))
    go_loop [7, 8] (fun k r => ∃ m : Int, 1 ≤ m ∧ m ≤ 12 ∧ cum y m ≤ n - ny y ∧ k = .int .i64 m ∧ r = .int .i64 (n - ny y - cum y m + 1)) (fun k _ => (13 - intOf k).toNat)
    case atStart => exact ⟨1, by omega, by omega, by rw [cum_1]; omega, rfl, by rw [cum_1]; congr 1; omega⟩
    case round =>
      obtain ⟨m, m1, m2, m3, rfl, rfl⟩ := hrel
      have cb := cum_bd y (m := m) (by omega) (by omega)
      have db := dim_bd y m
      have CS : Hid (cum y (m + 1) = cum y m + dim y m) := cum_succ y m1 m2
      by_cases hc : dim y m < n - ny y - cum y m + 1
      · have m4 : m < 12 := by
          by_cases e : m = 12
          · subst e; have := CS.out; have h13 := cum_13 y; rw [show (12 : Int) + 1 = 13 by decide] at this; omega
          · omega
        go_wp2_with (go_at_call 23; refine (monthLength_any _ _ _ HT.out (by omega) (by omega) (by omega) (by omega)).mono ?_; rintro e w' ⟨rfl, rfl⟩)
        go_round
        case rel => exact ⟨m + 1, by omega, by omega, by rw [CS.out]; omega, rfl, by rw [CS.out]; congr 1; omega⟩
        case measure => simp [intOf]; omega
      · go_wp2_with (go_at_call 23; refine (monthLength_any _ _ _ HT.out (by omega) (by omega) (by omega) (by omega)).mono ?_; rintro e w' ⟨rfl, rfl⟩)
        have HM : m = mo y (n - ny y) := mo_eq (by omega) (by omega) m1 m2 m3 (by rw [CS.out]; omega)
        rw [← HM]
        (try simp only [Exit.inBlock, Exit.then]); refine bodyPost_ret (results_tmp4 rfl _ _ _) rfl ?_
        exact ⟨rfl, rfl⟩

theorem rDate_any (n : Int) (w : World) :
    Calls Tryd.prog 11 #[.int .i64 n] w fun e w' => e = .returned (.tuple #[.int .i64 (dY n), .int .i64 (dM n), .int .i64 (dD n), .int .i64 (dE n)]) ∧ w' = w := by
  cases hday : day n
  · obtain ⟨e1, e2, e3, e4⟩ := day_isnt hday
    rw [e1, e2, e3, e4]; clear e1 e2 e3 e4
    go_enter Tryd.func11, Tryd.ntmps11
    go_wp2_with (go_at_call 29; refine (risDay_any _ _).mono ?_; rintro e w' ⟨rfl, rfl⟩)
    (try simp only [Exit.inBlock, Exit.then]); refine bodyPost_ret (results_tmp4 rfl _ _ _) rfl ?_
    exact ⟨rfl, rfl⟩
  · obtain ⟨e1, e2, e3, e4⟩ := day_is hday
    obtain ⟨h1, h2⟩ := day_get hday
    rw [e1, e2, e3, e4]; clear e1 e2 e3 e4
    go_enter Tryd.func11, Tryd.ntmps11
    go_wp2_with (first | (go_at_call 29; refine (risDay_any _ _).mono ?_; rintro e w' ⟨rfl, rfl⟩) | (go_at_call 30; refine (rdate_any _ _ (by omega) (by omega)).mono ?_; rintro e w' ⟨rfl, rfl⟩))
    (try simp only [Exit.inBlock, Exit.then]); refine bodyPost_ret (results_tmp4 rfl _ _ _) rfl ?_
    exact ⟨rfl, rfl⟩

theorem week_any (n f : Int) (w : World) :
    Calls Tryd.prog 12 #[.int .i64 n, .int .i64 f] w fun e w' => e = .returned (.tuple #[.int .i64 (wY n f), .int .i64 (wW n f), .int .i64 (wE n f)]) ∧ w' = w := by
  cases hday : day n
  · obtain ⟨e1, e2, e3⟩ := wk_isnt (n := n) (f := f) (by rw [hday]; simp)
    rw [e1, e2, e3]; clear e1 e2 e3
    go_enter Tryd.func12, Tryd.ntmps12
    go_wp2_with (go_at_call 27; refine (isDay_any _ _).mono ?_; rintro e w' ⟨rfl, rfl⟩)
    go_ret3
    exact ⟨rfl, rfl⟩
  · by_cases f1 : f < 0
    · obtain ⟨e1, e2, e3⟩ := wk_isnt (n := n) (f := f) (by omega)
      rw [e1, e2, e3]; clear e1 e2 e3
      go_enter Tryd.func12, Tryd.ntmps12
      go_wp2_with (go_at_call 27; refine (isDay_any _ _).mono ?_; rintro e w' ⟨rfl, rfl⟩)
      go_ret3
      exact ⟨rfl, rfl⟩
    · by_cases f2 : 6 < f
      · obtain ⟨e1, e2, e3⟩ := wk_isnt (n := n) (f := f) (by omega)
        rw [e1, e2, e3]; clear e1 e2 e3
        go_enter Tryd.func12, Tryd.ntmps12
        go_wp2_with (go_at_call 27; refine (isDay_any _ _).mono ?_; rintro e w' ⟨rfl, rfl⟩)
        go_ret3
        exact ⟨rfl, rfl⟩
      · obtain ⟨e1, e2, e3⟩ := wk_is (n := n) (f := f) hday (by omega) (by omega)
        obtain ⟨h1, h2⟩ := day_get hday
        rw [e1, e2, e3]; clear e1 e2 e3
        obtain ⟨b1, b2⟩ := fourth_bd (f := f) h1 h2
        obtain ⟨y1, y2, y3, y4⟩ := yr_is b1 b2
        have hb := ny_bd (y := yr (fourth n f)) (by omega) (by omega)
        unfold fourth at *
        go_enter Tryd.func12, Tryd.ntmps12
        go_wp2_with (first | (go_at_call 27; refine (isDay_any _ _).mono ?_; rintro e w' ⟨rfl, rfl⟩) | (go_at_call 31; refine (daysSince_any _ _ _ (by omega) (by omega) (by omega) (by omega)).mono ?_; rintro e w' ⟨rfl, rfl⟩) | (go_at_call 28; refine (yearOf_any _ _ (by omega) (by omega)).mono ?_; rintro e w' ⟨rfl, rfl⟩) | (go_at_call 24; refine (newYear_any _ _ (by omega) (by omega)).mono ?_; rintro e w' ⟨rfl, rfl⟩))
        go_ret3
        exact ⟨rfl, rfl⟩
end Go.Proofs.YtagcpjconachgaaDoor
