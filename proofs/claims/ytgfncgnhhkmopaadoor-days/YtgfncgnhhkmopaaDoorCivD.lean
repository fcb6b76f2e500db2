/-
  The contracts of Date and Week, of packages civil and datebookref both: at any numbers.
-/
import Derived.Test.YtgfncgnhhkmopaaDoorCivC
import Derived.Below
import Derived.BigQuiet
namespace Go.Proofs.YtgfncgnhhkmopaaDoor
open Go.RowKit Cal

theorem results_tmp4 {fn : Func} {t u v x : Tmp} (h : fn.results = #[.tmp t, .tmp u, .tmp v, .tmp x]) (tmps : Array Value) (P : Program) (w : World) :
    (results fn tmps).run P w = .ok (.tuple #[tmps.getD t undef, tmps.getD u undef, tmps.getD v undef, tmps.getD x undef]) w := by
  simp [results, h]

theorem below_drewN {B : Nat} {a w : World} (h : Below B a w) (n : Nat) : Below B a (w.drewN n) := ⟨h.os, h.tape, h.output, h.size, h.block⟩
theorem Tab.below {w w' : World} (h : Tab w) (hb : Below w.heap.size w w') : Tab w' := by
  have k : ∀ i v, w.cell? ⟨0, i, none⟩ = some v → w'.cell? ⟨0, i, none⟩ = some v := fun i v hc => by rw [hb.cell (p := ⟨0, i, none⟩) (World.block_lt_of_cell? _ _ hc)]; exact hc
  obtain ⟨a0, a1, a2, a3, a4, a5, a6, a7, a8, a9, a10, a11⟩ := h
  exact ⟨k _ _ a0, k _ _ a1, k _ _ a2, k _ _ a3, k _ _ a4, k _ _ a5, k _ _ a6, k _ _ a7, k _ _ a8, k _ _ a9, k _ _ a10, k _ _ a11⟩

set_option maxHeartbeats 400000 in
theorem at_any (n : Int) (w : World) (ht : Tab w) (h1 : -25567 ≤ n) (h2 : n ≤ 84005) :
    Calls Tryd.prog 17 #[.int .i64 n] w fun e w' => e = .returned (.agg #[.int .i64 n, .int .i64 (yr n), .int .i64 (mo (yr n) (n - ny (yr n))), .int .i64 (n - ny (yr n) - cum (yr n) (mo (yr n) (n - ny (yr n))) + 1), .int .i64 ((n + 3 - 0) % 7)]) ∧ Below w.heap.size w w' := by
  have HT : Hid (Tab w) := ht
  clear ht
  have hy := yr_is (n := n) (by omega) (by omega)
  have hl := lp_01 (yr n)
  have HS : Hid (ny (yr n + 1) = ny (yr n) + 365 + lp (yr n)) := ny_succ (yr n)
  have HC : Hid (∀ wx, Calls Tryd.prog 21 #[.int .i64 n] wx fun e w' => e = .returned (.int .i64 (yr n)) ∧ w' = wx) := fun wx => yearOf_any n wx (by omega) (by omega)
  generalize yr n = y at *
  obtain ⟨y1, y2, y3, y4⟩ := hy
  have hb := ny_bd (y := y) (by omega) (by omega)
  have y5 : n - ny y < 365 + lp y := by have := HS.out; omega
  clear y2
  go_enter Tryd.func17, Tryd.ntmps17
  go_wp2_with (first | (go_at_call 21; refine (HC.out _).mono ?_; rintro e w' ⟨rfl, rfl⟩) | (go_at_call 22; refine (newYear_any _ _ (by omega) (by omega)).mono ?_; rintro e w' ⟨rfl, rfl⟩))
  have HT2 : Hid (Tab (w.alloc (.cells #[.int .i64 0, .int .i64 0, .int .i64 0, .int .i64 0, .int .i64 0] 35))) := HT.out.below ((Below.refl _ _).alloc (Nat.le_refl _) _)
  go_loop [4, 5] (fun k r => ∃ m : Int, 1 ≤ m ∧ m ≤ 12 ∧ cum y m ≤ n - ny y ∧ k = .int .i64 m ∧ r = .int .i64 (n - ny y - cum y m + 1)) (fun k _ => (13 - intOf k).toNat)
  case atStart => exact ⟨1, by omega, by omega, by rw [cum_1]; omega, rfl, by rw [cum_1]; congr 1; omega⟩
  case round =>
    obtain ⟨m, m1, m2, m3, rfl, rfl⟩ := hrel
    have cb := cum_bd y (m := m) (by omega) (by omega)
    have db := dim_bd y m
    have CS : Hid (cum y (m + 1) = cum y m + dim y m) := cum_succ y m1 m2
    by_cases hc : dim y m < n - ny y - cum y m + 1
    · have m4 : m < 12 := by
        by_cases e : m = 12
        · subst e; have := CS.out; have h13 := cum_13 y; rw [show (12 : Int) + 1 = 13 by decide] at this; omega
        · omega
      go_wp2_with (go_at_call 12; refine (monthLength_any _ _ _ HT2.out (by omega) (by omega) (by omega) (by omega)).mono ?_; rintro e w' ⟨rfl, rfl⟩)
      go_round
      case rel => exact ⟨m + 1, by omega, by omega, by rw [CS.out]; omega, rfl, by rw [CS.out]; congr 1; omega⟩
      case measure => simp [intOf]; omega
    · have HM : Hid (m = mo y (n - ny y)) := mo_eq (by omega) (by omega) m1 m2 m3 (by rw [CS.out]; omega)
      go_wp2_with (first | (go_at_call 12; refine (monthLength_any _ _ _ HT2.out (by omega) (by omega) (by omega) (by omega)).mono ?_; rintro e w' ⟨rfl, rfl⟩) | (go_at_call 20; refine (daysSince_any _ _ _ (by omega) (by omega) (by omega) (by omega)).mono ?_; rintro e w' ⟨rfl, rfl⟩))
      rw [← HM.out]
      exact bodyPost_ret (v := .agg #[.int .i64 n, .int .i64 y, .int .i64 m, .int .i64 (n - ny y - cum y m + 1), .int .i64 ((n + 3 - 0) % 7)]) (by simp [results, Tryd.results17, go_sem]) rfl ⟨rfl, (Below.refl _ _).alloc (Nat.le_refl _) _⟩

set_option maxHeartbeats 400000 in
theorem date_any (n : Int) (w : World) (ht : Tab w) :
    Calls Tryd.prog 7 #[.int .i64 n] w fun e w' => e = .returned (.tuple #[.int .i64 (dY n), .int .i64 (dM n), .int .i64 (dD n), .int .i64 (dE n)]) ∧ Below w.heap.size w w' := by
  have HT : Hid (Tab w) := ht
  clear ht
  cases hday : day n
  · obtain ⟨e1, e2, e3, e4⟩ := day_isnt hday
    rw [e1, e2, e3, e4]; clear e1 e2 e3 e4
    go_enter Tryd.func7, Tryd.ntmps7
    go_wp2_with (go_at_call 16; refine (isDay_any _ _).mono ?_; rintro e w' ⟨rfl, rfl⟩)
    (try simp only [Exit.inBlock, Exit.then]); refine bodyPost_ret (results_tmp4 rfl _ _ _) rfl ?_
    exact ⟨rfl, Below.refl _ _⟩
  · obtain ⟨e1, e2, e3, e4⟩ := day_is hday
    obtain ⟨h1, h2⟩ := day_get hday
    rw [e1, e2, e3, e4]; clear e1 e2 e3 e4
    have HC := at_any n w HT.out (by omega) (by omega)
    generalize n - ny (yr n) - cum (yr n) (mo (yr n) (n - ny (yr n))) + 1 = D at *
    generalize mo (yr n) (n - ny (yr n)) = MO at *
    generalize yr n = y at *
    have HC' : Hid (Calls Tryd.prog 17 #[.int .i64 n] w fun e w' => e = .returned (.agg #[.int .i64 n, .int .i64 y, .int .i64 MO, .int .i64 D, .int .i64 ((n + 3 - 0) % 7)]) ∧ Below w.heap.size w w') := HC
    clear HC
    go_enter Tryd.func7, Tryd.ntmps7
    go_wp2_with (first | (go_at_call 16; refine (isDay_any _ _).mono ?_; rintro e w' ⟨rfl, rfl⟩) | (go_at_call 17; refine HC'.out.mono ?_; rintro e w1 ⟨rfl, hb⟩))
    go_quiet (fail)
    go_wp2
    (try simp only [Exit.inBlock, Exit.then]); refine bodyPost_ret (results_tmp4 rfl _ _ _) rfl ?_
    exact ⟨rfl, below_drewN (hb.alloc hb.size _) _⟩

theorem rDate_any (n : Int) (w : World) :
    Calls Tryd.prog 8 #[.int .i64 n] w fun e w' => e = .returned (.tuple #[.int .i64 (dY n), .int .i64 (dM n), .int .i64 (dD n), .int .i64 (dE n)]) ∧ w' = w := by
  cases hday : day n
  · obtain ⟨e1, e2, e3, e4⟩ := day_isnt hday
    rw [e1, e2, e3, e4]; clear e1 e2 e3 e4
    go_enter Tryd.func8, Tryd.ntmps8
    go_wp2_with (go_at_call 18; refine (risDay_any _ _).mono ?_; rintro e w' ⟨rfl, rfl⟩)
    (try simp only [Exit.inBlock, Exit.then]); refine bodyPost_ret (results_tmp4 rfl _ _ _) rfl ?_
    exact ⟨rfl, rfl⟩
  · obtain ⟨e1, e2, e3, e4⟩ := day_is hday
    obtain ⟨h1, h2⟩ := day_get hday
    rw [e1, e2, e3, e4]; clear e1 e2 e3 e4
    go_enter Tryd.func8, Tryd.ntmps8
    go_wp2_with (first | (go_at_call 18; refine (risDay_any _ _).mono ?_; rintro e w' ⟨rfl, rfl⟩) | (go_at_call 19; refine (rdate_any _ _ (by omega) (by omega)).mono ?_; rintro e w' ⟨rfl, rfl⟩))
    (try simp only [Exit.inBlock, Exit.then]); refine bodyPost_ret (results_tmp4 rfl _ _ _) rfl ?_
    exact ⟨rfl, rfl⟩

theorem week_any (n f : Int) (w : World) :
    Calls Tryd.prog 9 #[.int .i64 n, .int .i64 f] w fun e w' => e = .returned (.tuple #[.int .i64 (wY n f), .int .i64 (wW n f), .int .i64 (wE n f)]) ∧ w' = w := by
  cases hday : day n
  · obtain ⟨e1, e2, e3⟩ := wk_isnt (n := n) (f := f) (by rw [hday]; simp)
    rw [e1, e2, e3]; clear e1 e2 e3
    go_enter Tryd.func9, Tryd.ntmps9
    go_wp2_with (go_at_call 16; refine (isDay_any _ _).mono ?_; rintro e w' ⟨rfl, rfl⟩)
    go_ret3
    exact ⟨rfl, rfl⟩
  · by_cases f1 : f < 0
    · obtain ⟨e1, e2, e3⟩ := wk_isnt (n := n) (f := f) (by omega)
      rw [e1, e2, e3]; clear e1 e2 e3
      go_enter Tryd.func9, Tryd.ntmps9
      go_wp2_with (go_at_call 16; refine (isDay_any _ _).mono ?_; rintro e w' ⟨rfl, rfl⟩)
      go_ret3
      exact ⟨rfl, rfl⟩
    · by_cases f2 : 6 < f
      · obtain ⟨e1, e2, e3⟩ := wk_isnt (n := n) (f := f) (by omega)
        rw [e1, e2, e3]; clear e1 e2 e3
        go_enter Tryd.func9, Tryd.ntmps9
        go_wp2_with (go_at_call 16; refine (isDay_any _ _).mono ?_; rintro e w' ⟨rfl, rfl⟩)
        go_ret3
        exact ⟨rfl, rfl⟩
      · obtain ⟨e1, e2, e3⟩ := wk_is (n := n) (f := f) hday (by omega) (by omega)
        obtain ⟨h1, h2⟩ := day_get hday
        rw [e1, e2, e3]; clear e1 e2 e3
        obtain ⟨b1, b2⟩ := fourth_bd (f := f) h1 h2
        obtain ⟨y1, y2, y3, y4⟩ := yr_is b1 b2
        have hb := ny_bd (y := yr (fourth n f)) (by omega) (by omega)
        unfold fourth at *
        go_enter Tryd.func9, Tryd.ntmps9
        go_wp2_with (first | (go_at_call 16; refine (isDay_any _ _).mono ?_; rintro e w' ⟨rfl, rfl⟩) | (go_at_call 20; refine (daysSince_any _ _ _ (by omega) (by omega) (by omega) (by omega)).mono ?_; rintro e w' ⟨rfl, rfl⟩) | (go_at_call 21; refine (yearOf_any _ _ (by omega) (by omega)).mono ?_; rintro e w' ⟨rfl, rfl⟩) | (go_at_call 22; refine (newYear_any _ _ (by omega) (by omega)).mono ?_; rintro e w' ⟨rfl, rfl⟩))
        go_ret3
        exact ⟨rfl, rfl⟩
end Go.Proofs.YtgfncgnhhkmopaaDoor
