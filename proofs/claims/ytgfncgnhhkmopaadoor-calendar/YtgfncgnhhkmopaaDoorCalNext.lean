/-
  Plain mathematics of the next day and of the next day's week. Nothing of the program's text is named here.
-/
import Derived.Test.YtgfncgnhhkmopaaDoorCal
namespace Go.Proofs.YtgfncgnhhkmopaaDoor.Cal

theorem date_back {n : Int} (h : day n = true) : vld (dY n) (dM n) (dD n) = true ∧ ny (dY n) + cum (dY n) (dM n) + dD n - 1 = n ∧ ny (dY n) ≤ n ∧ n < ny (dY n + 1) ∧ cum (dY n) (dM n) ≤ n - ny (dY n) ∧ n - ny (dY n) < cum (dY n) (dM n + 1) := by
  obtain ⟨h1, h2⟩ := day_get h
  obtain ⟨e1, e2, e3, _⟩ := day_is h
  obtain ⟨y1, y2, y3, y4⟩ := yr_is (n := n) (by omega) (by omega)
  obtain ⟨y5, y6⟩ := yr_day h1 h2
  have hs := ny_succ (yr n)
  obtain ⟨m1, m2, m3, m4⟩ := mo_is (y := yr n) (r := n - ny (yr n)) (by omega) (by omega)
  have hc := cum_succ (yr n) m3 m4
  rw [e1, e2, e3]
  refine ⟨vld_mk ?_, by omega, y1, y2, m1, m2⟩
  omega

/-- Three ways of a next day. -/
theorem date_next {n : Int} (h1 : -25567 ≤ n) (h2 : n + 1 ≤ 84005) :
    (dY (n + 1) = dY n ∧ dM (n + 1) = dM n ∧ dD (n + 1) = dD n + 1) ∨
    (dY (n + 1) = dY n ∧ dM (n + 1) = dM n + 1 ∧ dD (n + 1) = 1 ∧ 28 ≤ dD n) ∨
    (dY (n + 1) = dY n + 1 ∧ dM (n + 1) = 1 ∧ dD (n + 1) = 1 ∧ 28 ≤ dD n ∧ dM n = 12) := by
  have d1 : day n = true := day_mk h1 (by omega)
  have d2 : day (n + 1) = true := day_mk (by omega) h2
  obtain ⟨a1, a2, a3, a4, a5, a6⟩ := date_back d1
  obtain ⟨b1, b2, b3, b4, b5, b6⟩ := date_back d2
  have a7 := vld_get a1
  have b7 := vld_get b1
  have hs := ny_succ (dY n)
  have hl := lp_01 (dY n)
  have hc := cum_succ (dY n) (m := dM n) (by omega) (by omega)
  have hd := dim_bd (dY n) (dM n)
  have h13 := cum_13 (dY n)
  by_cases g : n + 1 < ny (dY n + 1)
  · have ey : dY (n + 1) = dY n := ny_uniq b3 b4 (by omega) g
    rw [ey] at b2 b3 b4 b5 b6 b7
    by_cases k : n + 1 - ny (dY n) < cum (dY n) (dM n + 1)
    · left
      have em : dM (n + 1) = dM n := cum_uniq (by omega) (by omega) (by omega) (by omega) b5 b6 (by omega) k
      rw [em] at b2
      exact ⟨ey, em, by omega⟩
    · right; left
      have m12 : dM n < 12 := by
        by_cases e : dM n = 12
        · rw [e, show (12 : Int) + 1 = 13 by decide] at k; omega
        · omega
      have hc2 := cum_succ (dY n) (m := dM n + 1) (by omega) (by omega)
      have hd2 := dim_bd (dY n) (dM n + 1)
      have em : dM (n + 1) = dM n + 1 := cum_uniq (by omega) (by omega) (by omega) (by omega) b5 b6 (by omega) (by omega)
      rw [em] at b2
      exact ⟨ey, em, by omega, by omega⟩
  · right; right
    have ey : dY (n + 1) = dY n + 1 := ny_uniq b3 b4 (by omega) (by have := ny_succ (dY n + 1); have := lp_01 (dY n + 1); omega)
    rw [ey] at b2 b3 b4 b5 b6 b7
    have r0 : n + 1 - ny (dY n + 1) = 0 := by omega
    have em : dM (n + 1) = 1 := by
      have c1 := cum_1 (dY n + 1)
      have c2 := cum_succ (dY n + 1) (m := 1) (by omega) (by omega)
      have c3 := dim_bd (dY n + 1) 1
      exact cum_uniq (by omega) (by omega) (by omega) (by omega) b5 b6 (by omega) (by omega)
    have c1 := cum_1 (dY n + 1)
    rw [em] at b2
    have e12 : dM n = 12 := by
      by_cases e : dM n = 12
      · exact e
      · have := cum_mono (dY n) (a := dM n) (b := 13) (by omega) (by omega) (by omega)
        have c2 := cum_mono (dY n) (a := dM n) (b := 12) (by omega) (by omega) (by omega)
        have c3 := cum_succ (dY n) (m := 12) (by omega) (by omega)
        have c4 := dim_bd (dY n) 12
        rw [show (12 : Int) + 1 = 13 by decide] at c3
        omega
    refine ⟨ey, em, by omega, ?_, e12⟩
    rw [e12, show (12 : Int) + 1 = 13 by decide] at hc
    rw [e12] at a2 hd
    omega

theorem week_bd {n f : Int} (h1 : -25567 ≤ n) (h2 : n ≤ 84005) (f1 : 0 ≤ f) (f2 : f ≤ 6) : 1 ≤ wW n f ∧ wW n f ≤ 53 ∧ wE n f = 0 ∧ 1899 ≤ wY n f ∧ wY n f ≤ 2200 := by
  obtain ⟨e1, e2, e3⟩ := wk_is (f := f) (day_mk h1 h2) f1 f2
  obtain ⟨b1, b2⟩ := fourth_bd (f := f) h1 h2
  obtain ⟨y1, y2, y3, y4⟩ := yr_is b1 b2
  have hs := ny_succ (yr (fourth n f))
  have hl := lp_01 (yr (fourth n f))
  rw [e1, e2, e3]
  omega

/-- Three ways of a next day's week. -/
theorem week_next {n f : Int} (h1 : -25567 ≤ n) (h2 : n + 1 ≤ 84005) (f1 : 0 ≤ f) (f2 : f ≤ 6) :
    ((n + 1 + 3 - f) % 7 ≠ 0 ∧ wY (n + 1) f = wY n f ∧ wW (n + 1) f = wW n f) ∨
    ((n + 1 + 3 - f) % 7 = 0 ∧ wY (n + 1) f = wY n f ∧ wW (n + 1) f = wW n f + 1) ∨
    ((n + 1 + 3 - f) % 7 = 0 ∧ wY (n + 1) f = wY n f + 1 ∧ wW (n + 1) f = 1 ∧ 52 ≤ wW n f) := by
  obtain ⟨e1, e2, _⟩ := wk_is (f := f) (day_mk h1 (by omega)) f1 f2
  obtain ⟨g1, g2, _⟩ := wk_is (n := n + 1) (f := f) (day_mk (by omega) h2) f1 f2
  obtain ⟨b1, b2⟩ := fourth_bd (n := n) (f := f) h1 (by omega)
  obtain ⟨c1, c2⟩ := fourth_bd (n := n + 1) (f := f) (by omega) h2
  obtain ⟨y1, y2, y3, y4⟩ := yr_is b1 b2
  obtain ⟨z1, z2, z3, z4⟩ := yr_is c1 c2
  rw [e1, e2, g1, g2]
  by_cases k : (n + 1 + 3 - f) % 7 = 0
  · right
    have e : fourth (n + 1) f = fourth n f + 7 := by unfold fourth; omega
    rw [e] at z1 z2 z3 z4 ⊢
    have hs := ny_succ (yr (fourth n f))
    have hl := lp_01 (yr (fourth n f))
    by_cases j : fourth n f + 7 < ny (yr (fourth n f) + 1)
    · left
      have ey : yr (fourth n f + 7) = yr (fourth n f) := ny_uniq z1 z2 (by omega) j
      rw [ey]
      exact ⟨k, rfl, by omega⟩
    · right
      have hs2 := ny_succ (yr (fourth n f) + 1)
      have hl2 := lp_01 (yr (fourth n f) + 1)
      have ey : yr (fourth n f + 7) = yr (fourth n f) + 1 := ny_uniq z1 z2 (by omega) (by omega)
      rw [ey]
      exact ⟨k, rfl, by omega, by omega⟩
  · left
    have e : fourth (n + 1) f = fourth n f := by unfold fourth; omega
    rw [e]
    exact ⟨k, rfl, rfl⟩
theorem tm_zero {a : Int} (h : a % 7 = 0) : a.tmod 7 = 0 := by
  have h1 := tm_eq a 7
  have h2 := tm_bd a 7 (by omega)
  have h3 := Int.tmod_def a 7
  omega
theorem tm_nonzero {a : Int} (h : a % 7 ≠ 0) : a.tmod 7 ≠ 0 := by
  have h1 := tm_eq a 7
  omega
end Go.Proofs.YtgfncgnhhkmopaaDoor.Cal
