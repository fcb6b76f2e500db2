/-
  Plain mathematics of days, months and years, for the walks over packages civil and datebookref: numbers of days, lengths of months, the year, month and day of a number, the week of a day. Nothing of the program's text is named here.
-/
import Derived.Test.YtmmnbdefkailpaaGreatDoorProg
import Derived.WalkKit
import Derived.Below
import Derived.BigQuiet

namespace Go.Proofs.YtmmnbdefkailpaaGreatDoor.Cal

/-- 1 in a year with a 29th of February, else 0. -/
def lp (y : Int) : Int := if y % 4 = 0 ∧ (y % 100 ≠ 0 ∨ y % 400 = 0) then 1 else 0
theorem lp_01 (y : Int) : 0 ≤ lp y ∧ lp y ≤ 1 := by unfold lp; split <;> omega
/-- the same as a Bool -/
def lpB (y : Int) : Bool := decide (lp y = 1)
theorem lpB_true {y : Int} (h : lpB y = true) : lp y = 1 := by simpa [lpB] using h
theorem lpB_false {y : Int} (h : lpB y = false) : lp y = 0 := by
  have := lp_01 y; have h2 : ¬ lp y = 1 := by simpa [lpB] using h
  omega
theorem lpB_iff (y : Int) : lpB y = decide (y % 4 = 0 ∧ (y % 100 ≠ 0 ∨ y % 400 = 0)) := by
  unfold lpB lp; split <;> simp_all

theorem lpB_y {y : Int} (h : y % 4 = 0 ∧ (y % 100 ≠ 0 ∨ y % 400 = 0)) : lpB y = true := by rw [lpB_iff]; simpa using h
theorem lpB_n {y : Int} (h : ¬ (y % 4 = 0 ∧ (y % 100 ≠ 0 ∨ y % 400 = 0))) : lpB y = false := by rw [lpB_iff]; simpa using h

/-- the number of a year's first day -/
def ny (y : Int) : Int := 365 * (y - 1970) + ((y - 1) / 4 - (y - 1) / 100 + (y - 1) / 400) - 477
theorem ny_succ (y : Int) : ny (y + 1) = ny y + 365 + lp y := by
  unfold ny lp; split <;> omega
theorem ny_mono {a b : Int} (h : a ≤ b) : ny a ≤ ny b := by unfold ny; omega
theorem ny_lt {a b : Int} (h : a < b) : ny a + 365 ≤ ny b := by
  have h1 := ny_succ a; have h2 := lp_01 a; have h3 := ny_mono (a := a + 1) (b := b) (by omega); omega
theorem ny_1970 : ny 1970 = 0 := by decide
theorem ny_1899 : ny 1899 = -25932 := by decide
theorem ny_1900 : ny 1900 = -25567 := by decide
theorem ny_2200 : ny 2200 = 84006 := by decide
theorem ny_2201 : ny 2201 = 84371 := by decide
theorem ny_bd {y : Int} (h1 : 1800 ≤ y) (h2 : y ≤ 2300) : -100000 ≤ ny y ∧ ny y ≤ 200000 := by unfold ny; omega
theorem ny_uniq {a b n : Int} (h1 : ny a ≤ n) (h2 : n < ny (a + 1)) (h3 : ny b ≤ n) (h4 : n < ny (b + 1)) : a = b := by
  rcases Int.lt_trichotomy a b with h | h | h
  · have := ny_mono (a := a + 1) (b := b) (by omega); omega
  · exact h
  · have := ny_mono (a := b + 1) (b := a) (by omega); omega

/-- the year of a number, looked for from a year on -/
def yrGo : Nat → Int → Int → Int
  | 0, y, _ => y
  | f + 1, y, n => if ny (y + 1) ≤ n then yrGo f (y + 1) n else y
def yr (n : Int) : Int := yrGo 301 1899 n
theorem yrGo_is : ∀ (f : Nat) (y n : Int), ny y ≤ n → n < ny (y + f + 1) → ny (yrGo f y n) ≤ n ∧ n < ny (yrGo f y n + 1) ∧ y ≤ yrGo f y n ∧ yrGo f y n ≤ y + f
  | 0, y, n, h1, h2 => by simp [yrGo]; exact ⟨h1, by simpa using h2⟩
  | f + 1, y, n, h1, h2 => by
    unfold yrGo
    split
    · rename_i h
      have := yrGo_is f (y + 1) n h (by rw [show y + 1 + (f : Int) + 1 = y + ((f + 1 : Nat) : Int) + 1 by push_cast; omega]; exact h2)
      push_cast; omega
    · push_cast; omega
theorem yr_is {n : Int} (h1 : -25932 ≤ n) (h2 : n < 84371) : ny (yr n) ≤ n ∧ n < ny (yr n + 1) ∧ 1899 ≤ yr n ∧ yr n ≤ 2200 := by
  have := yrGo_is 301 1899 n (by rw [ny_1899]; omega) (by rw [show (1899 : Int) + ((301 : Nat) : Int) + 1 = 2201 by decide, ny_2201]; omega)
  unfold yr; omega
theorem yr_eq {n y : Int} (h1 : -25932 ≤ n) (h2 : n < 84371) (h3 : ny y ≤ n) (h4 : n < ny (y + 1)) : y = yr n :=
  ny_uniq h3 h4 (yr_is h1 h2).1 (yr_is h1 h2).2.1
theorem yr_day {n : Int} (h1 : -25567 ≤ n) (h2 : n ≤ 84005) : 1900 ≤ yr n ∧ yr n ≤ 2199 := by
  have h := yr_is (n := n) (by omega) (by omega)
  constructor
  · have := ny_1900
    rcases Int.lt_or_le (yr n) 1900 with g | g
    · have := ny_mono (a := yr n + 1) (b := 1900) (by omega); omega
    · exact g
  · have := ny_2200
    rcases Int.lt_or_le 2199 (yr n) with g | g
    · have := ny_mono (a := 2200) (b := yr n) (by omega); omega
    · exact g

/-- the days of a month -/
def dim (y m : Int) : Int := if m = 2 then 28 + lp y else if m = 4 ∨ m = 6 ∨ m = 9 ∨ m = 11 then 30 else 31
theorem dim_bd (y m : Int) : 28 ≤ dim y m ∧ dim y m ≤ 31 := by
  have := lp_01 y; unfold dim; split
  · omega
  · split <;> omega
/-- the days of a year ahead of a month -/
def cum (y m : Int) : Int :=
  if m = 1 then 0 else if m = 2 then 31 else (if m = 3 then 59 else if m = 4 then 90 else if m = 5 then 120 else if m = 6 then 151 else if m = 7 then 181 else if m = 8 then 212 else if m = 9 then 243 else if m = 10 then 273 else if m = 11 then 304 else if m = 12 then 334 else 365) + lp y
theorem months {m : Int} (h1 : 1 ≤ m) (h2 : m ≤ 12) : m = 1 ∨ m = 2 ∨ m = 3 ∨ m = 4 ∨ m = 5 ∨ m = 6 ∨ m = 7 ∨ m = 8 ∨ m = 9 ∨ m = 10 ∨ m = 11 ∨ m = 12 := by omega
theorem cum_1 (y : Int) : cum y 1 = 0 := by simp [cum]
theorem cum_13 (y : Int) : cum y 13 = 365 + lp y := by simp [cum]
theorem cum_succ (y : Int) {m : Int} (h1 : 1 ≤ m) (h2 : m ≤ 12) : cum y (m + 1) = cum y m + dim y m := by
  rcases months h1 h2 with rfl | rfl | rfl | rfl | rfl | rfl | rfl | rfl | rfl | rfl | rfl | rfl <;> simp [cum, dim] <;> omega
theorem months13 {m : Int} (h1 : 1 ≤ m) (h2 : m ≤ 13) : m = 1 ∨ m = 2 ∨ m = 3 ∨ m = 4 ∨ m = 5 ∨ m = 6 ∨ m = 7 ∨ m = 8 ∨ m = 9 ∨ m = 10 ∨ m = 11 ∨ m = 12 ∨ m = 13 := by omega
theorem cum_bd (y : Int) {m : Int} (h1 : 1 ≤ m) (h2 : m ≤ 13) : 0 ≤ cum y m ∧ cum y m ≤ 366 := by
  have := lp_01 y
  rcases months13 h1 h2 with rfl | rfl | rfl | rfl | rfl | rfl | rfl | rfl | rfl | rfl | rfl | rfl | rfl <;> simp [cum] <;> omega
theorem cum_mono (y : Int) {a b : Int} (h1 : 1 ≤ a) (h2 : a < b) (h3 : b ≤ 13) : cum y (a + 1) ≤ cum y b := by
  obtain ⟨k, hk⟩ : ∃ k : Nat, b = a + 1 + k := ⟨(b - a - 1).toNat, by omega⟩
  subst hk
  clear h2
  induction k with
  | zero => simp
  | succ k ih =>
    have h4 := ih (by omega)
    have h5 := cum_succ y (m := a + 1 + k) (by omega) (by omega)
    have h6 := dim_bd y (a + 1 + k)
    rw [show a + 1 + ((k + 1 : Nat) : Int) = a + 1 + k + 1 by omega]
    omega
theorem cum_uniq {y a b r : Int} (a1 : 1 ≤ a) (a2 : a ≤ 12) (b1 : 1 ≤ b) (b2 : b ≤ 12) (h1 : cum y a ≤ r) (h2 : r < cum y (a + 1)) (h3 : cum y b ≤ r) (h4 : r < cum y (b + 1)) : a = b := by
  rcases Int.lt_trichotomy a b with h | h | h
  · have := cum_mono y a1 h (by omega); omega
  · exact h
  · have := cum_mono y b1 h (by omega); omega

/-- the month of a day of a year (0: the first one), looked for from a month on -/
def moGo (y : Int) : Nat → Int → Int → Int
  | 0, m, _ => m
  | f + 1, m, r => if cum y (m + 1) ≤ r then moGo y f (m + 1) r else m
def mo (y r : Int) : Int := moGo y 11 1 r
theorem moGo_is (y : Int) : ∀ (f : Nat) (m r : Int), cum y m ≤ r → r < cum y (m + f + 1) → cum y (moGo y f m r) ≤ r ∧ r < cum y (moGo y f m r + 1) ∧ m ≤ moGo y f m r ∧ moGo y f m r ≤ m + f
  | 0, m, r, h1, h2 => by simp [moGo]; exact ⟨h1, by simpa using h2⟩
  | f + 1, m, r, h1, h2 => by
    unfold moGo
    split
    · rename_i h
      have := moGo_is y f (m + 1) r h (by rw [show m + 1 + (f : Int) + 1 = m + ((f + 1 : Nat) : Int) + 1 by push_cast; omega]; exact h2)
      push_cast; omega
    · push_cast; omega
theorem mo_is {y r : Int} (h1 : 0 ≤ r) (h2 : r < 365 + lp y) : cum y (mo y r) ≤ r ∧ r < cum y (mo y r + 1) ∧ 1 ≤ mo y r ∧ mo y r ≤ 12 := by
  have := moGo_is y 11 1 r (by rw [cum_1]; omega) (by rw [show (1 : Int) + ((11 : Nat) : Int) + 1 = 13 by decide, cum_13]; omega)
  unfold mo; omega
theorem mo_eq {y r m : Int} (h1 : 0 ≤ r) (h2 : r < 365 + lp y) (m1 : 1 ≤ m) (m2 : m ≤ 12) (h3 : cum y m ≤ r) (h4 : r < cum y (m + 1)) : m = mo y r :=
  have h := mo_is h1 h2
  cum_uniq m1 m2 h.2.2.1 h.2.2.2 h3 h4 h.1 h.2.1

/-- is there such a day? -/
def vld (y m d : Int) : Bool := decide (1900 ≤ y ∧ y ≤ 2199 ∧ 1 ≤ m ∧ m ≤ 12 ∧ 1 ≤ d ∧ d ≤ dim y m)
theorem vld_mk {y m d : Int} (h : 1900 ≤ y ∧ y ≤ 2199 ∧ 1 ≤ m ∧ m ≤ 12 ∧ 1 ≤ d ∧ d ≤ dim y m) : vld y m d = true := by simpa [vld] using h
theorem vld_get {y m d : Int} (h : vld y m d = true) : 1900 ≤ y ∧ y ≤ 2199 ∧ 1 ≤ m ∧ m ≤ 12 ∧ 1 ≤ d ∧ d ≤ dim y m := by simpa [vld] using h
theorem vld_no {y m d : Int} (h : ¬ (1900 ≤ y ∧ y ≤ 2199 ∧ 1 ≤ m ∧ m ≤ 12 ∧ 1 ≤ d ∧ d ≤ dim y m)) : vld y m d = false := by simpa [vld] using h
/-- what Number answers -/
def numV (y m d : Int) : Int := if vld y m d = true then ny y + cum y m + d - 1 else 0
def numE (y m d : Int) : Int := if vld y m d = true then 0 else 1
theorem numV_yes {y m d : Int} (h : vld y m d = true) : numV y m d = ny y + cum y m + d - 1 := by simp [numV, h]
theorem numE_yes {y m d : Int} (h : vld y m d = true) : numE y m d = 0 := by simp [numE, h]
theorem numV_no {y m d : Int} (h : vld y m d = false) : numV y m d = 0 := by simp [numV, h]
theorem numE_no {y m d : Int} (h : vld y m d = false) : numE y m d = 1 := by simp [numE, h]

/-- the number of a day? -/
def day (n : Int) : Bool := decide (-25567 ≤ n ∧ n ≤ 84005)
theorem day_mk {n : Int} (h1 : -25567 ≤ n) (h2 : n ≤ 84005) : day n = true := by simp [day]; omega
theorem day_get {n : Int} (h : day n = true) : -25567 ≤ n ∧ n ≤ 84005 := by simpa [day] using h
theorem day_no {n : Int} (h : day n = false) : n < -25567 ∨ 84005 < n := by
  have : ¬ (-25567 ≤ n ∧ n ≤ 84005) := by intro h2; simp [day, h2] at h
  omega
/-- what Date answers -/
def dY (n : Int) : Int := if day n = true then yr n else 0
def dM (n : Int) : Int := if day n = true then mo (yr n) (n - ny (yr n)) else 0
def dD (n : Int) : Int := if day n = true then n - ny (yr n) - cum (yr n) (mo (yr n) (n - ny (yr n))) + 1 else 0
def dE (n : Int) : Int := if day n = true then 0 else 1

/-- the fourth day of a day's week, if weeks begin with the weekday f -/
def fourth (n f : Int) : Int := n - (n + 3 - f) % 7 + 3
def wkOk (n f : Int) : Bool := decide (-25567 ≤ n ∧ n ≤ 84005 ∧ 0 ≤ f ∧ f ≤ 6)
/-- what Week answers -/
def wY (n f : Int) : Int := if wkOk n f = true then yr (fourth n f) else 0
def wW (n f : Int) : Int := if wkOk n f = true then (fourth n f - ny (yr (fourth n f))) / 7 + 1 else 0
def wE (n f : Int) : Int := if wkOk n f = true then 0 else 1

theorem tm_bd (a b : Int) (h : 1 ≤ b) : -b < a.tmod b ∧ a.tmod b < b := by
  rcases Int.le_total 0 a with g | g
  · rw [Int.tmod_eq_emod_of_nonneg g]
    have := Int.emod_nonneg a (b := b) (by omega); have := Int.emod_lt_of_pos a (b := b) (by omega); omega
  · have e : a.tmod b = -((-a) % b) := by
      rw [← Int.tmod_eq_emod_of_nonneg (by omega : 0 ≤ -a), Int.neg_tmod]; omega
    rw [e]
    have := Int.emod_nonneg (-a) (b := b) (by omega); have := Int.emod_lt_of_pos (-a) (b := b) (by omega); omega
theorem tm_eq (a b : Int) : (a.tmod b + b) % b = a % b := by
  rw [Int.add_emod_right, Int.tmod_def]
  first | rw [Int.sub_mul_emod_self_left] | (rw [show a - b * a.tdiv b = a + b * (-(a.tdiv b)) by rw [Int.mul_neg]; omega, Int.add_mul_emod_self_left])
theorem ny_inv {a b : Int} (h : ny a < ny b) : a < b := by
  rcases Int.lt_or_le a b with g | g
  · exact g
  · have := ny_mono g; omega

theorem day_is {n : Int} (h : day n = true) : dY n = yr n ∧ dM n = mo (yr n) (n - ny (yr n)) ∧ dD n = n - ny (yr n) - cum (yr n) (mo (yr n) (n - ny (yr n))) + 1 ∧ dE n = 0 := by
  simp [dY, dM, dD, dE, h]
theorem day_isnt {n : Int} (h : day n = false) : dY n = 0 ∧ dM n = 0 ∧ dD n = 0 ∧ dE n = 1 := by
  simp [dY, dM, dD, dE, h]
theorem wk_is {n f : Int} (h : day n = true) (f1 : 0 ≤ f) (f2 : f ≤ 6) : wY n f = yr (fourth n f) ∧ wW n f = (fourth n f - ny (yr (fourth n f))) / 7 + 1 ∧ wE n f = 0 := by
  have h' := day_get h
  have : wkOk n f = true := by simp [wkOk]; omega
  simp [wY, wW, wE, this]
theorem wk_isnt {n f : Int} (h : ¬ (day n = true ∧ 0 ≤ f ∧ f ≤ 6)) : wY n f = 0 ∧ wW n f = 0 ∧ wE n f = 1 := by
  have : wkOk n f = false := by
    simp [day] at h
    simp [wkOk]; omega
  simp [wY, wW, wE, this]
theorem fourth_bd {n f : Int} (h1 : -25567 ≤ n) (h2 : n ≤ 84005) : -25932 ≤ fourth n f ∧ fourth n f < 84371 := by unfold fourth; omega
end Go.Proofs.YtmmnbdefkailpaaGreatDoor.Cal

/-
  The contracts of the small functions of packages civil and datebookref: leap years, lengths of months and years, first days of years.
-/
namespace Go.Proofs.YtmmnbdefkailpaaGreatDoor
open Go.RowKit Cal

theorem ret_int {k : IntKind} {a b : Int} (h : a = b) : Ending.returned (.int k a) = .returned (.int k b) := by rw [h]
theorem ret_bool {a b : Bool} (h : a = b) : Ending.returned (.bool a) = .returned (.bool b) := by rw [h]

theorem isLeap_any (y : Int) (w : World) (h1 : 1 ≤ y) (h2 : y ≤ 100000) :
    Calls Tryz.prog 41 #[.int .i64 y] w fun e w' => e = .returned (.bool (lpB y)) ∧ w' = w := by
  by_cases a : y % 4 = 0
  · by_cases b : y % 100 = 0
    · by_cases c : y % 400 = 0
      · go_enter Tryz.func41, Tryz.ntmps41
        go_wp2
        go_ret
        exact ⟨ret_bool (by first | rw [lpB_y (y := y) (by omega)] | (rw [lpB_n (y := y) (by omega)]; done) | (rw [lpB_n (y := y) (by omega)]; simpa using c)), rfl⟩
      · go_enter Tryz.func41, Tryz.ntmps41
        go_wp2
        go_ret
        exact ⟨ret_bool (by first | rw [lpB_y (y := y) (by omega)] | (rw [lpB_n (y := y) (by omega)]; done) | (rw [lpB_n (y := y) (by omega)]; simpa using c)), rfl⟩
    · go_enter Tryz.func41, Tryz.ntmps41
      go_wp2
      go_ret
      exact ⟨ret_bool (by first | rw [lpB_y (y := y) (by omega)] | (rw [lpB_n (y := y) (by omega)]; done) | (rw [lpB_n (y := y) (by omega)]; simpa using c)), rfl⟩
  · go_enter Tryz.func41, Tryz.ntmps41
    go_wp2
    go_ret
    exact ⟨ret_bool (by first | rw [lpB_y (y := y) (by omega)] | (rw [lpB_n (y := y) (by omega)]; done) | (rw [lpB_n (y := y) (by omega)]; simpa using c)), rfl⟩

theorem leaps_any (y : Int) (w : World) (h1 : 0 ≤ y) (h2 : y ≤ 100000) :
    Calls Tryz.prog 40 #[.int .i64 y] w fun e w' => e = .returned (.int .i64 (y / 4 - y / 100 + y / 400)) ∧ w' = w := by
  go_enter Tryz.func40, Tryz.ntmps40
  go_wp2
  go_ret
  exact ⟨rfl, rfl⟩

theorem newYear_any (y : Int) (w : World) (h1 : 1 ≤ y) (h2 : y ≤ 10000) :
    Calls Tryz.prog 22 #[.int .i64 y] w fun e w' => e = .returned (.int .i64 (ny y)) ∧ w' = w := by
  go_enter Tryz.func22, Tryz.ntmps22
  go_wp2_with (go_at_call 40; refine (leaps_any _ _ (by omega) (by omega)).mono ?_; rintro e w' ⟨rfl, rfl⟩)
  go_ret
  exact ⟨ret_int (by unfold ny; omega), rfl⟩

/-- What the walks want of the table of months' lengths, in memory. -/
def Tab (w : World) : Prop := w.cell? ⟨0, 0, none⟩ = some (.int .i64 31) ∧ w.cell? ⟨0, 1, none⟩ = some (.int .i64 28) ∧ w.cell? ⟨0, 2, none⟩ = some (.int .i64 31) ∧ w.cell? ⟨0, 3, none⟩ = some (.int .i64 30) ∧ w.cell? ⟨0, 4, none⟩ = some (.int .i64 31) ∧ w.cell? ⟨0, 5, none⟩ = some (.int .i64 30) ∧ w.cell? ⟨0, 6, none⟩ = some (.int .i64 31) ∧ w.cell? ⟨0, 7, none⟩ = some (.int .i64 31) ∧ w.cell? ⟨0, 8, none⟩ = some (.int .i64 30) ∧ w.cell? ⟨0, 9, none⟩ = some (.int .i64 31) ∧ w.cell? ⟨0, 10, none⟩ = some (.int .i64 30) ∧ w.cell? ⟨0, 11, none⟩ = some (.int .i64 31)

theorem monthLength_any (y m : Int) (w : World) (ht : Tab w) (h1 : 1 ≤ y) (h2 : y ≤ 100000) (m1 : 1 ≤ m) (m2 : m ≤ 12) :
    Calls Tryz.prog 23 #[.int .i64 y, .int .i64 m] w fun e w' => e = .returned (.int .i64 (dim y m)) ∧ w' = w := by
  obtain ⟨t0, t1, t2, t3, t4, t5, t6, t7, t8, t9, t10, t11⟩ := ht
  by_cases h : m = 2
  · subst h
    cases hl : lpB y
    · have h3 := lpB_false hl
      go_enter Tryz.func23, Tryz.ntmps23
      go_wp2_with (go_at_call 41; refine (isLeap_any _ _ (by omega) (by omega)).mono ?_; rintro e w' ⟨rfl, rfl⟩)
      go_ret
      exact ⟨ret_int (by simp [dim]; omega), rfl⟩
    · have h3 := lpB_true hl
      go_enter Tryz.func23, Tryz.ntmps23
      go_wp2_with (go_at_call 41; refine (isLeap_any _ _ (by omega) (by omega)).mono ?_; rintro e w' ⟨rfl, rfl⟩)
      go_ret
      exact ⟨ret_int (by simp [dim]; omega), rfl⟩
  · rcases months m1 m2 with rfl | rfl | rfl | rfl | rfl | rfl | rfl | rfl | rfl | rfl | rfl | rfl
    all_goals first
      | exact absurd rfl h
      | (go_enter Tryz.func23, Tryz.ntmps23
         go_wp2
         go_ret
         exact ⟨ret_int (by simp [dim]), rfl⟩)

end Go.Proofs.YtmmnbdefkailpaaGreatDoor

/-
  The contracts of newYear, date, mod, weekday of package datebookref, and of isDay, yearOf, daysSince of package civil: loops.
-/
namespace Go.Proofs.YtmmnbdefkailpaaGreatDoor
open Go.RowKit Cal

theorem ret_int2 {k l : IntKind} {a b c d : Int} (h : a = b) (g : c = d) : Ending.returned (.tuple #[.int k a, .int l c]) = .returned (.tuple #[.int k b, .int l d]) := by rw [h, g]
theorem ret_int3 {a b c d e f : Int} (h : a = b) (g : c = d) (j : e = f) : Ending.returned (.tuple #[.int .i64 a, .int .i64 c, .int .i64 e]) = .returned (.tuple #[.int .i64 b, .int .i64 d, .int .i64 f]) := by rw [h, g, j]

theorem daysSince_any (f n : Int) (w : World) (h1 : -200000 ≤ n) (h2 : n ≤ 200000) (h3 : 0 ≤ f) (h4 : f ≤ 6) :
    Calls Tryz.prog 24 #[.int .i64 f, .int .i64 n] w fun e w' => e = .returned (.int .i64 ((n + 3 - f) % 7)) ∧ w' = w := by
  have e0 := tm_eq (n + 3 - f) 7
  have e1 := tm_bd (n + 3 - f) 7 (by omega)
  go_enter Tryz.func24, Tryz.ntmps24
  go_wp2
  go_ret
  exact ⟨ret_int (by first | rfl | exact e0), rfl⟩

end Go.Proofs.YtmmnbdefkailpaaGreatDoor

/-
  The contracts of Number, Date and Week, of packages civil and datebookref both: at any numbers.
-/
namespace Go.Proofs.YtmmnbdefkailpaaGreatDoor
open Go.RowKit Cal

theorem first_any (w : World) :
    Calls Tryz.prog 19 #[] w fun e w' => e = .returned (.int .i64 (-25567)) ∧ w' = w := by
  have a1 := ny_1900
  go_enter Tryz.func19, Tryz.ntmps19
  go_wp2_with (go_at_call 22; refine (newYear_any _ _ (by omega) (by omega)).mono ?_; rintro e w' ⟨rfl, rfl⟩)
  go_ret
  exact ⟨by first | rfl | rw [a1], rfl⟩

theorem last_any (w : World) :
    Calls Tryz.prog 20 #[] w fun e w' => e = .returned (.int .i64 84005) ∧ w' = w := by
  have a2 := ny_2200
  go_enter Tryz.func20, Tryz.ntmps20
  go_wp2_with (go_at_call 22; refine (newYear_any _ _ (by omega) (by omega)).mono ?_; rintro e w' ⟨rfl, rfl⟩)
  go_ret
  exact ⟨by first | rfl | (congr 2; omega), rfl⟩

theorem isDay_any (n : Int) (w : World) :
    Calls Tryz.prog 10 #[.int .i64 n] w fun e w' => e = .returned (.bool (day n)) ∧ w' = w := by
  by_cases h1 : -25567 ≤ n
  · by_cases h2 : n < 84006
    · have h3 : day n = true := day_mk h1 (by omega)
      rw [h3]
      clear h3
      go_enter Tryz.func10, Tryz.ntmps10
      go_wp2_with (first | (go_at_call 19; refine (first_any _).mono ?_; rintro e w' ⟨rfl, rfl⟩) | (go_at_call 20; refine (last_any _).mono ?_; rintro e w' ⟨rfl, rfl⟩))
      go_ret
      exact ⟨ret_bool (decide_eq_true (by omega)), rfl⟩
    · have h3 : day n = false := by simp [day]; omega
      rw [h3]
      clear h3
      go_enter Tryz.func10, Tryz.ntmps10
      go_wp2_with (first | (go_at_call 19; refine (first_any _).mono ?_; rintro e w' ⟨rfl, rfl⟩) | (go_at_call 20; refine (last_any _).mono ?_; rintro e w' ⟨rfl, rfl⟩))
      go_ret
      exact ⟨ret_bool (decide_eq_false (by omega)), rfl⟩
  · have h3 : day n = false := by simp [day]; omega
    rw [h3]
    clear h3
    go_enter Tryz.func10, Tryz.ntmps10
    go_wp2_with (first | (go_at_call 19; refine (first_any _).mono ?_; rintro e w' ⟨rfl, rfl⟩) | (go_at_call 20; refine (last_any _).mono ?_; rintro e w' ⟨rfl, rfl⟩))
    go_ret
    exact ⟨rfl, rfl⟩

set_option maxHeartbeats 400000 in
theorem yearOf_any (n : Int) (w : World) (h1 : -25932 ≤ n) (h2 : n < 84371) :
    Calls Tryz.prog 21 #[.int .i64 n] w fun e w' => e = .returned (.int .i64 (yr n)) ∧ w' = w := by
  have a1 := ny_1899
  have HG : Hid (ny (1899 + (n + 25932) / 366) ≤ n) := by
    have : ny (1899 + (n + 25932) / 366) ≤ n := by unfold ny; omega
    exact this
  go_enter Tryz.func21, Tryz.ntmps21
  go_wp2_with (go_at_call 22; refine (newYear_any _ _ (by omega) (by omega)).mono ?_; rintro e w' ⟨rfl, rfl⟩)
  clear a1
  go_loop [3] (fun k => ∃ y : Int, 1899 ≤ y ∧ y ≤ 2200 ∧ ny y ≤ n ∧ k = .int .i64 y) (fun k => (2201 - intOf k).toNat)
  case atStart => exact ⟨1899 + (n + 25932) / 366, by omega, by omega, HG.out, by congr 1⟩
  case round =>
    obtain ⟨y, y1, y2, y3, rfl⟩ := hrel
    by_cases hle : ny (y + 1) ≤ n
    · have y4 : y + 1 < 2201 := ny_inv (by rw [ny_2201]; omega)
      go_wp2_with (go_at_call 22; refine (newYear_any _ _ (by omega) (by omega)).mono ?_; rintro e w' ⟨rfl, rfl⟩)
      go_round
      case rel => exact ⟨y + 1, by omega, by omega, hle, rfl⟩
      case measure => simp [intOf]; omega
    · have HY : Hid (y = yr n) := yr_eq h1 h2 y3 (by omega)
      go_wp2_with (go_at_call 22; refine (newYear_any _ _ (by omega) (by omega)).mono ?_; rintro e w' ⟨rfl, rfl⟩)
      go_ret
      exact ⟨ret_int HY.out, rfl⟩

set_option maxHeartbeats 400000 in
theorem newMonth_any (y m : Int) (w : World) (ht : Tab w) (h1 : 1800 ≤ y) (h2 : y ≤ 2300) (h3 : 1 ≤ m) (h4 : m ≤ 12) :
    Calls Tryz.prog 234 #[.int .i64 y, .int .i64 m] w fun e w' => e = .returned (.int .i64 (ny y + cum y m)) ∧ w' = w := by
  have HT : Hid (Tab w) := ht
  clear ht
  have hb := ny_bd (y := y) (by omega) (by omega)
  go_enter Tryz.func234, Tryz.ntmps234
  go_wp2_with (go_at_call 22; refine (newYear_any _ _ (by omega) (by omega)).mono ?_; rintro e w' ⟨rfl, rfl⟩)
  go_loop [5, 6] (fun n k => ∃ j : Int, 1 ≤ j ∧ j ≤ m ∧ k = .int .i64 j ∧ n = .int .i64 (ny y + cum y j)) (fun _ k => (12 - intOf k).toNat)
  case atStart => exact ⟨1, by omega, by omega, rfl, by rw [cum_1]; congr 1; omega⟩
  case round =>
    obtain ⟨j, j1, j2, rfl, rfl⟩ := hrel
    have cb := cum_bd y (m := j) (by omega) (by omega)
    by_cases hlt : j < m
    · have db := dim_bd y j
      have CS : Hid (cum y (j + 1) = cum y j + dim y j) := cum_succ y (m := j) (by omega) (by omega)
      go_wp2_with (go_at_call 23; refine (monthLength_any _ _ _ HT.out (by omega) (by omega) (by omega) (by omega)).mono ?_; rintro e w' ⟨rfl, rfl⟩)
      go_round
      case rel => exact ⟨j + 1, by omega, by omega, rfl, by rw [CS.out]; congr 1; omega⟩
      case measure => simp [intOf]; omega
    · have e : j = m := by omega
      subst e
      go_wp2
      go_ret
      exact ⟨rfl, rfl⟩

set_option maxHeartbeats 400000 in
theorem number_any (y m d : Int) (w : World) (ht : Tab w) :
    Calls Tryz.prog 229 #[.int .i64 y, .int .i64 m, .int .i64 d] w fun e w' => e = .returned (.tuple #[.int .i64 (numV y m d), .int .i64 (numE y m d)]) ∧ w' = w := by
  by_cases h1 : y < 1900
  · have h : vld y m d = false := vld_no (by omega)
    rw [numV_no h, numE_no h]; clear h
    go_enter Tryz.func229, Tryz.ntmps229
    go_wp2
    go_ret2
    exact ⟨rfl, rfl⟩
  by_cases h2 : 2199 < y
  · have h : vld y m d = false := vld_no (by omega)
    rw [numV_no h, numE_no h]; clear h
    go_enter Tryz.func229, Tryz.ntmps229
    go_wp2
    go_ret2
    exact ⟨rfl, rfl⟩
  by_cases h3 : m < 1
  · have h : vld y m d = false := vld_no (by omega)
    rw [numV_no h, numE_no h]; clear h
    go_enter Tryz.func229, Tryz.ntmps229
    go_wp2
    go_ret2
    exact ⟨rfl, rfl⟩
  by_cases h4 : 12 < m
  · have h : vld y m d = false := vld_no (by omega)
    rw [numV_no h, numE_no h]; clear h
    go_enter Tryz.func229, Tryz.ntmps229
    go_wp2
    go_ret2
    exact ⟨rfl, rfl⟩
  by_cases h5 : d < 1
  · have h : vld y m d = false := vld_no (by omega)
    rw [numV_no h, numE_no h]; clear h
    go_enter Tryz.func229, Tryz.ntmps229
    go_wp2
    go_ret2
    exact ⟨rfl, rfl⟩
  have HT : Hid (Tab w) := ht
  clear ht
  by_cases h6 : dim y m < d
  · have h : vld y m d = false := vld_no (by omega)
    rw [numV_no h, numE_no h]; clear h
    go_enter Tryz.func229, Tryz.ntmps229
    go_wp2_with (go_at_call 23; refine (monthLength_any _ _ _ HT.out (by omega) (by omega) (by omega) (by omega)).mono ?_; rintro e w' ⟨rfl, rfl⟩)
    go_ret2
    exact ⟨rfl, rfl⟩
  have h : vld y m d = true := vld_mk (by omega)
  have h7 := dim_bd y m
  have hb := ny_bd (y := y) (by omega) (by omega)
  rw [numV_yes h, numE_yes h]; clear h
  go_enter Tryz.func229, Tryz.ntmps229
  have cb := cum_bd y (m := m) (by omega) (by omega)
  go_wp2_with (first | (go_at_call 23; refine (monthLength_any _ _ _ HT.out (by omega) (by omega) (by omega) (by omega)).mono ?_; rintro e w' ⟨rfl, rfl⟩) | (go_at_call 234; refine (newMonth_any _ _ _ HT.out (by omega) (by omega) (by omega) (by omega)).mono ?_; rintro e w' ⟨rfl, rfl⟩))
  go_ret2
  exact ⟨rfl, rfl⟩

end Go.Proofs.YtmmnbdefkailpaaGreatDoor

/-
  The contracts of Date and Week, of packages civil and datebookref both: at any numbers.
-/
namespace Go.Proofs.YtmmnbdefkailpaaGreatDoor
open Go.RowKit Cal

theorem results_tmp4 {fn : Func} {t u v x : Tmp} (h : fn.results = #[.tmp t, .tmp u, .tmp v, .tmp x]) (tmps : Array Value) (P : Program) (w : World) :
    (results fn tmps).run P w = .ok (.tuple #[tmps.getD t undef, tmps.getD u undef, tmps.getD v undef, tmps.getD x undef]) w := by
  simp [results, h]

theorem below_drewN {B : Nat} {a w : World} (h : Below B a w) (n : Nat) : Below B a (w.drewN n) := ⟨h.os, h.tape, h.output, h.size, h.block⟩
theorem Tab.below {w w' : World} (h : Tab w) (hb : Below w.heap.size w w') : Tab w' := by
  have k : ∀ i v, w.cell? ⟨0, i, none⟩ = some v → w'.cell? ⟨0, i, none⟩ = some v := fun i v hc => by rw [hb.cell (p := ⟨0, i, none⟩) (World.block_lt_of_cell? _ _ hc)]; exact hc
  obtain ⟨a0, a1, a2, a3, a4, a5, a6, a7, a8, a9, a10, a11⟩ := h
  exact ⟨k _ _ a0, k _ _ a1, k _ _ a2, k _ _ a3, k _ _ a4, k _ _ a5, k _ _ a6, k _ _ a7, k _ _ a8, k _ _ a9, k _ _ a10, k _ _ a11⟩

set_option maxHeartbeats 400000 in
theorem at_any (n : Int) (w : World) (ht : Tab w) (h1 : -25567 ≤ n) (h2 : n ≤ 84005) :
    Calls Tryz.prog 11 #[.int .i64 n] w fun e w' => e = .returned (.agg #[.int .i64 n, .int .i64 (yr n), .int .i64 (mo (yr n) (n - ny (yr n))), .int .i64 (n - ny (yr n) - cum (yr n) (mo (yr n) (n - ny (yr n))) + 1), .int .i64 ((n + 3 - 0) % 7)]) ∧ Below w.heap.size w w' := by
  have HT : Hid (Tab w) := ht
  clear ht
  have hy := yr_is (n := n) (by omega) (by omega)
  have hl := lp_01 (yr n)
  have HS : Hid (ny (yr n + 1) = ny (yr n) + 365 + lp (yr n)) := ny_succ (yr n)
  have HC : Hid (∀ wx, Calls Tryz.prog 21 #[.int .i64 n] wx fun e w' => e = .returned (.int .i64 (yr n)) ∧ w' = wx) := fun wx => yearOf_any n wx (by omega) (by omega)
  generalize yr n = y at *
  obtain ⟨y1, y2, y3, y4⟩ := hy
  have hb := ny_bd (y := y) (by omega) (by omega)
  have y5 : n - ny y < 365 + lp y := by have := HS.out; omega
  clear y2
  go_enter Tryz.func11, Tryz.ntmps11
  go_wp2_with (first | (go_at_call 21; refine (HC.out _).mono ?_; rintro e w' ⟨rfl, rfl⟩) | (go_at_call 22; refine (newYear_any _ _ (by omega) (by omega)).mono ?_; rintro e w' ⟨rfl, rfl⟩))
  have HT2 : Hid (Tab (w.alloc (.cells #[.int .i64 0, .int .i64 0, .int .i64 0, .int .i64 0, .int .i64 0] 40))) := HT.out.below ((Below.refl _ _).alloc (Nat.le_refl _) _)
  go_loop [4, 5] (fun k r => ∃ m : Int, 1 ≤ m ∧ m ≤ 12 ∧ cum y m ≤ n - ny y ∧ k = .int .i64 m ∧ r = .int .i64 (n - ny y - cum y m + 1)) (fun k _ => (13 - intOf k).toNat)
  case atStart => exact ⟨1, by omega, by omega, by rw [cum_1]; omega, rfl, by rw [cum_1]; congr 1; omega⟩
  case round =>
    obtain ⟨m, m1, m2, m3, rfl, rfl⟩ := hrel
    have cb := cum_bd y (m := m) (by omega) (by omega)
    have db := dim_bd y m
    have CS : Hid (cum y (m + 1) = cum y m + dim y m) := cum_succ y m1 m2
    by_cases hc : dim y m < n - ny y - cum y m + 1
    · have m4 : m < 12 := by
        by_cases e : m = 12
        · subst e; have := CS.out; have h13 := cum_13 y; rw [show (12 : Int) + 1 = 13 by decide] at this; omega
        · omega
      go_wp2_with (go_at_call 23; refine (monthLength_any _ _ _ HT2.out (by omega) (by omega) (by omega) (by omega)).mono ?_; rintro e w' ⟨rfl, rfl⟩)
      go_round
      case rel => exact ⟨m + 1, by omega, by omega, by rw [CS.out]; omega, rfl, by rw [CS.out]; congr 1; omega⟩
      case measure => simp [intOf]; omega
    · have HM : Hid (m = mo y (n - ny y)) := mo_eq (by omega) (by omega) m1 m2 m3 (by rw [CS.out]; omega)
      go_wp2_with (first | (go_at_call 23; refine (monthLength_any _ _ _ HT2.out (by omega) (by omega) (by omega) (by omega)).mono ?_; rintro e w' ⟨rfl, rfl⟩) | (go_at_call 24; refine (daysSince_any _ _ _ (by omega) (by omega) (by omega) (by omega)).mono ?_; rintro e w' ⟨rfl, rfl⟩))
      rw [← HM.out]
      exact bodyPost_ret (v := .agg #[.int .i64 n, .int .i64 y, .int .i64 m, .int .i64 (n - ny y - cum y m + 1), .int .i64 ((n + 3 - 0) % 7)]) (by simp [results, Tryz.results11, go_sem]) rfl ⟨rfl, (Below.refl _ _).alloc (Nat.le_refl _) _⟩

set_option maxHeartbeats 400000 in
theorem date_any (n : Int) (w : World) (ht : Tab w) :
    Calls Tryz.prog 5 #[.int .i64 n] w fun e w' => e = .returned (.tuple #[.int .i64 (dY n), .int .i64 (dM n), .int .i64 (dD n), .int .i64 (dE n)]) ∧ Below w.heap.size w w' := by
  have HT : Hid (Tab w) := ht
  clear ht
  cases hday : day n
  · obtain ⟨e1, e2, e3, e4⟩ := day_isnt hday
    rw [e1, e2, e3, e4]; clear e1 e2 e3 e4
    go_enter Tryz.func5, Tryz.ntmps5
    go_wp2_with (go_at_call 10; refine (isDay_any _ _).mono ?_; rintro e w' ⟨rfl, rfl⟩)
    (try simp only [Exit.inBlock, Exit.then]); refine bodyPost_ret (results_tmp4 rfl _ _ _) rfl ?_
    exact ⟨rfl, Below.refl _ _⟩
  · obtain ⟨e1, e2, e3, e4⟩ := day_is hday
    obtain ⟨h1, h2⟩ := day_get hday
    rw [e1, e2, e3, e4]; clear e1 e2 e3 e4
    have HC := at_any n w HT.out (by omega) (by omega)
    generalize n - ny (yr n) - cum (yr n) (mo (yr n) (n - ny (yr n))) + 1 = D at *
    generalize mo (yr n) (n - ny (yr n)) = MO at *
    generalize yr n = y at *
    have HC' : Hid (Calls Tryz.prog 11 #[.int .i64 n] w fun e w' => e = .returned (.agg #[.int .i64 n, .int .i64 y, .int .i64 MO, .int .i64 D, .int .i64 ((n + 3 - 0) % 7)]) ∧ Below w.heap.size w w') := HC
    clear HC
    go_enter Tryz.func5, Tryz.ntmps5
    go_wp2_with (first | (go_at_call 10; refine (isDay_any _ _).mono ?_; rintro e w' ⟨rfl, rfl⟩) | (go_at_call 11; refine HC'.out.mono ?_; rintro e w1 ⟨rfl, hb⟩))
    go_quiet (fail)
    go_wp2
    (try simp only [Exit.inBlock, Exit.then]); refine bodyPost_ret (results_tmp4 rfl _ _ _) rfl ?_
    exact ⟨rfl, below_drewN (hb.alloc hb.size _) _⟩

end Go.Proofs.YtmmnbdefkailpaaGreatDoor
