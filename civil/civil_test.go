package civil

import (
	"math"
	"testing"
	"time"

	"datebook/api"
)

const (
	firstDay = -25567 // the 1st of January 1900
	lastDay  = 84005  // the 31st of December 2199
)

// dayOf asks the library for the day of a number.
func dayOf(number int) time.Time {
	return time.Date(1970, 1, 1+number, 0, 0, 0, 0, time.UTC)
}

// weekdayOf asks the library for a weekday, from Monday 0 on.
func weekdayOf(number int) int {
	return (int(dayOf(number).Weekday()) + 6) % 7
}

func TestNumberAndDateOfAllDays(t *testing.T) {
	for n := firstDay; n <= lastDay; n++ {
		d := dayOf(n)
		year, month, day := d.Year(), int(d.Month()), d.Day()
		if got, e := Number(year, month, day); got != n || e != api.OK {
			t.Fatalf("P3: Number(%d, %d, %d) = %d, %d, want %d", year, month, day, got, e, n)
		}
		if y, m, k, e := Date(n); y != year || m != month || k != day || e != api.OK {
			t.Fatalf("P3: Date(%d) = %d, %d, %d, %d, want %d, %d, %d", n, y, m, k, e, year, month, day)
		}
	}
}

func TestNumberExamples(t *testing.T) {
	for _, c := range []struct{ year, month, day, want int }{
		{1970, 1, 1, 0},
		{1970, 1, 2, 1},
		{1969, 12, 31, -1},
		{2000, 2, 29, 11016},
		{1900, 1, 1, firstDay},
		{2199, 12, 31, lastDay},
	} {
		if n, e := Number(c.year, c.month, c.day); n != c.want || e != api.OK {
			t.Errorf("P3: Number(%d, %d, %d) = %d, %d, want %d", c.year, c.month, c.day, n, e, c.want)
		}
	}
}

// Around the edges each triple is held against the library, which turns one that is no day into another.
func TestNumberOfTriples(t *testing.T) {
	for year := api.MinYear - 2; year <= api.MaxYear+2; year++ {
		for month := -1; month <= 14; month++ {
			for day := -1; day <= 33; day++ {
				d := time.Date(year, time.Month(month), day, 0, 0, 0, 0, time.UTC)
				there := d.Year() == year && int(d.Month()) == month && d.Day() == day && year >= api.MinYear && year <= api.MaxYear
				n, e := Number(year, month, day)
				if there != (e == api.OK) || !there && (n != 0 || e != api.ErrArg) {
					t.Fatalf("P3: Number(%d, %d, %d) = %d, %d", year, month, day, n, e)
				}
			}
		}
	}
}

func TestNumberOfGreatNumbers(t *testing.T) {
	wild := []int{math.MinInt, math.MinInt + 1, -1 << 32, 1 << 32, math.MaxInt - 1, math.MaxInt}
	for _, w := range wild {
		for _, c := range [][3]int{{w, 1, 1}, {2024, w, 1}, {2024, 1, w}, {w, w, w}} {
			if n, e := Number(c[0], c[1], c[2]); n != 0 || e != api.ErrArg {
				t.Errorf("P1, P3: Number(%v) = %d, %d", c, n, e)
			}
		}
	}
}

func TestWrongNumbers(t *testing.T) {
	for _, n := range []int{firstDay - 1, lastDay + 1, firstDay - 400, lastDay + 400, math.MinInt, math.MinInt + 1, math.MaxInt - 1, math.MaxInt} {
		if y, m, d, e := Date(n); y != 0 || m != 0 || d != 0 || e != api.ErrArg {
			t.Errorf("P1, P3: Date(%d) = %d, %d, %d, %d", n, y, m, d, e)
		}
		for first := -1; first <= 7; first++ {
			if y, w, e := Week(n, first); y != 0 || w != 0 || e != api.ErrArg {
				t.Errorf("P1, P3: Week(%d, %d) = %d, %d, %d", n, first, y, w, e)
			}
		}
	}
}

func TestWrongFirst(t *testing.T) {
	for _, n := range []int{firstDay, -1, 0, 1, lastDay} {
		for _, first := range []int{-1, 7, -7, 13, math.MinInt, math.MaxInt} {
			if y, w, e := Week(n, first); y != 0 || w != 0 || e != api.ErrArg {
				t.Errorf("P1, P3: Week(%d, %d) = %d, %d, %d", n, first, y, w, e)
			}
		}
	}
}

// beginOfWeekOne goes through the days on which week 1 of a year may begin, and counts how many days of the year that week has.
func beginOfWeekOne(year int, first int) int {
	newYear := int(time.Date(year, 1, 1, 0, 0, 0, 0, time.UTC).Unix() / api.Day)
	for begin := newYear - 6; ; begin++ {
		inYear := 0
		for n := begin; n < begin+7; n++ {
			if dayOf(n).Year() == year {
				inYear++
			}
		}
		if weekdayOf(begin) == first && inYear >= 4 {
			return begin
		}
	}
}

func TestWeekOfAllDays(t *testing.T) {
	for first := 0; first <= 6; first++ {
		seen := 0
		for year := api.MinYear - 1; year <= api.MaxYear+1; year++ {
			begin, end := beginOfWeekOne(year, first), beginOfWeekOne(year+1, first)
			for n := max(begin, firstDay); n < min(end, lastDay+1); n++ {
				seen++
				want := (n-begin)/7 + 1
				if y, w, e := Week(n, first); y != year || w != want || e != api.OK {
					t.Fatalf("P3: Week(%d, %d) = %d, %d, %d, want %d, %d", n, first, y, w, e, year, want)
				}
			}
		}
		if seen != lastDay-firstDay+1 {
			t.Fatalf("%d days were asked for", seen)
		}
	}
}

func TestWeekExamples(t *testing.T) {
	for _, c := range []struct{ year, month, day, first, wantYear, wantWeek int }{
		{2021, 1, 1, 0, 2020, 53},
		{2021, 1, 3, 0, 2020, 53},
		{2021, 1, 3, 6, 2021, 1},
		{2024, 12, 30, 0, 2025, 1},
		{1900, 1, 1, 0, 1900, 1},
		{1900, 1, 1, 1, 1899, 52},
		{2199, 12, 31, 0, 2200, 1},
		{2199, 12, 31, 2, 2199, 52},
	} {
		n, _ := Number(c.year, c.month, c.day)
		if y, w, e := Week(n, c.first); y != c.wantYear || w != c.wantWeek || e != api.OK {
			t.Errorf("P3: Week of %d-%d-%d with %d = %d, %d, %d, want %d, %d", c.year, c.month, c.day, c.first, y, w, e, c.wantYear, c.wantWeek)
		}
	}
}

// A call between two others must not change what they answer.
func TestDaysAnswerTheSameAgain(t *testing.T) {
	for n := firstDay; n <= lastDay; n += 97 {
		y, m, d, _ := Date(n)
		year, week, _ := Week(n, 3)
		Number(2023, 2, 29)
		Date(lastDay + firstDay - n)
		Week(math.MaxInt, -1)
		if y2, m2, d2, _ := Date(n); y2 != y || m2 != m || d2 != d {
			t.Fatalf("P2: Date(%d) differs", n)
		}
		if year2, week2, _ := Week(n, 3); year2 != year || week2 != week {
			t.Fatalf("P2: Week(%d, 3) differs", n)
		}
	}
}
