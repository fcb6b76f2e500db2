package calendar

import (
	"math"
	"testing"
	"time"

	"datebook/api"
)

// dayOf asks the library for the day of a number.
func dayOf(number int) Day {
	t := time.Date(1970, 1, 1+number, 0, 0, 0, 0, time.UTC)
	return Day{Number: number, Year: t.Year(), Month: int(t.Month()), Day: t.Day(), Weekday: (int(t.Weekday()) + 6) % 7}
}

func TestAllDays(t *testing.T) {
	d := At(First())
	for number := First(); number <= Last(); number++ {
		want := dayOf(number)
		if d != want || At(number) != want {
			t.Fatalf("day %d: Next tells %v, At %v, want %v", number, d, At(number), want)
		}
		year := time.Date(want.Year, 1, 1, 0, 0, 0, 0, time.UTC)
		month := time.Date(want.Year, time.Month(want.Month), 1, 0, 0, 0, 0, time.UTC)
		if got, want := d.DayOfYear(), year.AddDate(0, 0, number-NewYear(d.Year)).YearDay(); got != want {
			t.Fatalf("day %d: the day %d of its year, want %d", number, got, want)
		}
		if got, want := d.YearLength(), year.AddDate(1, 0, -1).YearDay(); got != want {
			t.Fatalf("day %d: its year has %d days, want %d", number, got, want)
		}
		if got, want := d.MonthLength(), month.AddDate(0, 1, -1).Day(); got != want {
			t.Fatalf("day %d: its month has %d days, want %d", number, got, want)
		}
		if NewMonth(d.Year, d.Month) != number-d.Day+1 {
			t.Fatalf("day %d: its month begins with %d", number, NewMonth(d.Year, d.Month))
		}
		d = d.Next()
	}
}

func TestEdges(t *testing.T) {
	if First() != -25567 || Last() != 84005 {
		t.Errorf("the days go from %d to %d", First(), Last())
	}
	for number, want := range map[int]bool{-25568: false, -25567: true, 0: true, 84005: true, 84006: false, math.MinInt: false, math.MaxInt: false} {
		if IsDay(number) != want {
			t.Errorf("IsDay(%d) = %v", number, !want)
		}
	}
	for at, want := range map[int]bool{-2208988801: false, -2208988800: true, -1: true, 0: true, 7258118399: true, 7258118400: false, math.MinInt: false, math.MaxInt: false} {
		if IsTime(at) != want {
			t.Errorf("IsTime(%d) = %v", at, !want)
		}
	}
}

func TestSplit(t *testing.T) {
	for _, at := range []int{0, 1, -1, api.Day - 1, api.Day, -api.Day, -api.Day - 1, -api.Day + 1, math.MinInt, math.MaxInt} {
		number, second := Split(at)
		if second < 0 || second >= api.Day || number*api.Day+second != at {
			t.Errorf("Split(%d) = %d, %d", at, number, second)
		}
	}
}
