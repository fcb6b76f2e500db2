package recur

import (
	"math/rand"
	"slices"
	"testing"
	"time"

	"datebook/api"
	"datebook/calendar"
)

// known is a day as the library tells it, and which of its weekday it is in its month and year, from the front and from behind.
type known struct {
	number, year, month, day, weekday      int
	monthLength                            int
	inMonth, inYear, endOfMonth, endOfYear int
}

// knownDays are all days, worked out by counting.
func knownDays() []known {
	var all []known
	for n := calendar.First(); n <= calendar.Last(); n++ {
		t := time.Date(1970, 1, 1+n, 0, 0, 0, 0, time.UTC)
		k := known{number: n, year: t.Year(), month: int(t.Month()), day: t.Day(), weekday: (int(t.Weekday()) + 6) % 7}
		k.monthLength = time.Date(k.year, time.Month(k.month)+1, 0, 0, 0, 0, 0, time.UTC).Day()
		for u := t; u.Year() == k.year; u = u.AddDate(0, 0, -7) {
			k.inYear++
			if u.Month() == t.Month() {
				k.inMonth++
			}
		}
		for u := t; u.Year() == k.year; u = u.AddDate(0, 0, 7) {
			k.endOfYear--
			if u.Month() == t.Month() {
				k.endOfMonth--
			}
		}
		all = append(all, k)
	}
	return all
}

// wanted tells by the document's words whether a day is in the set of its period.
func wanted(k known, start known, r api.Rule) bool {
	if len(r.Months) > 0 && !slices.Contains(r.Months, k.month) {
		return false
	}
	monthDay := slices.Contains(r.MonthDays, k.day) || slices.Contains(r.MonthDays, k.day-k.monthLength-1)
	weekday := slices.Contains(r.Weekdays, api.Weekday{Day: k.weekday})
	switch {
	case r.Freq == api.Daily || r.Freq == api.Weekly:
		if r.Freq == api.Weekly && len(r.Weekdays) == 0 {
			weekday = k.weekday == start.weekday
			return weekday
		}
		return (monthDay || len(r.MonthDays) == 0) && (weekday || len(r.Weekdays) == 0)
	case len(r.MonthDays) > 0:
		return monthDay && (weekday || len(r.Weekdays) == 0)
	case len(r.Weekdays) > 0 && r.Freq == api.Yearly && len(r.Months) == 0:
		return weekday || slices.Contains(r.Weekdays, api.Weekday{N: k.inYear, Day: k.weekday}) || slices.Contains(r.Weekdays, api.Weekday{N: k.endOfYear, Day: k.weekday})
	case len(r.Weekdays) > 0:
		return weekday || slices.Contains(r.Weekdays, api.Weekday{N: k.inMonth, Day: k.weekday}) || slices.Contains(r.Weekdays, api.Weekday{N: k.endOfMonth, Day: k.weekday})
	case r.Freq == api.Monthly || len(r.Months) > 0:
		return k.day == start.day
	}
	return k.day == start.day && k.month == start.month
}

// periodOf is a number for the period of a day: the next one has the next number.
func periodOf(k known, r api.Rule) int {
	switch r.Freq {
	case api.Daily:
		return k.number
	case api.Weekly:
		return (k.number + 70000 + 3 - r.First) / 7 // day 0 was a Thursday; 70000 is a multiple of 7
	case api.Monthly:
		return k.year*12 + k.month
	}
	return k.year
}

// slow works the dates of a rule out, period by period, through all days.
func slow(all []known, start int, r api.Rule) []int {
	number, second := calendar.Split(start)
	first := all[number-calendar.First()]
	sets := map[int][]int{}
	for _, k := range all {
		behind := periodOf(k, r) - periodOf(first, r)
		if behind >= 0 && behind%r.Every == 0 && wanted(k, first, r) {
			sets[behind] = append(sets[behind], k.number)
		}
	}
	var out []int
	for _, set := range sets {
		for i, n := range set {
			at := n*api.Day + second
			placed := len(r.Places) == 0 || slices.Contains(r.Places, i+1) || slices.Contains(r.Places, i-len(set))
			if placed && at >= start && (!r.Ends || at <= r.Until) {
				out = append(out, at)
			}
		}
	}
	slices.Sort(out)
	if r.Count > 0 && len(out) > r.Count {
		out = out[:r.Count]
	}
	return out
}

// some is a list of a few numbers from least to most, without 0.
func some(r *rand.Rand, least int, most int) []int {
	var out []int
	for range 1 + r.Intn(4) {
		if n := least + r.Intn(most-least+1); n != 0 {
			out = append(out, n)
		}
	}
	slices.Sort(out)
	return slices.Compact(out)
}

// someRule is a rule whose parts go together.
func someRule(r *rand.Rand, start int) api.Rule {
	rule := api.Rule{Freq: 1 + r.Intn(4), Every: 1, First: r.Intn(7)}
	if r.Intn(2) == 0 {
		rule.Every = 1 + r.Intn([]int{3, 20, 400}[r.Intn(3)])
	}
	switch r.Intn(4) {
	case 0:
		rule.Count = 1 + r.Intn(999)
	case 1:
		rule.Ends, rule.Until = true, start+r.Intn(1<<uint(20+r.Intn(14)))
	}
	if r.Intn(3) == 0 {
		rule.Months = some(r, 1, 12)
	}
	if r.Intn(3) == 0 && rule.Freq != api.Weekly {
		rule.MonthDays = some(r, -31, 31)
	}
	if r.Intn(2) == 0 {
		for _, n := range some(r, 1, 7) {
			w := api.Weekday{Day: n - 1}
			if rule.Freq >= api.Monthly && len(rule.MonthDays) == 0 && r.Intn(2) == 0 {
				w.N = some(r, -53, -1)[0] / (1 + r.Intn(12))
				w.N *= 1 - 2*r.Intn(2)
			}
			rule.Weekdays = append(rule.Weekdays, w)
		}
	}
	if r.Intn(3) == 0 && len(rule.Months)+len(rule.MonthDays)+len(rule.Weekdays) > 0 {
		rule.Places = some(r, -3, 3)
		if r.Intn(4) == 0 {
			rule.Places = some(r, -366, 366)
		}
	}
	return rule
}

// someStart is a time, often near the edges of the years.
func someStart(r *rand.Rand) int {
	first, days := calendar.First(), calendar.Last()-calendar.First()+1
	number := first + r.Intn(days)
	switch r.Intn(8) {
	case 0:
		number = first + r.Intn(10)
	case 1:
		number = first + days - 1 - r.Intn(400)
	}
	return number*api.Day + r.Intn(2)*r.Intn(api.Day)
}

func TestDatesOfManyRules(t *testing.T) {
	all := knownDays()
	r := rand.New(rand.NewSource(8))
	begun := 0
	for range 600 {
		start := someStart(r)
		rule := someRule(r, start)
		want := slow(all, start, rule)
		if r.Intn(4) > 0 && len(want) > 0 { // most rules do not have a start by chance
			if start = want[r.Intn(len(want))]; rule.Ends && rule.Until < start {
				rule.Until = start
			}
			want = slow(all, start, rule)
		}
		begins := len(want) > 0 && want[0] == start
		if Begins(start, rule) != begins {
			t.Fatalf("P6: Begins(%d, %+v) = %v", start, rule, !begins)
		}
		if begins {
			begun++
		}
		if got := slices.Collect(Dates(start, rule, start)); !slices.Equal(got, want) {
			t.Fatalf("P8: Dates(%d, %+v) = %d dates, want %d", start, rule, len(got), len(want))
		}
		from := someStart(r)
		got := slices.Collect(Dates(start, rule, from))
		ahead := func(at int) bool { return at < from }
		if !slices.Equal(slices.DeleteFunc(got, ahead), slices.DeleteFunc(want, ahead)) {
			t.Fatalf("P8: Dates(%d, %+v, %d) leaves dates behind from out", start, rule, from)
		}
	}
	if begun < 150 {
		t.Errorf("only %d rules had the start", begun)
	}
}

// A week over the edge of the years has only the days that are in them: 1900 begins with a Monday, 2199 ends with a Tuesday.
func TestWeeksOverTheEdge(t *testing.T) {
	all := []api.Weekday{{Day: 0}, {Day: 1}, {Day: 2}, {Day: 3}, {Day: 4}, {Day: 5}, {Day: 6}}
	first, last := calendar.First()*api.Day, calendar.Last()*api.Day
	rule := api.Rule{Freq: api.Weekly, Every: 1, First: 3, Weekdays: all, Places: []int{3}, Count: 2}
	want := []int{first + 2*api.Day, first + 5*api.Day}
	if got := slices.Collect(Dates(first, rule, first)); !slices.Equal(got, want) {
		t.Errorf("P8: the first week: %d, want %d", got, want)
	}
	if Begins(first, rule) || !Begins(want[0], rule) {
		t.Errorf("P6: the third day of the first week is not its third")
	}
	rule = api.Rule{Freq: api.Weekly, Every: 1, Weekdays: all, Places: []int{-1}}
	want = []int{last - 2*api.Day, last}
	if got := slices.Collect(Dates(want[0], rule, first)); !slices.Equal(got, want) {
		t.Errorf("P8: the last week: %d, want %d", got, want)
	}
}

// Who stops is told no more.
func TestDatesStopped(t *testing.T) {
	for range Dates(0, api.Rule{Freq: api.Daily, Every: 1}, 0) {
		break
	}
}

// The last date may be that of UNTIL, and the start the only one.
func TestEnds(t *testing.T) {
	for until, want := range map[int]int{0: 1, api.Day - 1: 1, api.Day: 2, api.Day + 1: 2, 9 * api.Day: 10, -1: 0} {
		rule := api.Rule{Freq: api.Daily, Every: 1, Ends: true, Until: until}
		if got := slices.Collect(Dates(0, rule, 0)); len(got) != want || Begins(0, rule) != (want > 0) {
			t.Errorf("P8: up to %d: %d, want %d dates", until, got, want)
		}
	}
}

// Whoever asks for late dates must not be told more than COUNT has: the early ones count.
func TestCountOfLateDates(t *testing.T) {
	for count := range 12 {
		rule := api.Rule{Freq: api.Daily, Every: 1, Count: count + 1}
		late := slices.DeleteFunc(slices.Collect(Dates(0, rule, 10*api.Day)), func(at int) bool { return at < 10*api.Day })
		if len(late) != max(0, count-9) {
			t.Errorf("P8: COUNT=%d: %d", count+1, late)
		}
	}
}
