package event

import (
	"math"
	"math/rand"
	"reflect"
	"slices"
	"strings"
	"testing"
	"unicode/utf8"

	"datebook/api"
	"datebook/calendar"
	"datebook/recur"
)

// rising tells whether numbers are in order, without doubles, from least to most, without 0, and not too many.
func rising(l []int, least int, most int) bool {
	for i, n := range l {
		if n < least || n > most || n == 0 || i > 0 && l[i-1] >= n {
			return false
		}
	}
	return len(l) <= 20
}

// areDates tells whether times are in order, without doubles, and dates of an event; an event has as many at most.
func areDates(e api.Event, l ...int) bool {
	for i, at := range l {
		if at < -2208988800 || at > 7258118399 || e.Whole && at%api.Day != 0 || i > 0 && l[i-1] >= at {
			return false
		}
	}
	return len(l) <= 20
}

// isRule tells whether a rule can have been read.
func isRule(e api.Event) bool {
	r := e.Rule
	if r.Freq == 0 {
		lists := len(r.Months) + len(r.MonthDays) + len(r.Weekdays) + len(r.Places)
		return r.Every == 0 && r.Count == 0 && !r.Ends && r.Until == 0 && r.First == 0 && lists == 0
	}
	for i, w := range r.Weekdays {
		if w.Day < 0 || w.Day > 6 || w.N < -53 || w.N > 53 {
			return false
		}
		if i > 0 && (r.Weekdays[i-1].Day > w.Day || r.Weekdays[i-1].Day == w.Day && r.Weekdays[i-1].N >= w.N) {
			return false
		}
		if w.N != 0 && (r.Freq < api.Monthly || len(r.MonthDays) > 0) {
			return false
		}
	}
	switch {
	case r.Freq < 1, r.Freq > 4, r.Every < 1, r.Every > 400, r.Count < 0, r.Count > 999, r.First < 0, r.First > 6:
		return false
	case r.Ends && (r.Count > 0 || !areDates(e, r.Until)), !r.Ends && r.Until != 0:
		return false
	case r.Freq == api.Weekly && len(r.MonthDays) > 0, len(r.Weekdays) > 20:
		return false
	case len(r.Places) > 0 && len(r.Months)+len(r.MonthDays)+len(r.Weekdays) == 0:
		return false
	}
	return rising(r.Months, 1, 12) && rising(r.MonthDays, -31, 31) && rising(r.Places, -366, 366) && recur.Begins(e.Start, r)
}

// isEvent tells whether an event can have been read.
func isEvent(e api.Event) bool {
	for _, c := range []byte(e.Summary) {
		if c < 32 && c != '\t' && c != '\n' || c == 127 {
			return false
		}
	}
	switch {
	case !slowUid.MatchString(e.Uid), len(e.Summary) > 200, !utf8.ValidString(e.Summary):
		return false
	case e.Whole && e.Utc, !areDates(e, e.Start), !areDates(e, e.More...), !areDates(e, e.Fewer...):
		return false
	case e.Length < 0, e.Length > api.MaxLength, e.Whole && (e.Length == 0 || e.Length%api.Day != 0):
		return false
	}
	return isRule(e)
}

// changed changes one thing of an event.
func changed(r *rand.Rand, e *api.Event) {
	wild := []int{0, 1, -1, 2, 7, 8, 12, 13, 31, 32, -31, -32, 53, 54, -53, -54, 366, 367, -366, -367, 400, 401, 999, 1000, api.Day, -api.Day, 2 * api.Day, api.MaxLength, api.MaxLength + 1, api.MaxLength + api.Day, -2208988800, -2208988801, 7258118399, 7258118400, 7258118400 - api.Day, math.MinInt, math.MaxInt}
	number := func() int { return wild[r.Intn(len(wild))] }
	list := func(l []int) []int {
		l = slices.Clone(l)
		switch r.Intn(6) {
		case 0:
			return nil
		case 1:
			return []int{}
		case 2:
			return append(l, l...)
		case 3:
			return append(l, number())
		case 4:
			return make([]int, r.Intn(30))
		}
		l = append(l, number(), number())
		slices.Sort(l)
		return slices.Compact(l)
	}
	switch r.Intn(16) {
	case 0:
		e.Uid = pick(r, "", "b", strings.Repeat("u", 30), strings.Repeat("u", 31), "a b", "a\r\nX:y", "a\n", "\xff", "\u00e9", "a\r\nDTSTART:20240131T091500", strings.Repeat("x", 10000))
	case 1:
		e.Summary = pick(r, "", "x", "\r", "\n", "\t", "\x7f", "\x1f", "\xff", "\u00e9", `\;,n`, strings.Repeat(",", 200), strings.Repeat("x", 201), "a\r\nUID:b", " ", strings.Repeat("x", 67)+" \ty", strings.Repeat("\u65e5", 66), strings.Repeat("\u65e5", 67))
	case 2:
		e.Start = number()
	case 3:
		e.Start += number() % (40 * api.Day)
	case 4:
		e.Whole = !e.Whole
	case 5:
		e.Utc = !e.Utc
	case 6:
		e.Length = number()
	case 7:
		e.Rule.Freq = r.Intn(7) - 1
	case 8:
		e.Rule.Every = number()
	case 9:
		e.Rule.Count = number()
	case 10:
		e.Rule.Ends, e.Rule.Until = r.Intn(2) == 0, number()
	case 11:
		e.Rule.First = number()
	case 12:
		e.Rule.Months = list(e.Rule.Months)
	case 13:
		e.Rule.MonthDays, e.Rule.Places = list(e.Rule.MonthDays), list(e.Rule.Places)
	case 14:
		e.Rule.Weekdays = append(slices.Clone(e.Rule.Weekdays), api.Weekday{N: number(), Day: r.Intn(9) - 1})
	case 15:
		e.More, e.Fewer = list(e.More), list(e.Fewer)
	}
}

// someEvent is an event.
func someEvent(r *rand.Rand) api.Event {
	for {
		if e, why := slowEvent(someLines(r)); why == 0 {
			return e
		}
	}
}

// emptied is an event whose lists without elements are nil.
func emptied(e api.Event) api.Event {
	for _, l := range []*[]int{&e.More, &e.Fewer, &e.Rule.Months, &e.Rule.MonthDays, &e.Rule.Places} {
		if len(*l) == 0 {
			*l = nil
		}
	}
	if len(e.Rule.Weekdays) == 0 {
		e.Rule.Weekdays = nil
	}
	return e
}

// Events, changed or not: those that can have been read are printed, and read again as they were, all others are refused.
func TestPrintOfManyEvents(t *testing.T) {
	r := rand.New(rand.NewSource(7))
	right, wrong := 0, 0
	for range 15000 {
		e := someEvent(r)
		for range r.Intn(3) {
			changed(r, &e)
		}
		p, no := Print(e)
		if !isEvent(e) {
			wrong++
			if p != "" || no != api.ErrArg {
				t.Fatalf("P7: Print(%+v) = %q, %d", e, p, no)
			}
			if l, no := Expand(e, 0, 0, 0); len(l) > 0 || no != api.ErrArg {
				t.Fatalf("P8: Expand(%+v) = %v, %d", e, l, no)
			}
			continue
		}
		right++
		again, errno, why := Parse(p)
		if no != api.OK || errno != api.OK || !reflect.DeepEqual(again, emptied(e)) {
			t.Fatalf("P7, P14: Print(%+v) = %q, %d, which is read as %+v, %d, %d", e, p, no, again, errno, why)
		}
	}
	if right < 3000 || wrong < 3000 {
		t.Errorf("%d right events and %d wrong ones", right, wrong)
	}
}

// The lines, in their order, as the document writes them.
func TestPrintLines(t *testing.T) {
	day := 19753 * api.Day // the 31st of January 2024, a Wednesday
	for _, c := range []struct {
		e    api.Event
		want string
	}{
		{api.Event{Uid: "a", Start: day}, text("UID:a", "DTSTART:20240131T000000")},
		{api.Event{Uid: "a", Start: -2208988800, Utc: true, Length: 1}, text("UID:a", "DTSTART:19000101T000000Z", "DURATION:PT1S")},
		{api.Event{Uid: "a", Start: 7258118399, Length: api.MaxLength}, text("UID:a", "DTSTART:21991231T235959", "DURATION:PT2678400S")},
		{api.Event{Uid: "a", Start: day, Length: api.Day}, text("UID:a", "DTSTART:20240131T000000", "DURATION:PT86400S")},
		{api.Event{Uid: "a", Start: day, Length: api.Day, Whole: true}, text("UID:a", "DTSTART;VALUE=DATE:20240131")},
		{api.Event{Uid: "a", Start: day, Length: 2 * api.Day, Whole: true}, text("UID:a", "DTSTART;VALUE=DATE:20240131", "DURATION:P2D")},
		{api.Event{Uid: "a", Start: day, Length: api.MaxLength, Whole: true}, text("UID:a", "DTSTART;VALUE=DATE:20240131", "DURATION:P31D")},
		{api.Event{Uid: "a", Start: day + 3723, Summary: "\n,;\\n\t"}, text("UID:a", `SUMMARY:\n\,\;\\n`+"\t", "DTSTART:20240131T010203")},
		{api.Event{Uid: "a", Start: day, More: []int{0, day}, Fewer: []int{-1}}, text("UID:a", "DTSTART:20240131T000000", "RDATE:19700101T000000,20240131T000000", "EXDATE:19691231T235959")},
		{api.Event{Uid: "a", Start: day, Whole: true, Length: api.Day, Fewer: []int{0, day}}, text("UID:a", "DTSTART;VALUE=DATE:20240131", "EXDATE;VALUE=DATE:19700101,20240131")},
		{
			api.Event{Uid: "a", Start: day, Rule: api.Rule{Freq: api.Yearly, Every: 400, Count: 999, Months: []int{1, 12}, MonthDays: []int{-1, 30}, Weekdays: []api.Weekday{{Day: 2}, {Day: 6}}, Places: []int{-366, 1}, First: 6}},
			text("UID:a", "DTSTART:20240131T000000", "RRULE:FREQ=YEARLY;INTERVAL=400;COUNT=999;BYMONTH=1,12;BYMONTHDAY=-1,30;BYDAY=WE,SU;BYSETPOS=-366,1;WKST=SU"),
		},
		{
			api.Event{Uid: "a", Start: day, Utc: true, Rule: api.Rule{Freq: api.Monthly, Every: 1, Ends: true, Until: day, Weekdays: []api.Weekday{{Day: 0}, {N: -1, Day: 2}, {Day: 2}, {N: 5, Day: 2}}}},
			text("UID:a", "DTSTART:20240131T000000Z", "RRULE:FREQ=MONTHLY;UNTIL=20240131T000000Z;BYDAY=MO,-1WE,WE,5WE"),
		},
		{
			api.Event{Uid: "a", Start: day, Whole: true, Length: api.Day, Rule: api.Rule{Freq: api.Weekly, Every: 2, Ends: true, Until: day}},
			text("UID:a", "DTSTART;VALUE=DATE:20240131", "RRULE:FREQ=WEEKLY;INTERVAL=2;UNTIL=20240131"),
		},
		{api.Event{Uid: "a", Start: day, Rule: api.Rule{Freq: api.Daily, Every: 1}}, text("UID:a", "DTSTART:20240131T000000", "RRULE:FREQ=DAILY")},
	} {
		if p, no := Print(c.e); p != c.want || no != api.OK {
			t.Errorf("P7: Print(%+v) = %q, %d, want %q", c.e, p, no, c.want)
		}
	}
}

// The longest event there is has a text, too.
func TestPrintMost(t *testing.T) {
	e := api.Event{Uid: strings.Repeat("u", 30), Summary: strings.Repeat("\n", 200), Start: 7258118399, Utc: true, Length: api.MaxLength}
	e.Rule = api.Rule{Freq: api.Yearly, Every: 400, Ends: true, Until: 7258118399, First: 6}
	for i := range 20 {
		e.More = append(e.More, 7258118380+i)
		e.Fewer = append(e.Fewer, 7258118380+i)
		e.Rule.Places = append(e.Rule.Places, -366+i)
		e.Rule.Weekdays = append(e.Rule.Weekdays, api.Weekday{N: -53 + i, Day: 1})
	}
	for i := range 12 {
		e.Rule.Months = append(e.Rule.Months, i+1)
	}
	e.Rule.Weekdays[19] = api.Weekday{N: 5, Day: 1}
	e.Rule.Places[19] = -1
	if number, _ := calendar.Split(e.Start); calendar.At(number).Weekday != 1 {
		t.Fatal("the last day is no Tuesday")
	}
	p, no := Print(e)
	if again, _, _ := Parse(p); no != api.OK || !reflect.DeepEqual(again, e) {
		t.Errorf("P7: Print = %q, %d", p, no)
	}
}

// Lists and texts beyond all measure are refused, and not gone through.
func TestPrintHuge(t *testing.T) {
	good := api.Event{Uid: "a", Rule: api.Rule{Freq: api.Daily, Every: 1}}
	huge := make([]int, 1<<24)
	for _, f := range []func(e *api.Event){
		func(e *api.Event) { e.Uid = strings.Repeat("a", 1<<26) },
		func(e *api.Event) { e.Summary = strings.Repeat(",", 1<<26) },
		func(e *api.Event) { e.More = huge },
		func(e *api.Event) { e.Fewer = huge },
		func(e *api.Event) { e.Rule.Months = huge },
		func(e *api.Event) { e.Rule.MonthDays = huge },
		func(e *api.Event) { e.Rule.Places = huge },
		func(e *api.Event) { e.Rule.Weekdays = make([]api.Weekday, 1<<24) },
	} {
		e := good
		f(&e)
		if p, no := Print(e); p != "" || no != api.ErrArg {
			t.Errorf("P1, P7: Print = %.80q, %d", p, no)
		}
	}
}
