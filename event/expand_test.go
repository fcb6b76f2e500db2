package event

import (
	"math"
	"math/rand"
	"reflect"
	"slices"
	"testing"

	"datebook/api"
	"datebook/recur"
)

// allTimes are all times at which an event is, by the document's words.
func allTimes(e api.Event) []int {
	all := []int{e.Start}
	if e.Rule.Freq > 0 {
		all = slices.Collect(recur.Dates(e.Start, e.Rule, e.Start))
	}
	all = append(all, e.More...)
	all = slices.DeleteFunc(all, func(at int) bool { return slices.Contains(e.Fewer, at) })
	slices.Sort(all)
	return slices.Compact(all)
}

// withOwnDates gives an event dates beside those of its rule, some of these among them, and leaves some out.
func withOwnDates(r *rand.Rand, e *api.Event) {
	all := allTimes(*e)
	if len(all) == 0 || len(e.More)+len(e.Fewer) > 30 {
		return
	}
	near := func() int { return all[r.Intn(min(len(all), 40))] }
	for _, l := range []*[]int{&e.More, &e.Fewer} {
		for range r.Intn(4) {
			at := near()
			if r.Intn(3) == 0 {
				at = min(at+7*api.Day, 7258032000)
			}
			*l = append(*l, at)
		}
		slices.Sort(*l)
		*l = slices.Compact(*l)
		*l = (*l)[:min(len(*l), 20)]
	}
}

// someTime is a time near one of an event's.
func someTime(r *rand.Rand, all []int) int {
	const first, last = -2208988800, 7258118399
	if r.Intn(10) == 0 || len(all) == 0 {
		return first + r.Intn(last-first+1)
	}
	at := all[r.Intn(len(all))]
	if r.Intn(2) == 0 {
		at = all[r.Intn(min(len(all), 30))]
	}
	at += []int{0, 0, 1, -1, api.Day, -api.Day, r.Intn(3 * api.MaxLength), -r.Intn(3 * api.MaxLength)}[r.Intn(8)]
	return max(first, min(at, last))
}

func TestExpandOfManyEvents(t *testing.T) {
	r := rand.New(rand.NewSource(9))
	count := map[api.Errno]int{}
	for range 1200 {
		e := someEvent(r)
		withOwnDates(r, &e)
		if r.Intn(4) == 0 {
			e.Length = api.MaxLength
		}
		all := allTimes(e)
		for range 6 {
			from, to := someTime(r, all), someTime(r, all)
			var want []int
			for _, at := range all {
				if at < to && (at >= from || e.Length > 0 && at+e.Length > from) {
					want = append(want, at)
				}
			}
			most := []int{0, 1, api.MaxHits, len(want), len(want) - 1, len(want) + 1}[r.Intn(6)]
			most = max(0, min(most, api.MaxHits))
			wantNo := api.OK
			if len(want) > most {
				want, wantNo = nil, api.ErrMany
			}
			count[wantNo]++
			got, no := Expand(e, from, to, most)
			if !slices.Equal(got, want) || no != wantNo {
				t.Fatalf("P8: Expand(%+v, %d, %d, %d) = %d, %d, want %d, %d", e, from, to, most, got, no, want, wantNo)
			}
		}
	}
	if count[api.OK] < 500 || count[api.ErrMany] < 500 {
		t.Errorf("%d answers, %d of too many", count[api.OK], count[api.ErrMany])
	}
}

func TestExpandWrongArguments(t *testing.T) {
	good := api.Event{Uid: "a"}
	for _, c := range []struct{ from, to, most int }{
		{-2208988801, 0, 1}, {0, 7258118400, 1}, {7258118400, 0, 1}, {0, -2208988801, 1}, {0, 1, -1}, {0, 1, 1001},
		{math.MinInt, 0, 1}, {math.MaxInt, 0, 1}, {0, math.MinInt, 1}, {0, math.MaxInt, 1}, {0, 1, math.MinInt}, {0, 1, math.MaxInt},
	} {
		if l, no := Expand(good, c.from, c.to, c.most); len(l) > 0 || no != api.ErrArg {
			t.Errorf("P8: Expand(%v) = %v, %d", c, l, no)
		}
	}
	for _, c := range []struct{ from, to, most int }{{-2208988800, 7258118399, 1000}, {7258118399, -2208988800, 0}, {0, 1, 1}} {
		if _, no := Expand(good, c.from, c.to, c.most); no != api.OK {
			t.Errorf("P8: Expand(%v) = %d", c, no)
		}
	}
	// What is wrong with arguments is told ahead of how many there would be.
	if l, no := Expand(api.Event{Uid: "a", Utc: true, Whole: true}, 0, 1, 0); len(l) > 0 || no != api.ErrArg {
		t.Errorf("P1, P8: Expand = %v, %d", l, no)
	}
}

func TestExpandEdges(t *testing.T) {
	daily := api.Rule{Freq: api.Daily, Every: 1}
	for _, c := range []struct {
		name           string
		e              api.Event
		from, to, most int
		want           []int
		no             api.Errno
	}{
		{"as many as may be", api.Event{Uid: "a", Rule: daily}, 0, 1000 * api.Day, 1000, nil, api.OK},
		{"one more", api.Event{Uid: "a", Rule: daily}, 0, 1000*api.Day + 1, 1000, nil, api.ErrMany},
		{"all of them", api.Event{Uid: "a", Start: -2208988800, Rule: daily}, -2208988800, 7258118399, 1000, nil, api.ErrMany},
		{"the last second is not in it", api.Event{Uid: "a", Start: 7258118399}, 0, 7258118399, 1, []int{}, api.OK},
		{"a start that is left out", api.Event{Uid: "a", Rule: api.Rule{Freq: api.Daily, Every: 1, Count: 2}, Fewer: []int{0}}, 0, 9 * api.Day, 9, []int{api.Day}, api.OK},
		{"a date that is more and fewer", api.Event{Uid: "a", More: []int{5, 6}, Fewer: []int{5}}, 0, 9, 9, []int{0, 6}, api.OK},
		{"a date ahead of the start", api.Event{Uid: "a", Rule: api.Rule{Freq: api.Daily, Every: 1, Count: 1}, More: []int{-5}}, -9, 9, 9, []int{-5, 0}, api.OK},
		{"a date that is the rule's too", api.Event{Uid: "a", Rule: daily, More: []int{api.Day}}, 0, 2 * api.Day, 2, []int{0, api.Day}, api.OK},
		{"from behind to, within a long one", api.Event{Uid: "a", Length: 100}, 50, 10, 9, []int{0}, api.OK},
		{"from behind to, behind a long one", api.Event{Uid: "a", Length: 100}, 100, 10, 9, []int{}, api.OK},
		{"without a length", api.Event{Uid: "a"}, 1, 10, 9, []int{}, api.OK},
		{"long ones that reach in", api.Event{Uid: "a", Length: 2*api.Day + 1, Rule: daily}, 9 * api.Day, 9*api.Day + 1, 9, []int{7 * api.Day, 8 * api.Day, 9 * api.Day}, api.OK},
	} {
		got, no := Expand(c.e, c.from, c.to, c.most)
		if no != c.no || c.want != nil && !slices.Equal(got, c.want) || no != api.OK && len(got) > 0 {
			t.Errorf("P8: %s: %d, %d, want %d, %d", c.name, got, no, c.want, c.no)
		}
	}
}

// What is handed in stays as it was, behind its lists too, and what comes out is new.
func TestExpandAndPrintShareNothing(t *testing.T) {
	room := func(l ...int) []int { return append(l, 901, 902, 903)[:len(l)] }
	make1 := func() api.Event {
		return api.Event{Uid: "a", More: room(3, 5), Fewer: room(4), Rule: api.Rule{Freq: api.Yearly, Every: 1, Months: room(1), MonthDays: room(1), Places: room(1), Weekdays: append([]api.Weekday{{Day: 3}}, api.Weekday{N: 9, Day: 9})[:1]}}
	}
	e, kept := make1(), make1()
	one, _ := Expand(e, -1, 9*api.Day, 9)
	text1, _ := Print(e)
	for i := range one[:cap(one)] {
		one[:cap(one)][i] = 77
	}
	two, no := Expand(e, -1, 9*api.Day, 9)
	text2, _ := Print(e)
	if !slices.Equal(two, []int{0, 3, 5}) || no != api.OK || text1 != text2 || text1 == "" {
		t.Errorf("P2: Expand = %v, %d; Print = %q, %q", two, no, text1, text2)
	}
	for i, l := range [][]int{e.More, e.Fewer, e.Rule.Months, e.Rule.MonthDays, e.Rule.Places} {
		k := [][]int{kept.More, kept.Fewer, kept.Rule.Months, kept.Rule.MonthDays, kept.Rule.Places}[i]
		if !slices.Equal(l[:len(l)+3], k[:len(k)+3]) {
			t.Errorf("P2: a list that was handed in is now %v", l[:len(l)+3])
		}
	}
	if !reflect.DeepEqual(e, kept) || e.Rule.Weekdays[:2][1] != (api.Weekday{N: 9, Day: 9}) {
		t.Errorf("P2: the event that was handed in is now %+v", e)
	}
}
