package datebook

import (
	"math"
	"math/rand"
	"slices"
	"strconv"
	"testing"

	"datebook/api"
	"datebook/disk"
	"datebook/event"
)

// The first second of the years, and the last one.
const (
	firstTime = -2208988800
	lastTime  = 7258118399
)

// someEvents are texts of events, with and without lengths, of all forms.
func someEvents() []string {
	return []string{
		text("UID:b", "DTSTART:20240101T120000Z", "RRULE:FREQ=DAILY;COUNT=30"),
		text("UID:a", "DTSTART:20240102T120000Z"),
		text("UID:Z", "DTSTART:20240102T120000", "RRULE:FREQ=WEEKLY"),
		text("UID:c", "DTSTART;VALUE=DATE:20231231", "DURATION:P5D"),
		text("UID:c.1", "DTSTART:20240102T120000", "DURATION:PT36H", "RRULE:FREQ=MONTHLY"),
		text("UID:-", "DTSTART:20240101T120000", "RDATE:20240102T120000,20240103T120000", "EXDATE:20240101T120000"),
		text("UID:0", "DTSTART:20240102T120000", "RRULE:FREQ=YEARLY;INTERVAL=2"),
		text("UID:old", "DTSTART:19000101T000000"),
		text("UID:late", "DTSTART:21991231T235959", "DURATION:P31D"),
	}
}

// filled is a store with some events.
func filled(t *testing.T, texts []string) *Book {
	t.Helper()
	b := open(t, disk.New(1000000))
	for _, s := range texts {
		put(t, b, s)
	}
	return b
}

// slowHits are the hits of all events, worked out one by one.
func slowHits(t *testing.T, texts []string, from int, to int) []api.Hit {
	t.Helper()
	var out []api.Hit
	for _, s := range texts {
		e, _, _ := event.Parse(s)
		times, errno := event.Expand(e, from, to, api.MaxHits)
		if errno != api.OK {
			t.Fatalf("Expand = %d", errno)
		}
		for _, at := range times {
			i := 0
			for i < len(out) && (out[i].At < at || out[i].At == at && out[i].Uid < e.Uid) {
				i++
			}
			out = slices.Insert(out, i, api.Hit{At: at, Uid: e.Uid})
		}
	}
	return out
}

func TestRange(t *testing.T) {
	b := filled(t, someEvents())
	day := 1704153600 // the 2nd of January 2024
	noon := day + api.Day/2
	want := []api.Hit{
		{At: day - 2*api.Day, Uid: "c"},
		{At: noon, Uid: "-"}, {At: noon, Uid: "0"}, {At: noon, Uid: "Z"}, {At: noon, Uid: "a"}, {At: noon, Uid: "b"}, {At: noon, Uid: "c.1"},
	}
	for range 20 {
		if got, errno := b.Range(day, day+api.Day, 7); !slices.Equal(got, want) || errno != api.OK {
			t.Fatalf("P11: Range = %v, %d, want %v", got, errno, want)
		}
		if got, errno := b.Range(day, day+api.Day, 6); len(got) != 0 || errno != api.ErrMany {
			t.Fatalf("P11: Range of one too many = %v, %d", got, errno)
		}
	}
	if got, errno := b.Range(noon+1, noon+1, 0); len(got) != 0 || errno != api.ErrMany {
		t.Errorf("P11: Range of none = %v, %d", got, errno)
	}
	if got, errno := b.Range(day+1000*api.Day+1, day+1000*api.Day+1, 0); len(got) != 0 || errno != api.OK {
		t.Errorf("P11: Range of none = %v, %d", got, errno)
	}
}

func TestRangeOfManyTimes(t *testing.T) {
	r := rand.New(rand.NewSource(11))
	texts := someEvents()
	b := filled(t, texts)
	for range 3000 {
		from := 1703980800 + r.Intn(40*api.Day)
		to := from + r.Intn(20*api.Day) - 2*api.Day
		want := slowHits(t, texts, from, to)
		most := max(0, len(want)+r.Intn(3)-1)
		got, errno := b.Range(from, to, most)
		if len(want) > most {
			if len(got) != 0 || errno != api.ErrMany {
				t.Fatalf("P11: Range(%d, %d, %d) = %v, %d, want too many", from, to, most, got, errno)
			}
			continue
		}
		if !slices.Equal(got, want) || errno != api.OK {
			t.Fatalf("P11: Range(%d, %d, %d) = %v, %d, want %v", from, to, most, got, errno, want)
		}
	}
}

func TestRangeWrong(t *testing.T) {
	for _, b := range []*Book{open(t, disk.New(1000)), filled(t, someEvents())} {
		for _, c := range [][3]int{
			{firstTime - 1, 0, 9}, {0, lastTime + 1, 9}, {lastTime + 1, lastTime + 1, 9}, {firstTime - 1, firstTime - 1, 9},
			{math.MinInt, math.MaxInt, 9}, {math.MaxInt, math.MinInt, 9}, {0, 0, -1}, {0, 0, api.MaxHits + 1},
			{0, 0, math.MinInt}, {0, 0, math.MaxInt}, {lastTime + 1, 0, 9}, {0, firstTime - 1, 9},
		} {
			if got, errno := b.Range(c[0], c[1], c[2]); len(got) != 0 || errno != api.ErrArg {
				t.Errorf("P11: Range(%v) = %v, %d", c, got, errno)
			}
		}
	}
	b := filled(t, []string{someEvents()[7]})
	if got, errno := b.Range(firstTime, lastTime, api.MaxHits); !slices.Equal(got, []api.Hit{{At: firstTime, Uid: "old"}}) || errno != api.OK {
		t.Errorf("P11: Range of all times = %v, %d", got, errno)
	}
	if got, errno := b.Range(firstTime, lastTime, 0); len(got) != 0 || errno != api.ErrMany {
		t.Errorf("P11: Range of all times = %v, %d", got, errno)
	}
}

// As many hits as there may be, of all events together.
func TestRangeMost(t *testing.T) {
	var texts []string
	for i := range api.MaxEvents {
		texts = append(texts, text("UID:"+strconv.Itoa(i), "DTSTART:20240101T000000", "RRULE:FREQ=DAILY"))
	}
	b := filled(t, texts)
	day := 1704067200
	got, errno := b.Range(day, day+50*api.Day, api.MaxHits)
	if len(got) != api.MaxHits || errno != api.OK || !slices.Equal(got, slowHits(t, texts, day, day+50*api.Day)) {
		t.Errorf("P11: Range = %d hits, %d", len(got), errno)
	}
	if got, errno := b.Range(day, day+50*api.Day+1, api.MaxHits); len(got) != 0 || errno != api.ErrMany {
		t.Errorf("P11: Range = %d hits, %d", len(got), errno)
	}
}

// Parts of the time tell together what the whole tells.
func TestRangeInParts(t *testing.T) {
	b := filled(t, []string{
		text("UID:a", "DTSTART:20240101T000000", "RRULE:FREQ=DAILY;INTERVAL=2"),
		text("UID:b", "DTSTART:20240101T000000Z", "RRULE:FREQ=WEEKLY;BYDAY=MO,TU"),
		text("UID:c", "DTSTART:20240131T235959", "RRULE:FREQ=MONTHLY;BYMONTHDAY=-1"),
		text("UID:d", "DTSTART:20240110T060000", "RDATE:20240111T000000"),
	})
	from, to := 1704067200, 1704067200+100*api.Day
	whole, errno := b.Range(from, to, api.MaxHits)
	if len(whole) < 80 || errno != api.OK {
		t.Fatalf("P11: Range = %d hits, %d", len(whole), errno)
	}
	r := rand.New(rand.NewSource(3))
	for range 30 {
		var got []api.Hit
		for at := from; at < to; {
			next := min(to, at+1+r.Intn(20)*api.Day+r.Intn(2)*(api.Day-1))
			part, errno := b.Range(at, next, api.MaxHits)
			if errno != api.OK {
				t.Fatalf("P11: Range = %d", errno)
			}
			got = append(got, part...)
			at = next
		}
		if !slices.Equal(got, whole) {
			t.Fatalf("P14: parts tell %v, the whole tells %v", got, whole)
		}
	}
}

// In parts of all the time there is, some of them empty, from the first second to the last one.
func TestRangeOfAllTimesInParts(t *testing.T) {
	b := filled(t, []string{
		text("UID:first", "DTSTART:19000101T000000", "RRULE:FREQ=YEARLY"),
		text("UID:late", "DTSTART:21991231T235958", "RDATE:21991231T235959,19000101T000000,19700101T000000"),
		text("UID:leap", "DTSTART:19040229T120000Z", "RRULE:FREQ=YEARLY", "EXDATE:20000229T120000Z"),
		text("UID:until", "DTSTART:19691231T235959", "RRULE:FREQ=MONTHLY;BYDAY=-1WE,WE,TH;BYSETPOS=-1,-2;UNTIL=19791231T235959"),
	})
	whole, errno := b.Range(firstTime, lastTime, api.MaxHits)
	if len(whole) < 400 || errno != api.OK {
		t.Fatalf("P11: Range = %d hits, %d", len(whole), errno)
	}
	r := rand.New(rand.NewSource(15))
	for range 20 {
		cuts := []int{firstTime, lastTime, firstTime, lastTime, firstTime + 1, lastTime - 1, 0, 0, -1}
		for range r.Intn(40) {
			cuts = append(cuts, firstTime+r.Intn(lastTime-firstTime), whole[r.Intn(len(whole))].At)
		}
		slices.Sort(cuts)
		var got []api.Hit
		for i := range len(cuts) - 1 {
			part, errno := b.Range(cuts[i], cuts[i+1], api.MaxHits)
			if errno != api.OK {
				t.Fatalf("P11: Range = %d", errno)
			}
			got = append(got, part...)
		}
		if !slices.Equal(got, whole) {
			t.Fatalf("P14: parts tell %v, the whole tells %v", got, whole)
		}
	}
}

// What is told is the caller's.
func TestRangeIsNew(t *testing.T) {
	b := filled(t, someEvents())
	was, _ := b.Range(1704067200, 1706745600, api.MaxHits)
	want := slices.Clone(was)
	clear(was[:cap(was)])
	if got, errno := b.Range(1704067200, 1706745600, api.MaxHits); !slices.Equal(got, want) || errno != api.OK {
		t.Errorf("P2: Range = %v, %d, want %v", got, errno, want)
	}
}
