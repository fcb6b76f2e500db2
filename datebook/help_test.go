package datebook

import (
	"slices"
	"strconv"
	"strings"
	"testing"

	"datebook/api"
	"datebook/disk"
	"datebook/event"
)

// text is the text of an event: some lines, between the first and the last one.
func text(l ...string) string {
	return "BEGIN:VEVENT\r\n" + strings.Join(append(l, "END:VEVENT"), "\r\n") + "\r\n"
}

// on is the text of an event on a day.
func on(uid string, day int) string {
	return text("UID:"+uid, "DTSTART;VALUE=DATE:"+strconv.Itoa(20240100+day))
}

// longest is an event whose text is as long as can be.
func longest(uid string) api.Event {
	e := api.Event{Uid: uid + strings.Repeat("u", api.MaxUid-len(uid)), Summary: strings.Repeat("\n", api.MaxSum), Start: 7258118399, Utc: true, Length: api.MaxLength}
	e.Rule = api.Rule{Freq: api.Yearly, Every: api.MaxEvery, Ends: true, Until: 7258118399, First: 6}
	for i := range api.MaxList {
		e.More = append(e.More, 7258118380+i)
		e.Fewer = append(e.Fewer, 7258118380+i)
		e.Rule.Places = append(e.Rule.Places, -366+i)
		e.Rule.Weekdays = append(e.Rule.Weekdays, api.Weekday{N: -53 + i, Day: 1})
	}
	for i := range 12 {
		e.Rule.Months = append(e.Rule.Months, i+1)
	}
	// The 31st of December 2199 is the fifth Tuesday of its month, and the last day of the set.
	e.Rule.Weekdays[api.MaxList-1].N = 5
	e.Rule.Places[api.MaxList-1] = -1
	return e
}

// longestText is its text.
func longestText(t *testing.T, uid string) string {
	t.Helper()
	s, errno := event.Print(longest(uid))
	if errno != api.OK {
		t.Fatalf("the longest event is none: %d", errno)
	}
	return s
}

// open opens a store that must be there.
func open(t *testing.T, d *disk.Disk) *Book {
	t.Helper()
	b, errno := Open(d)
	if b == nil || errno != api.OK {
		t.Fatalf("P9: Open = %v, %d", b, errno)
	}
	return b
}

// put puts an event that must be kept.
func put(t *testing.T, b *Book, s string) {
	t.Helper()
	if errno, at := b.Put(s); errno != api.OK || at != 0 {
		t.Fatalf("P10: Put(%q) = %d, %d", s, errno, at)
	}
}

// state is the texts of events, by their Uids.
type state map[string]string

// uids are the Uids of a state, in order.
func (s state) uids() []string {
	var out []string
	for uid := range s {
		out = append(out, uid)
	}
	slices.Sort(out)
	return out
}

// with is a state with a change: an event in the place of one of its Uid, or, without a text, none.
func (s state) with(uid string, text string) state {
	out := state{}
	for u, t := range s {
		out[u] = t
	}
	delete(out, uid)
	if text != "" {
		out[uid] = text
	}
	return out
}

// seen is what a store tells: by Range which Uids there are, by Get their texts. All events must be in the year 2024.
func seen(t *testing.T, b *Book) state {
	t.Helper()
	hits, errno := b.Range(1704067200, 1735689600, api.MaxHits)
	if errno != api.OK {
		t.Fatalf("P11: Range = %d", errno)
	}
	out := state{}
	for _, h := range hits {
		s, errno := b.Get(h.Uid)
		if errno != api.OK {
			t.Fatalf("P10: Range tells %q, Get of it = %d", h.Uid, errno)
		}
		out[h.Uid] = s
	}
	return out
}

// holds tells that a store must have these events, and no others.
func holds(t *testing.T, b *Book, want state) {
	t.Helper()
	got := seen(t, b)
	if !slices.Equal(got.uids(), want.uids()) {
		t.Fatalf("the store has %q, want %q", got.uids(), want.uids())
	}
	for uid, s := range want {
		if got[uid] != s {
			t.Fatalf("P10: Get(%q) = %q, want %q", uid, got[uid], s)
		}
	}
}

// dump is all that stands on a disk.
func dump(d *disk.Disk) []string {
	var out []string
	for _, name := range d.List() {
		n, _ := d.Size(name)
		s, _ := d.Read(name, 0, n)
		out = append(out, name, s)
	}
	return out
}
