package datebook

import (
	"slices"
	"strconv"
	"strings"
	"testing"

	"datebook/api"
	"datebook/disk"
	"datebook/event"
)

func TestOpen(t *testing.T) {
	if b, errno := Open(nil); b != nil || errno != api.ErrArg {
		t.Errorf("P9: Open(nil) = %v, %d", b, errno)
	}
	holds(t, open(t, disk.New(1000)), state{})
	for _, capacity := range []int{0, 1, -1, -1 << 63, 1<<63 - 1} {
		holds(t, open(t, disk.New(capacity)), state{})
	}
	// Opened twice, and nothing has come or gone.
	d := disk.New(1000)
	put(t, open(t, d), on("a", 1))
	open(t, d)
	holds(t, open(t, d), state{"a": on("a", 1)})
}

func TestOpenDead(t *testing.T) {
	empty, used := disk.New(1000), disk.New(1000)
	put(t, open(t, used), on("a", 1))
	for _, d := range []*disk.Disk{empty, used, {}} {
		d.Die(0)
		if b, errno := Open(d); b != nil || errno != api.ErrDisk {
			t.Errorf("P9: Open of a dead disk = %v, %d", b, errno)
		}
		d.Crash(nil)
		open(t, d)
	}
}

func TestOpenFailing(t *testing.T) {
	for behind := range 2 {
		empty, used := disk.New(1000), disk.New(1000)
		put(t, open(t, used), on("a", 1))
		for _, d := range []*disk.Disk{empty, used} {
			d.Fail(behind)
			if b, errno := Open(d); b != nil || errno != api.ErrDisk {
				t.Errorf("P9: Open of a disk that fails = %v, %d", b, errno)
			}
			open(t, d)
		}
	}
}

// An Open that fails leaves the store that was opened last as it is.
func TestOpenFailingBeside(t *testing.T) {
	d := disk.New(1000)
	b := open(t, d)
	put(t, b, on("a", 1))
	for behind := range 3 {
		d.Fail(behind)
		if other, errno := Open(d); errno == api.ErrDisk {
			put(t, b, on("b", 1+behind))
			holds(t, b, state{"a": on("a", 1), "b": on("b", 1+behind)})
		} else {
			b = other
			d.Fail(1000)
		}
	}
	holds(t, open(t, d), seen(t, b))
}

func TestPutGetDelete(t *testing.T) {
	b := open(t, disk.New(1000000))
	want := state{}
	for _, c := range []struct{ uid, text, print string }{
		{"b", text("DTSTART;VALUE=DATE:20240102", "UID:b"), on("b", 2)},
		{"a", on("a", 1), on("a", 1)},
		{"A", on("A", 1), on("A", 1)},
		{"a", text("UID:a", "DTSTART;VALUE=DATE:20240103", "DTEND;VALUE=DATE:20240104"), on("a", 3)},
		{"a", on("a", 3), on("a", 3)},
		{"b", "", ""},
		{"x", text("UI", " D:x", "DTSTART:20240101T", "\t000000", "SUMMARY:\\;"), text("UID:x", "SUMMARY:\\;", "DTSTART:20240101T000000")},
		{"b", on("b", 9), on("b", 9)},
		{"a", "", ""},
		{"A", "", ""},
	} {
		if c.text == "" {
			if errno := b.Delete(c.uid); errno != api.OK {
				t.Errorf("P10: Delete(%q) = %d", c.uid, errno)
			}
		} else {
			put(t, b, c.text)
		}
		want = want.with(c.uid, c.print)
		holds(t, b, want)
	}
}

func TestNone(t *testing.T) {
	d := disk.New(1000000)
	b := open(t, d)
	put(t, b, on("a", 1))
	put(t, b, on("b", 1))
	if errno := b.Delete("b"); errno != api.OK {
		t.Errorf("P10: Delete = %d", errno)
	}
	was := dump(d)
	for _, uid := range []string{"", "b", "A", "aa", "a ", " a", "a\x00", "\x02-a\x03", "\xff", strings.Repeat("a", 5000)} {
		if s, errno := b.Get(uid); s != "" || errno != api.ErrNone {
			t.Errorf("P10: Get(%q) = %q, %d", uid, s, errno)
		}
		if errno := b.Delete(uid); errno != api.ErrNone {
			t.Errorf("P10: Delete(%q) = %d", uid, errno)
		}
	}
	holds(t, b, state{"a": on("a", 1)})
	if !slices.Equal(dump(d), was) {
		t.Errorf("P1: what was refused is on the disk: %q", dump(d))
	}
}

// What Parse refuses is refused, with its line or reason.
func TestPutWrong(t *testing.T) {
	d := disk.New(1000000)
	b := open(t, d)
	put(t, b, on("a", 1))
	was := dump(d)
	for _, s := range []string{
		"", "x", "\r\n", "x\r\ny\n", " x\r\n", "a\xff\r\n", strings.Repeat("x", api.MaxText+1),
		text("UID:a"), text("DTSTART:20240101T000000"), text("UID:a", "UID:a", "DTSTART:20240101T000000"),
		text("UID:a", "DTSTART:20240101T000000", "RRULE:FREQ=DAILY;BYMONTH=2"),
		text("UID:a b", "DTSTART:20240101T000000"), on("a", 1) + on("b", 1), on("a", 1)[2:],
	} {
		_, want, wantAt := event.Parse(s)
		errno, at := b.Put(s)
		if errno == api.OK || errno != want || at != wantAt {
			t.Errorf("P10: Put(%.80q) = %d, %d, want %d, %d", s, errno, at, want, wantAt)
		}
	}
	holds(t, b, state{"a": on("a", 1)})
	if !slices.Equal(dump(d), was) {
		t.Errorf("P1: what was refused is on the disk: %q", dump(d))
	}
}

func TestMaxEvents(t *testing.T) {
	d := disk.New(1000000)
	b := open(t, d)
	want := state{}
	for i := range api.MaxEvents {
		uid := "n" + strconv.Itoa(i)
		put(t, b, on(uid, 1))
		want[uid] = on(uid, 1)
	}
	was := dump(d)
	if errno, at := b.Put(on("new", 1)); errno != api.ErrFull || at != 0 {
		t.Errorf("P10: Put of one too many = %d, %d", errno, at)
	}
	if errno, at := b.Put(text("UID:new")); errno != api.ErrEvent || at != api.WhyStart {
		t.Errorf("P10: Put of one too many that is none = %d, %d", errno, at)
	}
	if !slices.Equal(dump(d), was) {
		t.Errorf("P1: what was refused is on the disk: %q", dump(d))
	}
	holds(t, b, want)
	put(t, b, on("n7", 7))
	want = want.with("n7", on("n7", 7))
	holds(t, b, want)
	if errno := b.Delete("n3"); errno != api.OK {
		t.Errorf("P10: Delete = %d", errno)
	}
	put(t, b, on("new", 1))
	want = want.with("n3", "").with("new", on("new", 1))
	holds(t, b, want)
	b = open(t, d)
	holds(t, b, want)
	if errno, _ := b.Put(on("n3", 1)); errno != api.ErrFull {
		t.Errorf("P10: Put of one too many behind Open = %d", errno)
	}
}

// The same calls, the same disks.
func TestSameBytes(t *testing.T) {
	var was []string
	for range 5 {
		d := disk.New(1000000)
		b := open(t, d)
		for i := range api.MaxEvents {
			put(t, b, on(strconv.Itoa(i*7%api.MaxEvents), 1))
		}
		if errno := b.Compact(); errno != api.OK {
			t.Errorf("P12: Compact() = %d", errno)
		}
		if now := dump(d); was != nil && !slices.Equal(now, was) {
			t.Fatalf("P2: the disk has %q, and once had %q", now, was)
		}
		was = dump(d)
	}
}

// Disks that something else has written to: nothing is promised of what is found, but that calls end.
func TestSpoilt(t *testing.T) {
	whole := disk.New(1000000)
	b := open(t, whole)
	put(t, b, on("a", 1))
	put(t, b, on("b", 1))
	b.Delete("b")
	names := whole.List()
	size, _ := whole.Size(names[0])
	try := func(spoil func(d *disk.Disk)) {
		d := whole.Copy()
		spoil(d)
		b := open(t, d)
		b.Get("a")
		b.Range(0, 7258118399, api.MaxHits)
		put(t, b, on("c", 1))
		if errno := b.Compact(); errno != api.OK {
			t.Errorf("P12: Compact() = %d", errno)
		}
		if s, errno := open(t, d).Get("c"); s != on("c", 1) || errno != api.OK {
			t.Errorf("P12: Get = %q, %d", s, errno)
		}
	}
	for at := range size {
		for _, by := range []int{1, 2, 3, 32, 46, 255} {
			try(func(d *disk.Disk) { d.Spoil(names[0], at, by) })
		}
		try(func(d *disk.Disk) { d.Cut(names[0], at) })
	}
	try(func(d *disk.Disk) { d.Create("other"); d.Append("other", "x") })
	try(func(d *disk.Disk) { d.Remove(names[0]) })
}
