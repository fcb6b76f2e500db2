package datebook

import (
	"maps"
	"math/rand"
	"slices"
	"strconv"
	"testing"

	"datebook/api"
	"datebook/disk"
)

// change is something that is done to a store, and what the store has then.
type change struct {
	name string
	do   func(b *Book) api.Errno
	to   func(s state) state
}

func putting(uid string, s string) change {
	return change{
		name: "Put of " + uid,
		do:   func(b *Book) api.Errno { errno, _ := b.Put(s); return errno },
		to:   func(was state) state { return was.with(uid, s) },
	}
}

func deleting(uid string) change {
	return change{
		name: "Delete of " + uid,
		do:   func(b *Book) api.Errno { return b.Delete(uid) },
		to:   func(was state) state { return was.with(uid, "") },
	}
}

func compacting() change {
	return change{
		name: "Compact",
		do:   (*Book).Compact,
		to:   func(was state) state { return was },
	}
}

// fault is how a disk goes wrong.
type fault struct {
	name  string
	bring func(d *disk.Disk, behind int)
	crash bool // the disk crashes then
}

func faults() []fault {
	return []fault{
		{"dies", (*disk.Disk).Die, true},
		{"fails", (*disk.Disk).Fail, false},
		{"fails and crashes", (*disk.Disk).Fail, true},
	}
}

// So many ways a crash may go with what was done to names, and with the bytes of a file; at most so many here.
const (
	unsureNames = 4
	unsureBytes = 230
)

// used is a disk with some events on it, which were put, put again and deleted.
func used(t *testing.T) (*disk.Disk, state) {
	t.Helper()
	d := disk.New(1000000)
	b := open(t, d)
	put(t, b, on("z", 9))
	put(t, b, on("a", 1))
	put(t, b, on("b", 1))
	if errno := b.Delete("b"); errno != api.OK {
		t.Fatalf("P10: Delete = %d", errno)
	}
	put(t, b, on("a", 2))
	return d, state{"a": on("a", 2), "z": on("z", 9)}
}

// stays tells that behind an Open that found something it is there, whatever crashes come; and that more can be put.
func stays(t *testing.T, d *disk.Disk, found state) {
	t.Helper()
	for names := range unsureNames {
		c := d.Copy()
		c.Crash([]int{names})
		holds(t, open(t, c), found)
		c = d.Copy()
		c.Crash([]int{names, 0, 0, 0})
		b := open(t, c)
		holds(t, b, found)
		put(t, b, on("more", 3))
		c.Crash([]int{names, 0, 0, 0})
		holds(t, open(t, c), found.with("more", on("more", 3)))
	}
}

// stopped tells that a store behind a call that answered ErrDisk tells what there was, and changes nothing.
func stopped(t *testing.T, d *disk.Disk, b *Book, was state) {
	t.Helper()
	holds(t, b, was)
	disk, failed := dump(d), d.Failed()
	for _, c := range []change{putting("y", on("y", 1)), putting("a", on("a", 2)), deleting("a"), compacting()} {
		if errno := c.do(b); errno != api.ErrDisk {
			t.Fatalf("P12: %s behind ErrDisk = %d", c.name, errno)
		}
	}
	if errno, at := b.Put("x"); errno != api.ErrLines || at != 1 {
		t.Fatalf("P12: Put of no lines behind ErrDisk = %d, %d", errno, at)
	}
	if errno, at := b.Put(text("UID:a")); errno != api.ErrEvent || at != api.WhyStart {
		t.Fatalf("P12: Put of no event behind ErrDisk = %d, %d", errno, at)
	}
	if errno := b.Delete("none"); errno != api.ErrNone {
		t.Fatalf("P12: Delete of none behind ErrDisk = %d", errno)
	}
	if !slices.Equal(dump(d), disk) || d.Failed() != failed {
		t.Fatal("P12: a call behind ErrDisk does something to the disk")
	}
	holds(t, b, was)
}

// Each change, with a disk that goes wrong at each of its calls, and loses as much as it may: the change is done or not, and what is found stays.
func TestCutOff(t *testing.T) {
	for _, c := range []change{putting("a", on("a", 3)), putting("new", on("new", 1)), deleting("a"), compacting()} {
		for _, f := range faults() {
			for behind, done := 0, false; !done; behind++ {
				d, was := used(t)
				b := open(t, d)
				f.bring(d, behind)
				errno := c.do(b)
				done = errno == api.OK && !d.Dead()
				found := []state{c.to(was)}
				if errno != api.OK {
					if errno != api.ErrDisk || d.Failed() == 0 {
						t.Fatalf("P12: %s, disk %s behind %d calls: %d", c.name, f.name, behind, errno)
					}
					stopped(t, d, b, was)
					found = append(found, was)
				}
				foundBehind(t, d, f, 1, found)
			}
		}
	}
}

// foundBehind tells that, behind all crashes there may be (or one in some, by the bytes that are lost), one of some states is found, and stays.
func foundBehind(t *testing.T, d *disk.Disk, f fault, some int, may []state) {
	t.Helper()
	names, bytes := unsureNames, unsureBytes
	if !f.crash {
		names, bytes = 1, 1
	}
	for name := range names {
		for n := 0; n < bytes; n += some {
			c := d.Copy()
			if f.crash {
				c.Crash([]int{name, n, n})
			}
			c.Fail(1 << 40)
			found := seen(t, open(t, c))
			if !slices.ContainsFunc(may, func(s state) bool { return maps.Equal(s, found) }) {
				t.Fatalf("P12: disk %s, crash %d, %d: found %q, want one of %q", f.name, name, n, found, may)
			}
			if n%23 == 0 {
				stays(t, c, found)
			}
		}
	}
}

// Open, too, with a disk that goes wrong at each of its calls, on disks that earlier faults have left: the next one finds what there was.
func TestOpenCutOff(t *testing.T) {
	for _, c := range []change{putting("a", on("a", 3)), compacting()} {
		for left := range 7 {
			for _, f := range faults() {
				for behind := range 5 {
					d, was := used(t)
					b := open(t, d)
					d.Fail(left)
					if errno := c.do(b); errno == api.OK {
						was = c.to(was)
					}
					f.bring(d, behind)
					may := []state{was, c.to(was)}
					b, errno := Open(d)
					if errno == api.OK {
						may = []state{seen(t, b)}
					} else if b != nil || errno != api.ErrDisk || d.Failed() == 0 && !d.Dead() {
						t.Fatalf("P9: Open of a disk that %s = %v, %d", f.name, b, errno)
					}
					foundBehind(t, d, f, 46, may)
				}
			}
		}
	}
}

// What is on the disk, but not for sure, is made sure of by the Open that finds it.
func TestFoundIsSure(t *testing.T) {
	d := disk.New(1000)
	b := open(t, d)
	d.Fail(1) // the bytes are written, and not synced
	if errno, _ := b.Put(on("a", 1)); errno != api.ErrDisk {
		t.Fatalf("P12: Put = %d", errno)
	}
	found := seen(t, open(t, d))
	d.Crash([]int{0, 0, 0})
	holds(t, open(t, d), found)

	d, was := used(t)
	b = open(t, d)
	d.Fail(4) // the new file has its name, which is not sure
	if errno := b.Compact(); errno != api.ErrDisk {
		t.Fatalf("P12: Compact() = %d", errno)
	}
	put(t, open(t, d), on("new", 1))
	d.Crash([]int{0, 0, 0})
	holds(t, open(t, d), was.with("new", on("new", 1)))
}

// Without faults no crash takes anything away, behind each call.
func TestCrashes(t *testing.T) {
	d := disk.New(1000000)
	was := state{}
	for i, c := range []change{
		putting("a", on("a", 1)), putting("b", on("b", 1)), compacting(), deleting("a"), deleting("b"), compacting(),
		putting("a", on("a", 2)), putting("a", on("a", 3)), compacting(), compacting(), deleting("a"), putting("a", on("a", 3)),
	} {
		b := open(t, d)
		if errno := c.do(b); errno != api.OK {
			t.Fatalf("P12: %s = %d", c.name, errno)
		}
		was = c.to(was)
		holds(t, b, was)
		d.Crash([]int{0, 0, 0})
		holds(t, open(t, d), was)
		holds(t, b, was)
		if i%3 == 0 {
			d.Crash(nil)
		}
	}
}

// someChange is a change to a store with some events.
func someChange(r *rand.Rand) change {
	uid := strconv.Itoa(r.Intn(6))
	switch r.Intn(5) {
	case 0:
		return compacting()
	case 1:
		return deleting(uid)
	}
	return putting(uid, on(uid, 1+r.Intn(31)))
}

// A long life: changes, faults and crashes as chance has them.
func TestLongLife(t *testing.T) {
	for seed := range int64(60) {
		r := rand.New(rand.NewSource(seed))
		d := disk.New(1000000)
		b, was := open(t, d), state{}
		for range 60 {
			f := faults()[r.Intn(3)]
			if r.Intn(3) == 0 {
				f.bring(d, r.Intn(8))
			}
			c := someChange(r)
			may := []state{was}
			switch errno := c.do(b); errno {
			case api.OK:
				was = c.to(was)
				holds(t, b, was)
				if r.Intn(4) > 0 {
					continue
				}
				may = []state{was}
			case api.ErrNone:
				if !maps.Equal(c.to(was), was) {
					t.Fatalf("P10: %s = %d", c.name, errno)
				}
				holds(t, b, was)
				continue
			case api.ErrDisk:
				may = append(may, c.to(was))
				holds(t, b, was)
			default:
				t.Fatalf("P12: %s = %d", c.name, errno)
			}
			b, was = reopened(t, r, d, may)
		}
	}
}

// reopened opens a store, behind crashes or none, of which some may hit Open.
func reopened(t *testing.T, r *rand.Rand, d *disk.Disk, may []state) (*Book, state) {
	t.Helper()
	for {
		if d.Dead() || r.Intn(2) == 0 {
			d.Crash([]int{r.Intn(4), r.Intn(300), r.Intn(300)})
		}
		d.Fail(1 << 40)
		if r.Intn(3) == 0 {
			faults()[r.Intn(3)].bring(d, r.Intn(6))
		}
		failed := d.Failed()
		b, errno := Open(d)
		if errno == api.OK {
			found := seen(t, b)
			if !slices.ContainsFunc(may, func(s state) bool { return maps.Equal(s, found) }) {
				t.Fatalf("P12: found %q, want one of %q", found, may)
			}
			return b, found
		}
		if b != nil || errno != api.ErrDisk || d.Failed() == failed && !d.Dead() {
			t.Fatalf("P9: Open = %v, %d", b, errno)
		}
	}
}
