package datebook

import (
	"slices"
	"strconv"
	"testing"

	"datebook/api"
	"datebook/disk"
)

// mayHave is how many bytes the files may have behind Compact.
func mayHave(s state) int {
	n := 200
	for _, text := range s {
		n += 100 + len(text)
	}
	return n
}

func TestCompact(t *testing.T) {
	d := disk.New(1000000)
	b := open(t, d)
	want := state{}
	small := func() {
		t.Helper()
		if errno := b.Compact(); errno != api.OK {
			t.Fatalf("P12: Compact() = %d", errno)
		}
		if n := d.Bytes(); n > mayHave(want) {
			t.Errorf("P12: %d bytes behind Compact, may be %d", n, mayHave(want))
		}
		holds(t, b, want)
		holds(t, open(t, d.Copy()), want)
	}
	small()
	for i := range 100 {
		put(t, b, on("a", 1+i%31))
		put(t, b, on("b", 1+i%31))
		b.Delete("b")
	}
	want = want.with("a", on("a", 7))
	small()
	for i := range api.MaxEvents - 1 {
		uid := strconv.Itoa(i)
		put(t, b, on(uid, 1))
		want[uid] = on(uid, 1)
	}
	small()
	small()
	put(t, b, on("3", 3))
	want = want.with("3", on("3", 3))
	holds(t, open(t, d.Copy()), want)
	for _, uid := range want.uids() {
		b.Delete(uid)
	}
	want = state{}
	small()
}

// What crashes have left is gone, too.
func TestCompactBehindCrashes(t *testing.T) {
	d := disk.New(1000000)
	want := state{"a": on("a", 1)}
	put(t, open(t, d), on("a", 1))
	for behind := range 50 {
		for _, c := range []change{putting("b", on("b", 1)), compacting()} {
			b := open(t, d)
			d.Die(behind % 5)
			if errno := c.do(b); errno == api.OK {
				want = c.to(want)
			}
			d.Crash([]int{behind, behind * 3, behind * 2})
		}
		b := open(t, d)
		want = seen(t, b)
		if behind%7 == 6 {
			if errno := b.Compact(); errno != api.OK || d.Bytes() > mayHave(want) {
				t.Fatalf("P12: Compact() = %d, and %d bytes, may be %d", errno, d.Bytes(), mayHave(want))
			}
			holds(t, b, want)
		}
	}
}

// fillLongest puts so many events of the longest kind.
func fillLongest(t *testing.T, b *Book, events int) {
	t.Helper()
	for i := range events {
		put(t, b, longestText(t, strconv.Itoa(i)+"."))
	}
}

// withSpare is a store with so many events of the longest kind, on a disk that has Spare bytes left.
func withSpare(t *testing.T, events int) *Book {
	t.Helper()
	large := disk.New(10000000)
	fillLongest(t, open(t, large), events)
	d := disk.New(large.Bytes() + api.Spare)
	b := open(t, d)
	fillLongest(t, b, events)
	if d.Left() != api.Spare {
		t.Fatalf("%d bytes left", d.Left())
	}
	return b
}

// With Spare bytes left there is room, for the longest events, too.
func TestSpare(t *testing.T) {
	put(t, withSpare(t, api.MaxEvents-1), longestText(t, "new."))
	for _, c := range []change{putting("", longestText(t, "7.")), deleting(longest("7.").Uid), compacting()} {
		if errno := c.do(withSpare(t, api.MaxEvents)); errno != api.OK {
			t.Errorf("P12: %s with Spare bytes left = %d", c.name, errno)
		}
	}
}

// Disks with next to no room: what has none is refused, and changes nothing; what is kept can be told, deleted and compacted.
func TestRoom(t *testing.T) {
	some := 0
	for capacity := range 1200 {
		d := disk.New(capacity)
		b := open(t, d)
		want := state{}
		for i := 0; ; i++ {
			uid := strconv.Itoa(i % 7)
			was := dump(d)
			errno, at := b.Put(on(uid, 1+i%31))
			if errno == api.OK {
				want = want.with(uid, on(uid, 1+i%31))
				continue
			}
			if errno != api.ErrFull || at != 0 {
				t.Fatalf("P10: Put with %d bytes left = %d, %d", d.Left(), errno, at)
			}
			if !slices.Equal(dump(d), was) {
				t.Fatal("P1: what was refused is on the disk")
			}
			break
		}
		some += len(want)
		holds(t, b, want)
		b = open(t, d)
		holds(t, b, want)
		for i, uid := range want.uids() {
			if i == capacity%3 {
				if errno := b.Compact(); errno != api.OK || d.Bytes() > mayHave(want) {
					t.Fatalf("P12: Compact with %d bytes left = %d", d.Left(), errno)
				}
			}
			if errno := b.Delete(uid); errno != api.OK {
				t.Fatalf("P10: Delete with %d bytes left = %d", d.Left(), errno)
			}
			want = want.with(uid, "")
			holds(t, b, want)
		}
		holds(t, open(t, d), state{})
	}
	if some < 3000 {
		t.Errorf("only %d events were put", some)
	}
}

// crammed is a store on a disk that has no byte left.
func crammed(t *testing.T) (*disk.Disk, *Book) {
	t.Helper()
	d := disk.New(1000)
	put(t, open(t, d), on("a", 1))
	d.Create("cram")
	s := make([]byte, d.Left())
	if !d.Append("cram", string(s)) || d.Left() != 0 {
		t.Fatalf("%d bytes left", d.Left())
	}
	return d, open(t, d)
}

// Where there is no room at all, that is what is told, ahead of a disk that is dead.
func TestNoRoom(t *testing.T) {
	for _, dead := range []bool{false, true} {
		d, b := crammed(t)
		if dead {
			d.Die(0)
		}
		for _, c := range []change{putting("a", on("a", 2)), putting("b", on("b", 1)), deleting("a"), compacting()} {
			if errno := c.do(b); errno != api.ErrFull {
				t.Errorf("P10, P12: %s without room, disk dead %v = %d", c.name, dead, errno)
			}
		}
		if errno, at := b.Put("x"); errno != api.ErrLines || at != 1 {
			t.Errorf("P10: Put of no lines = %d, %d", errno, at)
		}
		if errno := b.Delete("b"); errno != api.ErrNone {
			t.Errorf("P10: Delete of none = %d", errno)
		}
		holds(t, b, state{"a": on("a", 1)})
	}
}

// Behind ErrDisk, too, want of room is told first, and that there are too many events.
func TestFullBehindFault(t *testing.T) {
	d := disk.New(1000000)
	b := open(t, d)
	for i := range api.MaxEvents {
		put(t, b, on(strconv.Itoa(i), 1))
	}
	d.Fail(0)
	if errno := b.Delete("0"); errno != api.ErrDisk {
		t.Fatalf("P10: Delete = %d", errno)
	}
	if errno, at := b.Put(on("new", 1)); errno != api.ErrFull || at != 0 {
		t.Errorf("P12: Put of one too many behind ErrDisk = %d, %d", errno, at)
	}
	if errno, _ := b.Put(on("0", 1)); errno != api.ErrDisk {
		t.Errorf("P12: Put behind ErrDisk = %d", errno)
	}
	d.Create("cram")
	d.Append("cram", string(make([]byte, d.Left())))
	for _, c := range []change{putting("0", on("0", 1)), deleting("0"), compacting()} {
		if errno := c.do(b); errno != api.ErrFull {
			t.Errorf("P12: %s behind ErrDisk, without room = %d", c.name, errno)
		}
	}
}
