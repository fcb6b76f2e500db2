package journal

import (
	"errors"
	"slices"
	"strings"
	"testing"

	"datebook/disk"
)

// opened is a journal that must have some records.
func opened(t *testing.T, d *disk.Disk, want ...string) *Journal {
	t.Helper()
	j, records, err := Open(d)
	if j == nil || err != nil || !slices.Equal(records, want) {
		t.Fatalf("Open = %v, %q, %v, want %q", j, records, err, want)
	}
	return j
}

// refused tells that a call must be refused for a cause, that it wraps.
func refused(t *testing.T, err error, file string, cause error) {
	t.Helper()
	var wrong *Error
	if !errors.As(err, &wrong) || wrong.File != file || !errors.Is(err, cause) {
		t.Errorf("got %v, want %v of %s", err, cause, file)
	}
}

func TestAdd(t *testing.T) {
	d := disk.New(1000)
	var want []string
	for _, r := range []string{"a", "", "a", "b\r\nc\t", strings.Repeat("x", 500), "\x01\x04"} {
		j := opened(t, d, want...)
		if err := j.Add(r, nil); err != nil {
			t.Errorf("Add = %v", err)
		}
		want = append(want, r)
		d.Crash([]int{0, 0})
	}
	opened(t, d, want...)
}

func TestReplace(t *testing.T) {
	d := disk.New(1000)
	j := opened(t, d)
	for _, want := range [][]string{nil, {"a"}, {"b", "", "c"}, {strings.Repeat("x", 400)}, {"a"}, {}} {
		if err := j.Replace(want); err != nil {
			t.Errorf("Replace = %v", err)
		}
		d.Crash([]int{0, 0})
		opened(t, d, want...)
		if n := len(frame(want...)); d.Bytes() != n || len(d.List()) != 1 {
			t.Errorf("%d bytes in %q, want %d", d.Bytes(), d.List(), n)
		}
		j = opened(t, d, want...)
	}
	if err := j.Add("behind", nil); err != nil {
		t.Errorf("Add = %v", err)
	}
	opened(t, d, "behind")
}

// Of a record all bytes but the last may be there: it is none, and does not become one by what is added.
func TestTorn(t *testing.T) {
	for n := range len(frame("torn")) + 1 {
		d := disk.New(1000)
		j := opened(t, d)
		if err := j.Add("first", nil); err != nil {
			t.Fatalf("Add = %v", err)
		}
		d.Die(1)
		refused(t, j.Add("torn", nil), file, ErrFailed)
		d.Crash([]int{0, n})
		want := []string{"first"}
		if n == len(frame("torn")) {
			want = append(want, "torn")
		}
		for _, r := range []string{"next", ""} {
			if err := opened(t, d, want...).Add(r, nil); err != nil {
				t.Fatalf("Add = %v", err)
			}
			want = append(want, r)
			opened(t, d, want...)
		}
	}
}

func TestFull(t *testing.T) {
	need := len(frame("added", "a", "b"))
	for capacity := range need + 2 {
		d := disk.New(capacity)
		err := opened(t, d).Add("added", []string{"a", "b"})
		if capacity >= need {
			if err != nil {
				t.Errorf("Add with %d bytes left = %v", capacity, err)
			}
			continue
		}
		refused(t, err, file, ErrFull)
		opened(t, d)
		err = opened(t, d).Replace([]string{"added", "a", "b"})
		refused(t, err, next, ErrFull)
		opened(t, d)
	}
}

// The first call that fails is the last that does something; want of room is told ahead of it.
func TestFailed(t *testing.T) {
	d := disk.New(100)
	j := opened(t, d)
	d.Fail(0)
	refused(t, j.Replace(nil), next, ErrFailed)
	refused(t, j.Replace(nil), next, ErrFailed)
	refused(t, j.Add("a", nil), file, ErrFailed)
	refused(t, j.Add(strings.Repeat("x", 100), nil), file, ErrFull)
	refused(t, j.Replace([]string{strings.Repeat("x", 100)}), next, ErrFull)
	if d.Failed() != 1 || d.Bytes() != 0 {
		t.Errorf("%d calls have failed, %d bytes are there", d.Failed(), d.Bytes())
	}
	opened(t, d)
}

// What Replace has left where it was cut off does not stay.
func TestLeft(t *testing.T) {
	for behind := range 5 {
		d := disk.New(1000)
		j := opened(t, d)
		if err := j.Add("a", nil); err != nil {
			t.Fatalf("Add = %v", err)
		}
		d.Fail(behind)
		refused(t, j.Replace([]string{"a"}), next, ErrFailed)
		d.Fail(0)
		_, _, err := Open(d)
		refused(t, err, file, ErrFailed)
		opened(t, d, "a")
		if !slices.Equal(d.List(), []string{file}) {
			t.Errorf("there are %q", d.List())
		}
		d.Crash([]int{0})
		if !slices.Equal(d.List(), []string{file}) {
			t.Errorf("behind a crash there are %q", d.List())
		}
	}
}

// Open fails where a call of the disk fails, be it one that reads.
func TestOpenFailed(t *testing.T) {
	for behind := range 6 {
		for _, bring := range []func(*disk.Disk, int){(*disk.Disk).Fail, (*disk.Disk).Die} {
			d := disk.New(1000)
			bring(d, behind)
			j, records, err := Open(d)
			if d.Failed() == 0 && !d.Dead() {
				if j == nil || err != nil {
					t.Errorf("Open = %v, %v", j, err)
				}
				continue
			}
			if j != nil || records != nil {
				t.Errorf("Open = %v, %q", j, records)
			}
			refused(t, err, file, ErrFailed)
		}
	}
}

func TestErrorText(t *testing.T) {
	d := disk.New(0)
	err := opened(t, d).Add("a", nil)
	if got, want := err.Error(), "journal: the disk has no room"; got != want {
		t.Errorf("Error() = %q, want %q", got, want)
	}
}
