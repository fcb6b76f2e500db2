package datebook

import (
	"strconv"
	"strings"
	"testing"

	"datebook/api"
	"datebook/disk"
)

// answers tells that a session must answer so.
func answers(t *testing.T, s *Session, all string, want string) {
	t.Helper()
	if got := s.Feed(all); got != want {
		t.Errorf("P13: Feed(%.80q) = %q, want %q", all, got, want)
	}
}

// A disk that fails, at each of its calls: the command answers so, and all that change anything behind it, in other sessions too.
func TestTalkFailing(t *testing.T) {
	for _, change := range []string{putOf(on("a", 3)), putOf(on("new", 3)), "DELETE a\n", "COMPACT\n"} {
		for _, f := range faults() {
			for behind := range 2 {
				d, was := used(t)
				b := open(t, d)
				s, other := b.Talk(), b.Talk()
				answers(t, other, "COM", "")
				answers(t, s, change[:len(change)-1], "")
				f.bring(d, behind)
				answers(t, s, change[len(change)-1:], "ERR 7\n")
				answers(t, other, "PACT\n", "ERR 7\n")
				for _, s := range []*Session{s, other, b.Talk()} {
					answers(t, s, putOf(on("y", 1))+putOf(on("a", 2))+"DELETE a\nCOMPACT\n", "ERR 7\nERR 7\nERR 7\nERR 7\n")
					answers(t, s, "DELETE none\nGET none\nPUT 0\nPUT 1\nx\nRANGE 0 0 -1\n", "ERR 4\nERR 4\nERR 3 1\nERR 2 1\nERR 1\nERR 1\n")
					answers(t, s, "GET a\nRANGE 1704067200 1735689600 2\n", told(was["a"])+"OK 2\n1704153600 a\n1704758400 z\n")
				}
				holds(t, b, was)
				d.Crash([]int{0, 0, 0})
				answers(t, open(t, d).Talk(), "GET z\n"+putOf(on("a", 9))+"DELETE z\nCOMPACT\nGET a\n", told(was["z"])+"OK\nOK\nOK\n"+told(on("a", 9)))
			}
		}
	}
}

// What was answered OK is there behind any crash; what was not whole is not.
func TestTalkCrash(t *testing.T) {
	d := disk.New(1000000)
	answers(t, open(t, d).Talk(), putOf(on("a", 1))+putOf(on("b", 1))+"DELETE b\n"+putOf(on("a", 2))+putOf(on("a", 3))[:30], "OK\nOK\nOK\nOK\n")
	d.Crash([]int{0, 0, 0})
	holds(t, open(t, d), state{"a": on("a", 2)})
}

// More events than there may be.
func TestTalkMaxEvents(t *testing.T) {
	s := open(t, disk.New(1000000)).Talk()
	for i := range api.MaxEvents {
		answers(t, s, putOf(on(strconv.Itoa(i), 1)), "OK\n")
	}
	answers(t, s, putOf(on("new", 1))+putOf(on("7", 7))+"GET new\nGET 7\n", "ERR 6\nOK\nERR 4\n"+told(on("7", 7)))
	answers(t, s, "DELETE 3\n"+putOf(on("new", 1))+putOf(on("3", 1)), "OK\nOK\nERR 6\n")
	want := ""
	for _, uid := range strings.Fields("0 1 10 11 12 13 14 15 16 17 18 19 2 4 5 6 8 9 new") {
		want += "1704067200 " + uid + "\n"
	}
	answers(t, s, "RANGE 1704067200 1704153600 19\nRANGE 1704067200 1704153600 18\n", "OK 19\n"+want+"ERR 5\n")
}

// A disk without room: each change is refused, and what there is can be told.
func TestTalkNoRoom(t *testing.T) {
	answers(t, open(t, disk.New(0)).Talk(), putOf(on("a", 1))+"GET a\nCOMPACT\nRANGE 0 0 0\n", "ERR 6\nERR 4\nOK\nOK 0\n")
	d := disk.New(1000)
	b := open(t, d)
	put(t, b, on("a", 1))
	if !d.Create("other") || !d.Append("other", strings.Repeat("x", d.Left())) {
		t.Fatal("the disk cannot be filled")
	}
	s := b.Talk()
	for range 2 {
		answers(t, s, putOf(on("b", 1))+putOf(on("a", 1))+"DELETE a\nCOMPACT\n", "ERR 6\nERR 6\nERR 6\nERR 6\n")
		answers(t, s, "DELETE b\nPUT 0\nGET a\nRANGE 0 7258118399 1\n", "ERR 4\nERR 3 1\n"+told(on("a", 1))+"OK 1\n1704067200 a\n")
	}
	d.Remove("other")
	answers(t, s, putOf(on("b", 1))+"DELETE a\nCOMPACT\nGET b\n", "OK\nOK\nOK\n"+told(on("b", 1)))
}
