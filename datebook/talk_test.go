package datebook

import (
	"errors"
	"math/rand"
	"slices"
	"strconv"
	"strings"
	"testing"
	"unsafe"

	"datebook/api"
	"datebook/disk"
	"datebook/event"
	"datebook/pieces"
)

// talks tells that a session of a new store must give this answer to these bytes, whole and byte by byte.
func talks(t *testing.T, all string, want string) {
	t.Helper()
	if got := open(t, disk.New(1000000)).Talk().Feed(all); got != want {
		t.Errorf("P13: Feed(%.80q) = %q, want %q", all, got, want)
	}
	if got := strings.Join(fedByBytes(open(t, disk.New(1000000)).Talk(), all), ""); got != want {
		t.Errorf("P13: Feed(%.80q), byte by byte = %q, want %q", all, got, want)
	}
}

// fedByBytes is what is answered to each byte.
func fedByBytes(s *Session, all string) []string {
	out := make([]string, len(all))
	for i := range out {
		out[i] = s.Feed(all[i : i+1])
	}
	return out
}

// told is the answer of GET to a text.
func told(s string) string { return "OK " + strconv.Itoa(len(s)) + "\n" + s }

func TestTalkExamples(t *testing.T) {
	talks(t, "", "")
	talks(t, "GET x\n", "ERR 4\n")
	talks(t, "GET\n", "ERR 1\n")
	talks(t, "RANGE 0 10 5\n", "OK 0\n")
}

func TestTalk(t *testing.T) {
	a, b := on("a", 1), text("UID:b", "SUMMARY:\u65e5\\, x", "DTSTART:19691231T235959Z", "RRULE:FREQ=DAILY;COUNT=3")
	for _, c := range [][2]string{
		{putOf(a), "OK\n"},
		{putOf(a) + "GET a\n", "OK\n" + told(a)},
		{putOf(a) + "GET a\nGET A\nGET b\n", "OK\n" + told(a) + "ERR 4\nERR 4\n"},
		{putOf(a) + "DELETE a\nDELETE a\nGET a\n", "OK\nOK\nERR 4\nERR 4\n"},
		{putOf(a) + putOf(on("a", 2)) + "GET a\n", "OK\nOK\n" + told(on("a", 2))},
		{putOf(text("DTSTART;VALUE=DATE:20240101", "UI", " D:a")) + "GET a\n", "OK\n" + told(a)},
		{"COMPACT\n" + putOf(a) + putOf(a) + "COMPACT\nGET a\n", "OK\nOK\nOK\nOK\n" + told(a)},
		{putOf(b) + "GET b\n", "OK\n" + told(b)},
		{putOf(b) + "RANGE -1 259200 3\n", "OK\nOK 3\n-1 b\n86399 b\n172799 b\n"},
		{putOf(b) + "RANGE -1 259200 2\nRANGE 0 86399 0\nRANGE 0 86400 1\n", "OK\nERR 5\nOK 0\nOK 1\n86399 b\n"},
		{putOf(b) + putOf(a) + "RANGE 172799 7258118399 1000\n", "OK\nOK\nOK 2\n172799 b\n1704067200 a\n"},
		{"RANGE -2208988800 7258118399 1000\nRANGE 0 0 0\n", "OK 0\nOK 0\n"},
		{"RANGE -2208988801 0 1\nRANGE 0 7258118400 1\nRANGE 0 0 1001\nRANGE 0 0 -1\n", "ERR 1\nERR 1\nERR 1\nERR 1\n"},
	} {
		talks(t, c[0], c[1])
	}
}

// Lines that are no commands: each is answered, and what follows is a line anew.
func TestTalkWrong(t *testing.T) {
	for _, line := range []string{
		"", " ", "\r", "x", "\x00", "\xff", "OK", "GET", "GET ", "GET  a", "GET a ", " GET a", "GET a b", "GET\ta", "GETa", "get a", "Get a", "GE a", "GETS a",
		"DELETE", "DELETE ", "DELETE  a", "DELETE a b", "delete a", "DELETE a ",
		"COMPACT ", "COMPACT x", "compact", "COMPACT\r", " COMPACT", "COMPAC", "COMPACTS",
		"PUT", "PUT ", "PUT x", "PUT 1 ", "PUT  1", "PUT 1 1", "PUT 1\r", "PUT 00", "PUT 01", "PUT 0003", "PUT -0", "PUT -1", "PUT +1", "PUT 1x", "PUT 0x1", "PUT 1_0", "PUT 1.0",
		"PUT 4001", "PUT 9999", "PUT 10000", "PUT 9223372036854775807", "PUT 9223372036854775808", "PUT 18446744073709551616", "PUT -9223372036854775808", "put 0",
		"RANGE", "RANGE ", "RANGE 0", "RANGE 0 1", "RANGE 0 1 ", "RANGE 0 1 2 ", "RANGE 0 1 2 3", "RANGE 0  1 2", "RANGE  0 1 2", "RANGE 0 1 x", "RANGE x 1 2", "RANGE 0 x 2", "RANGE 0 1 2\r",
		"RANGE 00 1 2", "RANGE 0 01 2", "RANGE 0 1 02", "RANGE -0 1 2", "RANGE 0 -0 2", "RANGE 0 1 -0", "RANGE +0 1 2", "RANGE 0 +1 2", "RANGE - 1 2", "RANGE --1 1 2", "RANGE -01 1 2", "range 0 1 2",
		"RANGE 0 9223372036854775807 1", "RANGE 0 9223372036854775808 1", "RANGE -9223372036854775808 0 1", "RANGE -9223372036854775809 0 1",
		"RANGE 0 0 9223372036854775807", "RANGE 0 0 9223372036854775808", "RANGE 0 0 -9223372036854775808", "RANGE 0 0 -9223372036854775809",
		"RANGE 18446744073709551616 1 1", "RANGE 0 18446744073709551617 1", "RANGE 0 1 18446744073709551617", "RANGE 0 1 4294967297", "RANGE 0 1 00000000000000000001",
	} {
		talks(t, line+"\n", "ERR 1\n")
		talks(t, line+"\nGET a\n"+line+"\n", "ERR 1\nERR 4\nERR 1\n")
		talks(t, line, "")
	}
}

// What is wrong with a line is told by an error that says in which word, and wraps why.
func TestTalkErrors(t *testing.T) {
	s := open(t, disk.New(1000)).Talk()
	for _, c := range []struct {
		line  string
		place int
		cause error
	}{
		{"", 1, errCommand}, {"x", 1, errCommand}, {"GET a b", 1, errCommand}, {"COMPACT ", 1, errCommand},
		{"GET ", 2, errEmpty}, {"DELETE ", 2, errEmpty}, {"PUT 4001", 2, pieces.ErrNumber}, {"PUT ", 2, pieces.ErrNumber},
		{"RANGE 01 1 1", 2, pieces.ErrNumber}, {"RANGE 0 9223372036854775808 1", 3, pieces.ErrNumber}, {"RANGE 0 1 -9223372036854775809", 4, pieces.ErrNumber},
	} {
		answer, err := s.do(c.line)
		var wrong *pieces.Error
		if answer != "" || !errors.As(err, &wrong) || wrong.Place != c.place || !errors.Is(err, c.cause) {
			t.Errorf("%q: %q, %v, want %v in word %d", c.line, answer, err, c.cause, c.place)
		}
	}
	if _, err := s.do(strings.Repeat("x", 101)); !errors.Is(err, errLong) {
		t.Errorf("a line that is too long: %v", err)
	}
	// Numbers at the ends of 64 bits are numbers, and it is the store that refuses them.
	for _, line := range []string{"RANGE 0 9223372036854775807 1", "RANGE -9223372036854775808 0 1", "RANGE 0 0 9223372036854775807"} {
		_, err := s.do(line)
		var r *refusal
		if !errors.As(err, &r) || r.errno != api.ErrArg || err.Error() != "the store answers 1, 0" {
			t.Errorf("%q: %v, want a refusal", line, err)
		}
	}
}

// A uid of a command is any bytes but blanks: there may be no such event, but it is a command.
func TestTalkAnyUid(t *testing.T) {
	for b := range 256 {
		want := "ERR 4\n"
		switch b {
		case ' ':
			want = "ERR 1\n"
		case '\n':
			want = "ERR 1\nERR 1\n"
		}
		talks(t, "GET "+string([]byte{byte(b)})+"\n", want)
		talks(t, "DELETE "+string([]byte{byte(b)})+"\n", want)
	}
	talks(t, "GET a\r\nGET \t\nDELETE \u65e5\xff\x00\nGET -\n", strings.Repeat("ERR 4\n", 4))
}

func TestTalkLongLines(t *testing.T) {
	x := strings.Repeat("x", 200)
	for _, c := range [][2]string{
		{"GET " + x[:96] + "\n", "ERR 4\n"}, // 100 bytes
		{"GET " + x[:97] + "\n", "ERR 1\n"},
		{"DELETE " + x[:93] + "\nDELETE " + x[:94] + "\n", "ERR 4\nERR 1\n"},
		{x[:101], ""},
		{x, ""},
		{x + "\n", "ERR 1\n"},
		{x + "\n\n" + x + "\nGET a\n", "ERR 1\nERR 1\nERR 1\nERR 4\n"},
		{"GET a" + strings.Repeat(" ", 200) + "\nGET a\n", "ERR 1\nERR 4\n"},
		{"COMPACT" + strings.Repeat("\x00", 94) + "\n", "ERR 1\n"},
		{"PUT 3" + strings.Repeat(" ", 96) + "\nGET a\n", "ERR 1\nERR 4\n"},
		{"PUT " + strings.Repeat("0", 97) + "\nGET a\n", "ERR 1\nERR 4\n"},
		{x[:101] + "GET a\nGET a\n", "ERR 1\nERR 4\n"},
		{strings.Repeat("COMPACT ", 999) + "\nCOMPACT\n", "ERR 1\nOK\n"},
	} {
		talks(t, c[0], c[1])
	}
}

// Of a line without an end no more is held than must be, however much there is of it.
func TestTalkEndlessLine(t *testing.T) {
	s := open(t, disk.New(1000)).Talk()
	for range 100 {
		if got := s.Feed(strings.Repeat("x", 1<<20)); got != "" {
			t.Fatalf("P13: Feed of a line without its LF = %q", got)
		}
		s.Feed("y")
	}
	if cap(s.held) > 1000 {
		t.Errorf("%d bytes are held", cap(s.held))
	}
	if got := s.Feed("\nGET a\n"); got != "ERR 1\nERR 4\n" {
		t.Errorf("P13: Feed of its LF = %q", got)
	}
	if s.held != nil {
		t.Errorf("%d bytes are held between commands", cap(s.held))
	}
}

// Texts behind PUT: their bytes are counted, whatever they are.
func TestTalkPut(t *testing.T) {
	a := on("a", 1)
	for _, c := range [][2]string{
		{"PUT 0\n", "ERR 3 1\n"},
		{"PUT 0\nPUT 0\nGET a\n", "ERR 3 1\nERR 3 1\nERR 4\n"},
		{"PUT 1\n", ""},
		{"PUT 1\n\n", "ERR 2 1\n"},
		{"PUT 1\n\n\n", "ERR 2 1\nERR 1\n"},
		{"PUT 2\n\r\nGET a\n", "ERR 3 1\nERR 4\n"},
		{"PUT 6\nGET a\nGET a\n", "ERR 2 1\nERR 4\n"},
		{"PUT 6\nPUT 6\nPUT 6\nPUT 6\n", "ERR 2 1\nERR 2 1\n"},
		{"PUT 3\na\nbGET a\n", "ERR 2 1\nERR 4\n"},
		{"PUT 4\na\r\nbGET a\n", "ERR 2 2\nERR 4\n"},
		{putOf(a[:len(a)-1]), "ERR 2 4\n"},
		{putOf(a)[:len(putOf(a))-1], ""},
		{putOf(a) + "\n", "OK\nERR 1\n"},
		{putOf(text("UID:a")), "ERR 3 6\n"},
		{putOf(text("UID:a", "DTSTART:20240131T000000", "RRULE:FREQ=DAILY;BYMONTH=2")), "ERR 3 11\n"},
		{"PUT 4000\n" + strings.Repeat("\r\n", 1999), ""},
		{"PUT 4000\n" + strings.Repeat("\r\n", 2000) + "GET a\n", "ERR 3 1\nERR 4\n"},
		{"PUT 4000\n" + strings.Repeat("\r\n", 1999) + "\n\nGET a\n", "ERR 2 2000\nERR 4\n"},
		{"PUT 4000\n" + strings.Repeat("y", 4000) + "GET a\n", "ERR 2 1\nERR 4\n"},
		{"PUT 4001\n" + strings.Repeat("y", 4000) + "\nGET a\n", "ERR 1\nERR 1\nERR 4\n"},
		{"PUT 4001\nGET a\n", "ERR 1\nERR 4\n"},
		{"PUT -1\nGET a\n", "ERR 1\nERR 4\n"},
	} {
		talks(t, c[0], c[1])
	}
}

// A text of MaxText bytes, in which lines go on and have nothing, is an event, too.
func TestTalkPutMost(t *testing.T) {
	full := 0
	for _, uid := range []string{"a", "aa", "aaa"} {
		a := on(uid, 1)
		most := strings.Replace(a, "\r\nEND", strings.Repeat("\r\n ", (api.MaxText-len(a))/3)+"\r\nEND", 1)
		talks(t, putOf(most)+"GET "+uid+"\n", "OK\n"+told(a))
		if len(most) == api.MaxText {
			full++
		}
	}
	if full != 1 {
		t.Errorf("%d texts had MaxText bytes", full)
	}
	longest := longestText(t, "x")
	talks(t, putOf(longest)+"GET "+longest[len("BEGIN:VEVENT\r\nUID:"):][:api.MaxUid]+"\n", "OK\n"+told(longest))
}

// script is bytes with commands of all kinds, right and wrong ones.
func script() string {
	return "GET a\n" + putOf(on("a", 1)) + "GET a\nPUT 0\n" + putOf("x\r\n\n") + putOf(on("b", 7)) + "RANGE 1704067200 1706745600 9\n" +
		strings.Repeat("GET ", 30) + "\nDELETE b\n\nPUT 4001\n" + putOf("GET a\n") + "COMPACT\nDELETE b\n RANGE\nRANGE 0 7258118399 1\nGET b"
}

// Cut into three anywhere.
func TestChunks(t *testing.T) {
	all := script()
	want := strings.Join(slowTalk(open(t, disk.New(1000000)), all), "")
	talks(t, all, want)
	for i := range len(all) {
		for j := i; j < len(all); j += 1 + i%17 {
			s := open(t, disk.New(1000000)).Talk()
			if got := s.Feed(all[:i]) + s.Feed(all[i:j]) + s.Feed("") + s.Feed(all[j:]); got != want {
				t.Fatalf("P13, P14: cut at %d and %d: %q, want %q", i, j, got, want)
			}
		}
	}
}

// Scripts as chance has them, cut as chance has it; what the session leaves behind is what calls leave.
func TestChunksOfManyScripts(t *testing.T) {
	r := rand.New(rand.NewSource(13))
	for range 4000 {
		all := someScript(r)
		direct := open(t, disk.New(1000000))
		want := strings.Join(slowTalk(direct, all), "")
		b := open(t, disk.New(1000000))
		s, got := b.Talk(), ""
		for left := all; left != ""; {
			n := 1 + r.Intn(min(len(left), 1+r.Intn(200)))
			got += s.Feed(left[:n])
			left = left[n:]
		}
		if got != want {
			t.Fatalf("P13, P14: %q is answered %q, want %q", all, got, want)
		}
		holds(t, b, seen(t, direct))
	}
}

// Each command is done, and answered, as soon as its last byte is there, and not ahead of it.
func TestAtOnce(t *testing.T) {
	all := script()
	b := open(t, disk.New(1000000))
	s, answered := b.Talk(), 0
	for i := range len(all) {
		got := s.Feed(all[i : i+1])
		direct := open(t, disk.New(1000000))
		l := slowTalk(direct, all[:i+1])
		if want := strings.Join(l[answered:], ""); got != want {
			t.Fatalf("P13: behind %q is answered %q, want %q", all[:i+1], got, want)
		}
		answered = len(l)
		holds(t, b, seen(t, direct))
	}
}

// Sessions of one store, fed in turns: each command is done when its last byte is there, whatever the others have begun.
func TestTurns(t *testing.T) {
	r := rand.New(rand.NewSource(14))
	for range 500 {
		b, direct := open(t, disk.New(1000000)), open(t, disk.New(1000000))
		sessions := []*Session{b.Talk(), b.Talk(), b.Talk()}
		var left, begun [3]string
		for i := range left {
			for range 8 {
				left[i] += someCommand(r)
			}
		}
		for left != [3]string{} {
			i := r.Intn(len(sessions))
			n := min(len(left[i]), r.Intn(60))
			chunk := left[i][:n]
			left[i] = left[i][n:]
			var want string
			want, begun[i] = slowTurn(direct, begun[i]+chunk)
			if got := sessions[i].Feed(chunk); got != want {
				t.Fatalf("P13: session %d: Feed(%q) = %q, want %q", i, chunk, got, want)
			}
		}
		holds(t, b, seen(t, direct))
	}
}

// slowTurn does the commands that are whole; it tells the answers, and what is begun.
func slowTurn(b *Book, all string) (string, string) {
	out := ""
	for n := 1; n <= len(all); n++ {
		if l := slowTalk(b, all[:n]); len(l) > 0 {
			out += l[0]
			all, n = all[n:], 0
		}
	}
	return out, all
}

// A session and calls of its store see what the others do.
func TestTalkAndCalls(t *testing.T) {
	d := disk.New(1000000)
	b := open(t, d)
	s := b.Talk()
	put(t, b, on("a", 1))
	if got := s.Feed("GET a\nDELETE"); got != told(on("a", 1)) {
		t.Errorf("P13: GET behind Put = %q", got)
	}
	put(t, b, on("a", 2))
	if got := s.Feed(" a\n" + putOf(on("b", 3))); got != "OK\nOK\n" {
		t.Errorf("P13: DELETE behind Put = %q", got)
	}
	holds(t, b, state{"b": on("b", 3)})
	// What is begun is no one else's, and is not done.
	b.Talk().Feed("DELETE b")
	if got := b.Talk().Feed("\nGET b\n"); got != "ERR 1\n"+told(on("b", 3)) {
		t.Errorf("P13: a new session = %q", got)
	}
	d.Crash([]int{0, 0, 0})
	holds(t, open(t, d), state{"b": on("b", 3)})
}

// The memory of a chunk may be another's as soon as Feed has answered.
func TestChunkIsNotKept(t *testing.T) {
	s, want := open(t, disk.New(1000000)).Talk(), slowTalk(open(t, disk.New(1000000)), script())
	memory := make([]byte, 10)
	got := ""
	for left := script(); left != ""; {
		n := copy(memory, left)
		left = left[n:]
		chunk := unsafe.String(&memory[0], n)
		got += s.Feed(chunk)
		if chunk != string(memory[:n]) {
			t.Fatal("P2: Feed has written into its chunk")
		}
		copy(memory, "##########")
	}
	if got != strings.Join(want, "") {
		t.Errorf("P2: %q, want %q", got, want)
	}
}

// Many lines at once, and many bytes one by one.
func TestMuchTalk(t *testing.T) {
	const n = 200000
	s := open(t, disk.New(1000000)).Talk()
	if got := s.Feed(strings.Repeat("GET a\n\n", n)); got != strings.Repeat("ERR 4\nERR 1\n", n) {
		t.Errorf("P13: %d bytes are answered", len(got))
	}
	if got := strings.Join(fedByBytes(s, strings.Repeat("PUT 3\nabc", n/9)), ""); got != strings.Repeat("ERR 2 1\n", n/9) {
		t.Errorf("P13: %d bytes are answered", len(got))
	}
}

// What GET tells can be put: it is what it was.
func TestToldIsPut(t *testing.T) {
	for _, text := range append(someEvents(), longestText(t, "x")) {
		b := open(t, disk.New(1000000))
		put(t, b, text)
		e, _, _ := event.Parse(text)
		_, print, _ := strings.Cut(b.Talk().Feed("GET "+e.Uid+"\n"), "\n")
		other := open(t, disk.New(1000000))
		if got := other.Talk().Feed(putOf(print) + "GET " + e.Uid + "\n"); got != "OK\n"+told(print) {
			t.Errorf("P14: %q is told, put and told: %q", print, got)
		}
		if want := slowHits(t, []string{text}, 1704067200, 1706745600); !sameHits(other, want, 1704067200, 1706745600) {
			t.Errorf("P14: %q is at other times, when it was told and put", text)
		}
	}
}

func sameHits(b *Book, want []api.Hit, from int, to int) bool {
	got, errno := b.Range(from, to, api.MaxHits)
	return errno == api.OK && slices.Equal(got, want)
}
