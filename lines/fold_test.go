package lines

import (
	"errors"
	"math/rand"
	"slices"
	"strings"
	"testing"
	"unicode/utf8"

	"datebook/api"
)

func TestFoldRight(t *testing.T) {
	x := strings.Repeat("x", 300)
	for _, c := range []struct {
		l    []string
		want string
	}{
		{nil, ""},
		{[]string{}, ""},
		{[]string{""}, "\r\n"},
		{[]string{"a", "", "b"}, "a\r\n\r\nb\r\n"},
		{[]string{"a\tb \t"}, "a\tb \t\r\n"},
		{[]string{x[:75], "a"}, x[:75] + "\r\na\r\n"},
		{[]string{x[:76]}, x[:75] + "\r\n x\r\n"},
		{[]string{x[:149]}, x[:75] + "\r\n " + x[:74] + "\r\n"},
		{[]string{x[:150]}, x[:75] + "\r\n " + x[:74] + "\r\n x\r\n"},
		{[]string{x[:75] + " y"}, x[:75] + "\r\n  y\r\n"},
		{[]string{x[:75] + "\ty"}, x[:75] + "\r\n \ty\r\n"},
		{[]string{x[:74] + "\u00e9"}, x[:74] + "\r\n \u00e9\r\n"},
		{[]string{x[:73] + "\u00e9"}, x[:73] + "\u00e9\r\n"},
		{[]string{x[:72] + "\U0001f4c5z"}, x[:72] + "\r\n \U0001f4c5z\r\n"},
		{[]string{x[:75] + x[:73] + "\u65e5"}, x[:75] + "\r\n " + x[:73] + "\r\n \u65e5\r\n"},
	} {
		if s, e := Fold(c.l); s != c.want || e != api.OK {
			t.Errorf("P5: Fold(%q) = %q, %d, want %q", c.l, s, e, c.want)
		}
	}
}

func TestFoldWrong(t *testing.T) {
	for _, c := range []struct {
		l     []string
		at    int
		cause error
	}{
		{[]string{" a"}, 1, errGoesOn},
		{[]string{"a", "\tb"}, 2, errGoesOn},
		{[]string{"a", " "}, 2, errGoesOn},
		{[]string{"a\r\nb"}, 1, errByte},
		{[]string{"a", "b", "c\n"}, 3, errByte},
		{[]string{"\x7f"}, 1, errByte},
		{[]string{strings.Repeat("x", 200) + "\x1f"}, 1, errByte},
		{[]string{"\xff"}, 1, errUtf8},
		{[]string{"\xc3", "\xa9"}, 1, errUtf8},
		{[]string{"\xed\xa0\x80"}, 1, errUtf8},
	} {
		if s, e := Fold(c.l); s != "" || e != api.ErrArg {
			t.Errorf("P5: Fold(%q) = %q, %d", c.l, s, e)
		}
		_, err := fold(c.l)
		if !errors.Is(err, c.cause) || lineOf(err) != c.at {
			t.Errorf("fold(%q): %v, want %v in line %d", c.l, err, c.cause, c.at)
		}
	}
}

// Each byte by itself, within a line and alone.
func TestFoldOneByte(t *testing.T) {
	for b := range 256 {
		line := string([]byte{byte(b)})
		inner := b >= 32 && b < 127 || b == '\t'
		if s, e := Fold([]string{"a" + line}); (e == api.OK) != inner || !inner && (s != "" || e != api.ErrArg) {
			t.Errorf("P5: Fold of the byte %d in a line = %q, %d", b, s, e)
		}
		alone := inner && b != ' ' && b != '\t'
		if s, e := Fold([]string{line}); (e == api.OK) != alone || !alone && (s != "" || e != api.ErrArg) {
			t.Errorf("P5: Fold of the byte %d = %q, %d", b, s, e)
		}
	}
}

func TestFoldMost(t *testing.T) {
	a := slices.Repeat([]string{"a"}, 1332) // 3996 bytes
	for _, c := range []struct {
		l    []string
		long int // 0: too long
	}{
		{append(slices.Clone(a), "bb"), 4000},
		{append(slices.Clone(a), "bbb"), 0},
		{append(slices.Clone(a), "b", ""), 0},
		{make([]string, 2000), 4000},
		{make([]string, 2001), 0},
		{[]string{strings.Repeat("x", 3845)}, 4000}, // with 51 lines that go on
		{[]string{strings.Repeat("x", 3846)}, 0},
		{[]string{strings.Repeat("x", 3998)}, 0},
		{[]string{strings.Repeat("x", 4001)}, 0},
		{[]string{strings.Repeat("x", 1<<24)}, 0},
		{make([]string, 1<<20), 0},
	} {
		s, e := Fold(c.l)
		if c.long > 0 && (len(s) != c.long || e != api.OK) || c.long == 0 && (s != "" || e != api.ErrArg) {
			t.Errorf("P5: Fold of %d lines = %d bytes, %d, want %d bytes", len(c.l), len(s), e, c.long)
		}
	}
}

// checkFolded tells whether a text is the one that Fold must make of lines that are right: it unfolds to them, and in no place could one more rune have stood ahead.
func checkFolded(t *testing.T, l []string, text string) {
	t.Helper()
	back, e, _ := Unfold(text)
	if e != api.OK || !slices.Equal(back, l) {
		t.Fatalf("P5, P14: Fold(%q) = %q, which unfolds to %q", l, text, back)
	}
	ahead := ""
	for line := range strings.SplitSeq(strings.TrimSuffix(text, "\r\n"), "\r\n") {
		if strings.HasPrefix(line, "\t") {
			t.Fatalf("P5: Fold(%q) = %q, which goes on behind a tab", l, text)
		}
		if strings.HasPrefix(line, " ") {
			_, size := utf8.DecodeRuneInString(line[1:])
			if size == 0 || len(ahead)+size <= api.MaxLine {
				t.Fatalf("P5: Fold(%q) = %q: the line %q could be longer", l, text, ahead)
			}
		}
		ahead = line
	}
}

func TestFoldMixed(t *testing.T) {
	r := rand.New(rand.NewSource(5))
	pieces := []string{"a", " ", "\t", "\u00e9", "\u65e5", "\U0001f4c5", strings.Repeat("y", 36), strings.Repeat("\u65e5", 24)}
	for range 20000 {
		l := make([]string, r.Intn(4))
		for i := range l {
			for range r.Intn(12) {
				l[i] += pieces[r.Intn(len(pieces))]
			}
			l[i] = strings.TrimLeft(l[i], " \t")
		}
		text, e := Fold(l)
		if e != api.OK {
			t.Fatalf("P5: Fold(%q) = %d", l, e)
		}
		checkFolded(t, l, text)
	}
}

// Every length of a line, with runes of every size, up to where it is too long.
func TestFoldAllLengths(t *testing.T) {
	for _, c := range []string{"x", "\u00e9", "\u65e5", "\U0001f4c5"} {
		for n := range 400 {
			for shift := range 4 {
				l := []string{strings.Repeat("x", shift) + strings.Repeat(c, n)}
				text, e := Fold(l)
				if e != api.OK {
					t.Fatalf("P5: Fold(%q) = %d", l, e)
				}
				checkFolded(t, l, text)
			}
		}
	}
}

// What Unfold tells, Fold makes a text of, if no line begins with a blank or a tab.
func TestFoldOfUnfolded(t *testing.T) {
	for _, text := range []string{"a\r\n b\r\n", "a\r\n\r\n b\r\n", "a\r\n\t\u65e5\r\nc\r\n", ""} {
		l, _, _ := Unfold(text)
		again, e := Fold(l)
		if e != api.OK {
			t.Fatalf("P14: Fold(%q) = %d", l, e)
		}
		checkFolded(t, l, again)
	}
	l, _, _ := Unfold("\r\n  a\r\n")
	if s, e := Fold(l); s != "" || e != api.ErrArg {
		t.Errorf("P5: Fold(%q) = %q, %d", l, s, e)
	}
}

// Texts that are right, folded in all ways: what Fold makes of their lines is not longer, and unfolds to them.
func TestFoldOfManyUnfolded(t *testing.T) {
	r := rand.New(rand.NewSource(14))
	pieces := []string{"\r\n", "\r\n ", "\r\n ", "\r\n\t", " ", "\t", "a", "\u00e9", "\u65e5", "\U0001f4c5", strings.Repeat("y", 37), strings.Repeat("\u65e5", 12)}
	right, refused := 0, 0
	for range 30000 {
		text := "a"
		for range r.Intn(1 << r.Intn(7)) {
			text += pieces[r.Intn(len(pieces))]
		}
		text += "\r\n"
		l, e, _ := Unfold(text)
		if e != api.OK { // a line is too long
			continue
		}
		again, e := Fold(l)
		if slices.ContainsFunc(l, goesOn) {
			refused++
			if again != "" || e != api.ErrArg {
				t.Fatalf("P5: Fold(%q) = %q, %d", l, again, e)
			}
			continue
		}
		right++
		if e != api.OK || len(again) > len(text) {
			t.Fatalf("P14: %q unfolds to %q, which Fold makes %q of, %d", text, l, again, e)
		}
		checkFolded(t, l, again)
	}
	if right < 5000 || refused < 300 {
		t.Errorf("%d texts were folded again, %d were refused", right, refused)
	}
	// As long as can be: here Fold has nothing to save.
	most := strings.Repeat("x", 75) + strings.Repeat("\r\n "+strings.Repeat("x", 74), 50) + "\r\n " + strings.Repeat("x", 70) + "\r\n"
	l, e, _ := Unfold(most)
	if again, e2 := Fold(l); e != api.OK || e2 != api.OK || again != most || len(most) != api.MaxText {
		t.Errorf("P14: a text of %d bytes is folded to one of %d: %d, %d", len(most), len(again), e, e2)
	}
}

func TestFoldLeavesItsList(t *testing.T) {
	for _, line := range []string{strings.Repeat("x", 200), "\xff"} {
		all := []string{"a", line, "behind", "further"}
		want := slices.Clone(all)
		one, e1 := Fold(all[:2])
		two, e2 := Fold(all[:2])
		if !slices.Equal(all, want) {
			t.Errorf("P2: Fold wrote into its list: %q", all)
		}
		if one != two || e1 != e2 {
			t.Errorf("P2: Fold answered %q, %d, then %q, %d", one, e1, two, e2)
		}
	}
}

// The text that comes out must not change with the list that went in.
func TestFoldKeepsNothing(t *testing.T) {
	l := []string{"a", "b"}
	one, _ := Fold(l)
	l[0] = "c"
	two, _ := Fold(l)
	if one != "a\r\nb\r\n" || two != "c\r\nb\r\n" {
		t.Errorf("P2: Fold answered %q, then %q", one, two)
	}
	if line := "abc"; within(line, first(Fold([]string{line}))) {
		t.Error("P2: the text is a piece of the line that was handed in")
	}
}

func first(text string, _ api.Errno) string { return text }
