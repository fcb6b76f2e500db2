package lines

import (
	"errors"
	"math/rand"
	"regexp"
	"slices"
	"strings"
	"testing"
	"unicode/utf8"
	"unsafe"

	"datebook/api"
	"datebook/pieces"
)

var rightLine = regexp.MustCompile(`^[^\x00-\x08\x0a-\x1f\x7f]*\r\n$`)

// wrongLine is the document's rule for texts in other words: the first line that is wrong, -1 if none is.
func wrongLine(text string) int {
	if len(text) > api.MaxText {
		return 0
	}
	for i, line := range strings.SplitAfter(text, "\n") {
		if line == "" { // behind the last LF
			break
		}
		first := i == 0 && strings.IndexAny(line, " \t") == 0
		if first || len(line) > api.MaxLine+2 || !utf8.ValidString(line) || !rightLine.MatchString(line) {
			return i + 1
		}
	}
	return -1
}

// joined are the lines of a text that is right.
func joined(text string) []string {
	whole := strings.NewReplacer("\r\n ", "", "\r\n\t", "").Replace(text)
	return strings.Split(whole, "\r\n")[:strings.Count(whole, "\r\n")]
}

// compare holds Unfold against the rule.
func compare(t *testing.T, text string) {
	t.Helper()
	l, e, at := Unfold(text)
	want := wrongLine(text)
	if want >= 0 {
		if len(l) != 0 || e != api.ErrLines || at != want {
			t.Fatalf("P4: Unfold(%q) = %q, %d, %d, want line %d", text, l, e, at, want)
		}
		return
	}
	if e != api.OK || at != 0 || !slices.Equal(l, joined(text)) {
		t.Fatalf("P4: Unfold(%q) = %q, %d, %d, want %q", text, l, e, at, joined(text))
	}
	for _, line := range l {
		if !utf8.ValidString(line) {
			t.Fatalf("P4: Unfold(%q) has %q", text, line)
		}
	}
}

func TestUnfoldRight(t *testing.T) {
	x := strings.Repeat("x", 75)
	for _, c := range []struct {
		text string
		want []string
	}{
		{"", nil},
		{"\r\n", []string{""}},
		{"a\r\nb\r\n", []string{"a", "b"}},
		{"a\r\n b\r\n\tc\r\nd\r\n", []string{"abc", "d"}},
		{"a\r\n  b\r\n", []string{"a b"}},
		{"a\r\n \tb\r\n", []string{"a\tb"}},
		{"a\r\n \r\n \r\nb\r\n", []string{"a", "b"}},
		{"\r\n a\r\n", []string{"a"}},
		{"\r\n  a\r\n", []string{" a"}},
		{"a \t\r\n", []string{"a \t"}},
		{x + "\r\n " + x[1:] + "\r\n", []string{x + x[1:]}},
		{"\u00e9\r\n \u65e5\r\n \U0001f4c5\r\n", []string{"\u00e9\u65e5\U0001f4c5"}},
		{"\u0080\r\n", []string{"\u0080"}},
		{"\ufeffa\r\n", []string{"\ufeffa"}},
	} {
		if l, e, at := Unfold(c.text); !slices.Equal(l, c.want) || e != api.OK || at != 0 {
			t.Errorf("P4: Unfold(%q) = %q, %d, %d, want %q", c.text, l, e, at, c.want)
		}
	}
}

func TestUnfoldWrong(t *testing.T) {
	x := strings.Repeat("x", 75)
	for _, c := range []struct {
		text  string
		at    int
		cause error
	}{
		{"a", 1, errEnd},
		{"a\r", 1, errEnd},
		{"a\n", 1, errEnd},
		{"\n", 1, errEnd},
		{"a\r\nb", 2, errEnd},
		{"a\r\n b\n", 2, errEnd},
		{"a\r\n\n", 2, errEnd},
		{"a\nb\x00\r\n", 1, errEnd},
		{"a\rb\r\n", 1, errByte},
		{"a\r\r\n", 1, errByte},
		{"a\r\n\r\r\n", 2, errByte},
		{"a\x00\r\n", 1, errByte},
		{"a\r\n b\r\n\x1f\r\n", 3, errByte},
		{"a\x0b\r\n\x7f", 1, errByte},
		{"a\r\n\x7f\r\n", 2, errByte},
		{" a\r\n", 1, errGoesOn},
		{"\ta\r\n", 1, errGoesOn},
		{" \r\n\x00", 1, errGoesOn},
		{x + "x\r\n", 1, errLong},
		{"a\r\n " + x + "\r\n", 2, errLong},
		{"a\r\n\t" + x + "\r\n\xff\r\n", 2, errLong},
		{"\xff\r\n", 1, errUtf8},
		{"a\r\n\xe6\x97\r\n \xa5\r\n", 2, errUtf8},
		{"\xed\xa0\x80\r\n", 1, errUtf8},
		{"\xc0\x80\r\n", 1, errUtf8},
		{"\xf4\x90\x80\x80\r\n", 1, errUtf8},
		{strings.Repeat("x", api.MaxText+1), 0, errLong},
		{strings.Repeat("\r\n", api.MaxText/2) + "\n", 0, errLong},
		{" \x00\xff\n" + strings.Repeat("\r\n", api.MaxText/2), 0, errLong},
	} {
		if l, e, at := Unfold(c.text); len(l) != 0 || e != api.ErrLines || at != c.at {
			t.Errorf("P4: Unfold(%.60q) = %q, %d, %d, want line %d", c.text, l, e, at, c.at)
		}
		_, err := unfold(c.text)
		if !errors.Is(err, c.cause) {
			t.Errorf("unfold(%.60q): %v, want %v", c.text, err, c.cause)
		}
		var wrong *pieces.Error
		if errors.As(err, &wrong) != (c.at > 0) {
			t.Errorf("unfold(%.60q): %v tells a line, or none", c.text, err)
		}
	}
}

func TestUnfoldMost(t *testing.T) {
	most := strings.Repeat("\r\n", api.MaxText/2)
	if l, e, at := Unfold(most); len(l) != api.MaxText/2 || e != api.OK || at != 0 {
		t.Errorf("P4: Unfold of MaxText bytes: %d lines, %d, %d", len(l), e, at)
	}
	on := "a\r\n" + strings.Repeat(" \r\n", (api.MaxText-3)/3)
	if l, e, at := Unfold(on); !slices.Equal(l, []string{"a"}) || e != api.OK || at != 0 {
		t.Errorf("P4: Unfold of lines that go on: %q, %d, %d", l, e, at)
	}
}

func TestUnfoldOneByte(t *testing.T) {
	for b := range 256 {
		for _, text := range []string{string([]byte{byte(b)}), "a" + string([]byte{byte(b)}) + "\r\n", "a\r\n " + string([]byte{byte(b)}) + "b\r\n"} {
			compare(t, text)
		}
	}
}

// All short texts of bytes that matter.
func TestUnfoldShort(t *testing.T) {
	const bytes = "a \t\r\n\x00\xc3\xa9"
	var grow func(text string, more int)
	grow = func(text string, more int) {
		compare(t, text)
		if more > 0 {
			for i := range len(bytes) {
				grow(text+bytes[i:i+1], more-1)
			}
		}
	}
	grow("", 6)
}

func TestUnfoldMixed(t *testing.T) {
	r := rand.New(rand.NewSource(4))
	right := []string{"\r\n", "\r\n", "\r\n ", "\r\n\t", " ", "\t", "a", "\u00e9", "\u65e5", strings.Repeat("y", 37), strings.Repeat("z", 73)}
	wrong := []string{"\r", "\n", "\x7f", "\xff", "\x01"}
	for range 100000 {
		var b strings.Builder
		b.WriteString("a")
		for range r.Intn(20) {
			b.WriteString(right[r.Intn(len(right))])
			if r.Intn(40) == 0 {
				b.WriteString(wrong[r.Intn(len(wrong))])
			}
		}
		if r.Intn(10) > 0 {
			b.WriteString("\r\n")
		}
		compare(t, b.String())
	}
}

func TestUnfoldHugeTexts(t *testing.T) {
	for _, text := range []string{strings.Repeat("a", 1<<24), strings.Repeat("\r\n", 1<<23), strings.Repeat("\xff", 1<<24)} {
		if l, e, at := Unfold(text); len(l) != 0 || e != api.ErrLines || at != 0 {
			t.Errorf("P1, P4: Unfold of %d bytes: %d lines, %d, %d", len(text), len(l), e, at)
		}
	}
}

func TestUnfoldIsNewMemory(t *testing.T) {
	text := "a\r\nb\r\n c\r\n\r\n d\r\n"
	want := []string{"a", "bc", "d"}
	one, _, _ := Unfold(text)
	two, _, _ := Unfold(text)
	for i := range one[:cap(one)] {
		one[:cap(one)][i] = "changed"
	}
	if !slices.Equal(two, want) {
		t.Errorf("P2: a list that was changed changed another: %q", two)
	}
	if three, _, _ := Unfold(text); !slices.Equal(three, want) {
		t.Errorf("P2: a list that was changed changed an answer: %q", three)
	}
	for _, line := range two {
		if within(text, line) {
			t.Errorf("P2: the line %q is a piece of the text that was handed in", line)
		}
	}
}

// within tells whether a string is a piece of another one's memory.
func within(whole string, piece string) bool {
	from := uintptr(unsafe.Pointer(unsafe.StringData(whole)))
	at := uintptr(unsafe.Pointer(unsafe.StringData(piece)))
	return piece != "" && from <= at && at < from+uintptr(len(whole))
}
