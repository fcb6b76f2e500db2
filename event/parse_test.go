package event

import (
	"errors"
	"math/rand"
	"reflect"
	"strconv"
	"strings"
	"testing"

	"datebook/api"
	"datebook/lines"
	"datebook/pieces"
)

// text is the text of an event that has these lines between the first and the last one.
func text(l ...string) string {
	s, _ := lines.Fold(append([]string{"BEGIN:VEVENT"}, append(l, "END:VEVENT")...))
	return s
}

// foldAnywhere writes lines as a text, with folds in places of chance.
func foldAnywhere(r *rand.Rand, l []string) string {
	var out strings.Builder
	for _, line := range l {
		room := 1 + r.Intn(70)
		for i, c := range line {
			if i > 0 && room <= 0 {
				out.WriteString(pick(r, "\r\n ", "\r\n\t"))
				room = 1 + r.Intn(70)
			}
			out.WriteRune(c)
			room -= len(string(c))
		}
		out.WriteString("\r\n")
	}
	return out.String()
}

// Each text is read once more in another way; all reasons, and events of all kinds, must come up.
func TestParseOfManyTexts(t *testing.T) {
	r := rand.New(rand.NewSource(6))
	count := map[int]int{}
	for range 40000 {
		s := foldAnywhere(r, someLines(r))
		if strings.HasPrefix(s, " ") {
			continue
		}
		want, why := slowEvent(unfolded(s))
		errno := api.OK
		if why > 0 {
			errno = api.ErrEvent
		}
		count[why]++
		if e, no, k := Parse(s); !reflect.DeepEqual(e, want) || no != errno || k != why {
			t.Fatalf("P6: Parse(%q) = %+v, %d, %d, want %+v, %d", s, e, no, k, want, why)
		}
	}
	for why := 0; why <= api.WhyFirst; why++ {
		if count[why] < 200 {
			t.Errorf("reason %d came up %d times", why, count[why])
		}
	}
}

func TestParseOfNoLines(t *testing.T) {
	good := text("UID:a", "DTSTART:20240131T091500")
	for _, c := range []struct {
		s  string
		at int
	}{
		{good + "x", 5},
		{good + "\n", 5},
		{" " + good, 1},
		{"BEGIN:VEVENT\r\nUID:\xff\r\nX", 2},
		{"BEGIN:VEVENT\nUID:a\r\n", 1},
		{"BEGIN:VEVENT\r\nUID:a\x00\r\nEND:VEVENT\r\n", 2},
		{"BEGIN:VEVENT\r\nSUMMARY:" + strings.Repeat("x", 68) + "\r\nEND:VEVENT\r\n", 2},
		{good + strings.Repeat("x", api.MaxText), 0},
	} {
		if e, no, at := Parse(c.s); !reflect.DeepEqual(e, api.Event{}) || no != api.ErrLines || at != c.at {
			t.Errorf("P6: Parse(%.80q) = %+v, %d, %d, want line %d", c.s, e, no, at, c.at)
		}
	}
}

func TestParseFrame(t *testing.T) {
	inner := "UID:a\r\nDTSTART:20240131T091500\r\n"
	for s, why := range map[string]int{
		"":                                   api.WhyFrame,
		"BEGIN:VEVENT\r\n":                   api.WhyFrame,
		"END:VEVENT\r\n":                     api.WhyFrame,
		inner:                                api.WhyFrame,
		"BEGIN:VEVENT\r\n" + inner:           api.WhyFrame,
		inner + "END:VEVENT\r\n":             api.WhyFrame,
		"begin:VEVENT\r\nEND:VEVENT\r\n":     api.WhyFrame,
		"\r\nBEGIN:VEVENT\r\nEND:VEVENT\r\n": api.WhyFrame,
		"BEGIN:VEVENT\r\nEND:VEVENT\r\n":     api.WhyUid,
		"BEGIN:VEVENT\r\nBEGIN:VEVENT\r\n" + inner + "END:VEVENT\r\n":   api.WhyName,
		"BEGIN:VEVENT\r\n" + inner + "END:VEVENT\r\nEND:VEVENT\r\n":     api.WhyName,
		"BEGIN:\r\n VEVENT\r\n" + inner + "E\r\n\tND:VEVE\r\n NT\r\n":   0,
		"BEGIN:VEVENT\r\n" + inner + "X:y\r\nUID:b\r\nEND:VEVENT\r\n":   api.WhyName,
		"BEGIN:VEVENT\r\n" + inner + "UID:b\r\nUID:!\r\nEND:VEVENT\r\n": api.WhyTwice,
	} {
		if _, no, k := Parse(s); k != why || (no == api.OK) != (why == 0) {
			t.Errorf("P6: Parse(%q) = %d, %d, want %d", s, no, k, why)
		}
	}
}

// Each byte in a uid, in a summary, and behind a backslash.
func TestParseOneByte(t *testing.T) {
	for b := range 256 {
		c := string([]byte{byte(b)})
		line := b >= 32 && b < 127 || b == '\t'
		check := func(s string, right bool, why int) {
			want := api.OK
			if !line {
				want, why = api.ErrLines, 2
			} else if !right {
				want = api.ErrEvent
			} else {
				why = 0
			}
			if _, no, k := Parse("BEGIN:VEVENT\r\n" + s + "\r\nDTSTART:20240131T091500\r\nEND:VEVENT\r\n"); no != want || k != why {
				t.Errorf("P6: Parse with %q = %d, %d, want %d, %d", s, no, k, want, why)
			}
		}
		check("UID:a"+c+"b", strings.Contains("ABCDEFGHIJKLMNOPQRSTUVWXYZabcdefghijklmnopqrstuvwxyz0123456789-.@", c), api.WhyUid)
		check("SUMMARY:a"+c+"b\r\nUID:a", !strings.Contains(`\;,`, c), api.WhySummary)
		check(`SUMMARY:a\`+c+"b\r\nUID:a", strings.Contains(`\;,n`, c), api.WhySummary)
	}
}

// Parts of a rule with each number near the edges of what it may be.
func TestParseNumbersOfRules(t *testing.T) {
	rule := func(s string) int {
		_, _, why := Parse(text("UID:a", "DTSTART;VALUE=DATE:20240131", "RRULE:"+s))
		return why
	}
	for n := -400; n <= 1100; n++ {
		s := strconv.Itoa(n)
		for part, right := range map[string]bool{
			"FREQ=DAILY;INTERVAL=":            n >= 1 && n <= 400,
			"FREQ=DAILY;COUNT=":               n >= 1 && n <= 999,
			"FREQ=DAILY;BYMONTH=1,":           n >= 1 && n <= 12,
			"FREQ=MONTHLY;BYMONTHDAY=31,":     n >= -31 && n <= 31 && n != 0,
			"FREQ=DAILY;BYDAY=WE;BYSETPOS=1,": n >= -366 && n <= 366 && n != 0,
		} {
			if why := rule(part + s); (why == 0) != right || !right && why != api.WhyRule {
				t.Errorf("P6: %s%s = %d", part, s, why)
			}
		}
		right := n >= -53 && n <= 53 && n != 0
		if why := rule("FREQ=MONTHLY;BYDAY=WE," + s + "WE"); (why == 0) != right || !right && why != api.WhyRule {
			t.Errorf("P6: BYDAY=WE,%sWE = %d", s, why)
		}
	}
}

func TestParseMostOfLists(t *testing.T) {
	day := strings.TrimSuffix(strings.Repeat("20240131,", 20), ",")
	for _, c := range []struct {
		line string
		why  int
	}{
		{"RDATE;VALUE=DATE:" + day, api.WhyDates},
		{"EXDATE;VALUE=DATE:" + day, api.WhyDates},
		{"RRULE:FREQ=DAILY;BYMONTH=1" + strings.Repeat(",1", 19), api.WhyRule},
		{"RRULE:FREQ=DAILY;BYMONTHDAY=31" + strings.Repeat(",31", 19), api.WhyRule},
		{"RRULE:FREQ=DAILY;BYDAY=WE" + strings.Repeat(",WE", 19), api.WhyRule},
		{"RRULE:FREQ=DAILY;BYMONTH=1;BYSETPOS=1" + strings.Repeat(",1", 19), api.WhyRule},
	} {
		e, no, why := Parse(text("UID:a", "DTSTART;VALUE=DATE:20240131", c.line))
		if lists := len(e.More) + len(e.Fewer) + len(e.Rule.MonthDays) + len(e.Rule.Weekdays) + max(len(e.Rule.Months), len(e.Rule.Places)); no != api.OK || lists != 1 {
			t.Errorf("P6: %s = %+v, %d, %d", c.line, e, no, why)
		}
		one := c.line[strings.LastIndex(c.line, ","):]
		if _, no, why := Parse(text("UID:a", "DTSTART;VALUE=DATE:20240131", c.line+one)); no != api.ErrEvent || why != c.why {
			t.Errorf("P6: %s with 21 = %d, %d", c.line, no, why)
		}
	}
}

// What is wrong is told down to the piece, though Parse answers the reason alone.
func TestWhatIsWrong(t *testing.T) {
	for _, c := range []struct {
		line  string
		why   int
		place int
		cause error
		text  string
	}{
		{"RRULE:FREQ=DAILY;BYMONTH=1,13", api.WhyRule, 2, pieces.ErrNumber, "reason 8: piece 2: BYMONTH: piece 2: no number that may stand there"},
		{"RRULE:COUNT=1", api.WhyRule, 0, errMissing, "reason 8: FREQ: it is not there"},
		{"RRULE:FREQ=DAILY;FREQ=DAILY", api.WhyRule, 2, errTwice, "reason 8: piece 2: FREQ: it stands twice"},
		{"RRULE:FREQ=DAILY;COUNT=1;UNTIL=20250101T000000", api.WhyParts, 0, errTogether, "reason 9: they do not go together"},
		{"RRULE:FREQ=DAILY;BYDAY=MO", api.WhyFirst, 0, errFirst, "reason 11: the start is none of the rule's dates"},
		{"RDATE:20240131T091500,x", api.WhyDates, 2, errDate, "reason 10: piece 2: no date of the event's form"},
		{"DURATION:PT1M1H", api.WhyLength, 1, errDuration, "reason 7: piece 1: no duration"},
		{"X", api.WhyName, 4, errName, "reason 2: piece 4: a line that is none of an event's"},
	} {
		_, err := parse([]string{"BEGIN:VEVENT", "UID:a", "DTSTART:20240131T091500", c.line, "END:VEVENT"})
		var reason *reasonError
		if !errors.As(err, &reason) || reason.why != c.why || !errors.Is(err, c.cause) || err.Error() != c.text {
			t.Errorf("%s: %v, want %s", c.line, err, c.text)
		}
		var piece *pieces.Error
		if errors.As(err, &piece) != (c.place > 0) || piece != nil && piece.Place != c.place {
			t.Errorf("%s: %v, want the piece %d", c.line, err, c.place)
		}
	}
	if reasonOf(errFrame) != 0 {
		t.Errorf("an error without a reason has one")
	}
}

// Texts that chance changed: nothing may go wrong in reading, and what is read is printed and read as it was.
func TestParseOfChangedTexts(t *testing.T) {
	r := rand.New(rand.NewSource(61))
	for range 30000 {
		s := []byte(foldAnywhere(r, someLines(r)))
		for range r.Intn(3) {
			if len(s) > 0 {
				s[r.Intn(len(s))] = pick(r, "a", "1", ":", ";", ",", "=", "-", "\r", "\n", " ", "T", "Z", "\\", "\xff")[0]
			}
		}
		e, no, k := Parse(string(s))
		if no != api.OK {
			if !reflect.DeepEqual(e, api.Event{}) || no == api.ErrEvent && (k < 1 || k > 11) || no != api.ErrEvent && no != api.ErrLines {
				t.Fatalf("P1, P6: Parse(%q) = %+v, %d, %d", s, e, no, k)
			}
			continue
		}
		p, no := Print(e)
		if no != api.OK {
			t.Fatalf("P7: Print of %q = %d", s, no)
		}
		if again, _, _ := Parse(p); !reflect.DeepEqual(again, e) {
			t.Fatalf("P14: %q is printed as %q", s, p)
		}
	}
}

func TestParseIsNewMemory(t *testing.T) {
	s := text("UID:a", "DTSTART;VALUE=DATE:20240131", "RRULE:FREQ=YEARLY;BYMONTH=1,1,2,2;BYMONTHDAY=31,31;BYDAY=WE,WE;BYSETPOS=1,1", "RDATE;VALUE=DATE:20240131,20240131", "EXDATE;VALUE=DATE:20240131,20240131")
	one, _, _ := Parse(s)
	two, _, _ := Parse(s)
	for _, l := range [][]int{one.More, one.Fewer, one.Rule.Months, one.Rule.MonthDays, one.Rule.Places} {
		for i := range l[:cap(l)] {
			l[:cap(l)][i] = 77
		}
	}
	if want, _ := slowEvent(unfolded(s)); !reflect.DeepEqual(two, want) {
		t.Errorf("P2: a list that was changed changed another: %+v", two)
	}
	if one.More[0] != 77 || len(one.More) != 1 || len(one.Rule.Months) != 2 {
		t.Errorf("P2: %+v", one)
	}
}

func unfolded(s string) []string {
	l, _, _ := lines.Unfold(s)
	return l
}
