package event

import (
	"strings"

	"datebook/api"
	"datebook/pieces"
	"datebook/recur"
)

// The kinds of lines between the first and the last one.
const (
	uidLine = iota
	summaryLine
	startLine
	endLine
	durationLine
	ruleLine
	moreLine
	fewerLine
	kinds // how many there are
)

// lineNames are the names of the lines, by their kinds, and whether a `;` may stand behind a name.
var lineNames = [kinds]struct {
	name  string
	dated bool
}{
	{"UID", false},
	{"SUMMARY", false},
	{"DTSTART", true},
	{"DTEND", true},
	{"DURATION", false},
	{"RRULE", false},
	{"RDATE", true},
	{"EXDATE", true},
}

// eventReader makes an event of lines.
type eventReader struct {
	lines []string
	found [kinds][]string // what stands behind the names, the `:` or `;` too
	form  form
	event api.Event
}

// step is a step of reading, and why lines are no event where it fails.
type step struct {
	why  int
	read func(*eventReader) error
}

// steps are all of them, by the reasons: the first one that fails has the least. Each leans on those ahead of it.
func steps() []step {
	return []step{
		{api.WhyFrame, (*eventReader).readFrame},
		{api.WhyName, (*eventReader).readNames},
		{api.WhyTwice, (*eventReader).checkTwice},
		{api.WhyUid, (*eventReader).readUid},
		{api.WhySummary, (*eventReader).readSummary},
		{api.WhyStart, (*eventReader).readStart},
		{api.WhyLength, (*eventReader).readLength},
		{api.WhyRule, (*eventReader).readRule},
		{api.WhyParts, (*eventReader).checkTogether},
		{api.WhyDates, (*eventReader).readDates},
		{api.WhyFirst, (*eventReader).checkFirst},
	}
}

// parse makes an event of lines, or tells by a reasonError why they are none.
func parse(l []string) (api.Event, error) {
	r := eventReader{lines: l}
	for _, s := range steps() {
		if err := s.read(&r); err != nil {
			return api.Event{}, &reasonError{why: s.why, cause: err}
		}
	}
	return r.event, nil
}

// readFrame takes the first and the last line away.
func (r *eventReader) readFrame() error {
	last := len(r.lines) - 1
	if last < 1 || r.lines[0] != firstLine || r.lines[last] != lastLine {
		return errFrame
	}
	r.lines = r.lines[1:last]
	return nil
}

// readNames finds out of which kind each line is.
func (r *eventReader) readNames() error {
	for i, line := range r.lines {
		kind, rest := kindOf(line)
		if kind == kinds {
			return &pieces.Error{Place: i + 2, Cause: errName} // the first line is gone
		}
		r.found[kind] = append(r.found[kind], rest)
	}
	return nil
}

// kindOf is the kind of a line, and what stands behind its name; kinds, if it is none of an event's.
func kindOf(line string) (int, string) {
	at := strings.IndexAny(line, ":;")
	if at < 0 {
		return kinds, ""
	}
	for kind, n := range lineNames {
		if line[:at] == n.name && (line[at] == ':' || n.dated) {
			return kind, line[at:]
		}
	}
	return kinds, ""
}

// checkTwice tells whether a kind of line stands twice.
func (r *eventReader) checkTwice() error {
	for _, l := range r.found {
		if len(l) > 1 {
			return errTwice
		}
	}
	return nil
}

// has tells whether there is a line of a kind.
func (r *eventReader) has(kind int) bool { return len(r.found[kind]) > 0 }

// rest is what stands behind the name of a line that is there.
func (r *eventReader) rest(kind int) string { return r.found[kind][0] }

// value is what stands behind the name and the `:` of a line that is there.
func (r *eventReader) value(kind int) string { return r.rest(kind)[1:] }

// checkFirst tells whether the rule has the start.
func (r *eventReader) checkFirst() error {
	if r.has(ruleLine) && !recur.Begins(r.event.Start, r.event.Rule) {
		return errFirst
	}
	return nil
}
