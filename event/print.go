package event

import (
	"slices"
	"strconv"

	"datebook/api"
)

// The first and the last line of an event.
const (
	firstLine = "BEGIN:VEVENT"
	lastLine  = "END:VEVENT"
)

// isSmall tells whether texts and lists of an event are not longer than they may be: none that is need be written.
func isSmall(e api.Event) bool {
	lists := max(len(e.Rule.Months), len(e.Rule.MonthDays), len(e.Rule.Weekdays), len(e.Rule.Places), len(e.More), len(e.Fewer))
	return len(e.Uid) <= api.MaxUid && len(e.Summary) <= api.MaxSum && lists <= api.MaxList
}

// write writes the lines of an event. Of what is no event they are no event's lines, or another event's.
func write(e api.Event) []string {
	f := form{whole: e.Whole, utc: e.Utc}
	out := []string{firstLine, "UID:" + e.Uid}
	if e.Summary != "" {
		out = append(out, "SUMMARY:"+writeSummary(e.Summary))
	}
	out = append(out, "DTSTART"+f.mark()+f.write(e.Start))
	if duration := writeDuration(e); duration != "" {
		out = append(out, "DURATION:"+duration)
	}
	if e.Rule.Freq != 0 {
		out = append(out, "RRULE:"+writeRule(&rule{Rule: e.Rule, form: f}))
	}
	if len(e.More) > 0 {
		out = append(out, "RDATE"+f.mark()+writeList(e.More, f.write))
	}
	if len(e.Fewer) > 0 {
		out = append(out, "EXDATE"+f.mark()+writeList(e.Fewer, f.write))
	}
	return append(out, lastLine)
}

// writeDuration writes the length of an event; as nothing, if it need not be told.
func writeDuration(e api.Event) string {
	switch {
	case e.Whole && e.Length == api.Day, !e.Whole && e.Length == 0:
		return ""
	case e.Whole:
		return "P" + strconv.Itoa(e.Length/api.Day) + "D"
	}
	return "PT" + strconv.Itoa(e.Length) + "S"
}

// same tells whether two events are the same one; lists without elements are the same, nil or not.
func same(a api.Event, b api.Event) bool {
	return a.Uid == b.Uid && a.Summary == b.Summary &&
		a.Start == b.Start && a.Length == b.Length &&
		a.Whole == b.Whole && a.Utc == b.Utc &&
		slices.Equal(a.More, b.More) && slices.Equal(a.Fewer, b.Fewer) &&
		sameRule(a.Rule, b.Rule)
}

func sameRule(a api.Rule, b api.Rule) bool {
	return a.Freq == b.Freq && a.Every == b.Every && a.Count == b.Count && a.First == b.First &&
		a.Ends == b.Ends && a.Until == b.Until &&
		slices.Equal(a.Months, b.Months) && slices.Equal(a.MonthDays, b.MonthDays) &&
		slices.Equal(a.Weekdays, b.Weekdays) && slices.Equal(a.Places, b.Places)
}
