package event

import (
	"cmp"
	"strings"

	"datebook/api"
	"datebook/calendar"
	"datebook/civil"
)

// wholeMark stands ahead of dates that are whole days.
const wholeMark = ";VALUE=DATE:"

// form is how the dates of an event are written: as whole days, as times of UTC, or as times of no place.
type form struct {
	whole, utc bool
}

// formOf is the form of the date that stands behind DTSTART, if it is a date.
func formOf(rest string) form {
	if strings.HasPrefix(rest, wholeMark) {
		return form{whole: true}
	}
	return form{utc: strings.HasSuffix(rest, "Z")}
}

// mark is what stands between a name and the first date.
func (f form) mark() string {
	if f.whole {
		return wholeMark
	}
	return ":"
}

// readMarked reads the one date that stands behind a name.
func (f form) readMarked(rest string) (int, error) {
	date, marked := strings.CutPrefix(rest, f.mark())
	if !marked {
		return 0, errDate
	}
	return f.read(date)
}

// readMarkedList reads the dates that stand behind a name.
func (f form) readMarkedList(rest string) ([]int, error) {
	dates, marked := strings.CutPrefix(rest, f.mark())
	if !marked {
		return nil, errDate
	}
	return readList(dates, f.read, cmp.Compare[int])
}

// read reads a date.
func (f form) read(s string) (int, error) {
	if f.whole {
		return readDay(s)
	}
	day, clock, timed := strings.Cut(s, "T")
	if f.utc {
		var marked bool
		clock, marked = strings.CutSuffix(clock, "Z")
		timed = timed && marked
	}
	if !timed {
		return 0, errDate
	}
	at, err := readDay(day)
	if err != nil {
		return 0, err
	}
	second, err := readClock(clock)
	if err != nil {
		return 0, err
	}
	return at + second, nil
}

// readDay reads YYYYMMDD; it tells when that day begins.
func readDay(s string) (int, error) {
	if len(s) != 8 || !areDigits(s) {
		return 0, errDate
	}
	number, errno := civil.Number(digits(s[:4]), digits(s[4:6]), digits(s[6:]))
	if errno != api.OK {
		return 0, errDate
	}
	return number * api.Day, nil
}

// readClock reads HHMMSS; it tells the second of the day.
func readClock(s string) (int, error) {
	if len(s) != 6 || !areDigits(s) {
		return 0, errDate
	}
	hour, minute, second := digits(s[:2]), digits(s[2:4]), digits(s[4:])
	if hour > 23 || minute > 59 || second > 59 {
		return 0, errDate
	}
	return hour*3600 + minute*60 + second, nil
}

// write writes a date; a time that is not right as nothing, which is read as no date.
func (f form) write(at int) string {
	number, second := calendar.Split(at)
	year, month, day, errno := civil.Date(number)
	if errno != api.OK {
		return ""
	}
	date := padded(year, 4) + padded(month, 2) + padded(day, 2)
	if f.whole {
		return date
	}
	date += "T" + padded(second/3600, 2) + padded(second/60%60, 2) + padded(second%60, 2)
	if f.utc {
		date += "Z"
	}
	return date
}

// readStart takes the start, and the form of all dates from it.
func (r *eventReader) readStart() error {
	if !r.has(startLine) {
		return errMissing
	}
	r.form = formOf(r.rest(startLine))
	at, err := r.form.readMarked(r.rest(startLine))
	r.event.Start, r.event.Whole, r.event.Utc = at, r.form.whole, r.form.utc
	return err
}

// readDates takes the dates beside the rule's, and those that are left out.
func (r *eventReader) readDates() error {
	var err error
	if r.has(moreLine) {
		r.event.More, err = r.form.readMarkedList(r.rest(moreLine))
	}
	if err == nil && r.has(fewerLine) {
		r.event.Fewer, err = r.form.readMarkedList(r.rest(fewerLine))
	}
	return err
}
