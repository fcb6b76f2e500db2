package event

import (
	"strings"

	"datebook/api"
	"datebook/pieces"
)

// readLength takes the length.
func (r *eventReader) readLength() error {
	length, err := r.length()
	if err != nil {
		return err
	}
	if length < 0 || length > api.MaxLength || r.form.whole && (length == 0 || length%api.Day != 0) {
		return errLength
	}
	r.event.Length = length
	return nil
}

// length is what the lines tell about the length, whether an event may have it or not.
func (r *eventReader) length() (int, error) {
	switch {
	case r.has(endLine) && r.has(durationLine):
		return 0, errTogether
	case r.has(endLine):
		end, err := r.form.readMarked(r.rest(endLine))
		return end - r.event.Start, err
	case r.has(durationLine):
		return readDuration(r.value(durationLine))
	case r.form.whole:
		return api.Day, nil
	}
	return 0, nil
}

// readDuration reads what stands behind DURATION; it tells so many seconds.
func readDuration(s string) (int, error) {
	s, begun := strings.CutPrefix(s, "P")
	days, clock, timed := strings.Cut(s, "T")
	if !begun || s == "" || timed && clock == "" {
		return 0, errDuration
	}
	if strings.HasSuffix(s, "W") {
		return readUnits(s, unit{"W", 7 * api.Day})
	}
	ahead, err := readUnits(days, unit{"D", api.Day})
	if err != nil {
		return 0, err
	}
	behind, err := readUnits(clock, unit{"H", 3600}, unit{"M", 60}, unit{"S", 1})
	if err != nil {
		return 0, err
	}
	return ahead + behind, nil
}

// unit is a unit of durations: the letter behind its digits, and how many seconds it has.
type unit struct {
	mark    string
	seconds int
}

// unitReader goes through a duration; its pieces are the digits of the units.
type unitReader struct {
	pieces.Reader
}

// readUnits reads a duration that has these units, in this order, or some of them.
func readUnits(s string, units ...unit) (int, error) {
	r := unitReader{pieces.Of(s)}
	sum := 0
	for _, u := range units {
		if !r.Has(u.mark) {
			continue
		}
		n, err := r.readDigits(u.mark)
		if err != nil {
			return 0, r.Wrong(err)
		}
		sum += n * u.seconds
	}
	if !r.Done() {
		return 0, r.Wrong(errDuration)
	}
	return sum, nil
}

// readDigits reads the digits ahead of a mark, one to seven.
func (r *unitReader) readDigits(mark string) (int, error) {
	s, _ := r.Next(mark)
	if s == "" || len(s) > 7 || !areDigits(s) {
		return 0, errDuration
	}
	return digits(s), nil
}
