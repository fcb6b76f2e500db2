package event

import (
	"errors"
	"strconv"
)

// What may be wrong with lines that tell an event.
var (
	errFrame    = errors.New("no BEGIN:VEVENT at the beginning, or no END:VEVENT at the end")
	errName     = errors.New("a line that is none of an event's")
	errTwice    = errors.New("it stands twice")
	errMissing  = errors.New("it is not there")
	errLong     = errors.New("too many bytes")
	errByte     = errors.New("a byte that may not stand there")
	errEscape   = errors.New("a backslash ahead of what it may not stand ahead of")
	errDate     = errors.New("no date of the event's form")
	errDuration = errors.New("no duration")
	errLength   = errors.New("no length that an event may have")
	errWeekday  = errors.New("no weekday")
	errFreq     = errors.New("no frequency")
	errPart     = errors.New("no part of a rule")
	errMany     = errors.New("too many in a list")
	errTogether = errors.New("they do not go together")
	errFirst    = errors.New("the start is none of the rule's dates")
)

// reasonError tells for which reason lines are no event, and wraps what is wrong with them.
type reasonError struct {
	why   int
	cause error
}

func (e *reasonError) Error() string {
	return "reason " + strconv.Itoa(e.why) + ": " + e.cause.Error()
}

func (e *reasonError) Unwrap() error { return e.cause }

// reasonOf is the reason of which an error tells; 0, if it tells of none.
func reasonOf(err error) int {
	var wrong *reasonError
	if errors.As(err, &wrong) {
		return wrong.why
	}
	return 0
}

// partError tells which part of a rule is wrong, and wraps what is wrong with it.
type partError struct {
	name  string
	cause error
}

func (e *partError) Error() string { return e.name + ": " + e.cause.Error() }

func (e *partError) Unwrap() error { return e.cause }
