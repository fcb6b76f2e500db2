package datebook

import (
	"errors"
	"strconv"

	"datebook/api"
	"datebook/journal"
)

// Why the store refuses an event, beside what the journal tells.
var (
	errNone = errors.New("there is no such event")
	errMany = errors.New("there are as many events as may be")
)

// errnoOf is what a call answers with that came to an error, or to none.
func errnoOf(err error) api.Errno {
	switch {
	case err == nil:
		return api.OK
	case errors.Is(err, errNone):
		return api.ErrNone
	case errors.Is(err, errMany), errors.Is(err, journal.ErrFull):
		return api.ErrFull
	}
	return api.ErrDisk
}

// Why a line is no command, beside what is wrong with its numbers.
var (
	errLong    = errors.New("too many bytes")
	errCommand = errors.New("no command of a session, or too many words, or too few")
	errEmpty   = errors.New("a word without a byte")
)

// refusal tells that the store refuses a command: by which error, and of a text that is none in which line, or for which reason.
type refusal struct {
	errno api.Errno
	at    int
}

func (r *refusal) Error() string {
	return "the store answers " + strconv.Itoa(int(r.errno)) + ", " + strconv.Itoa(r.at)
}

// refused is the refusal that the store answers with; nil, if it does not refuse.
func refused(errno api.Errno, at int) error {
	if errno == api.OK {
		return nil
	}
	return &refusal{errno: errno, at: at}
}
