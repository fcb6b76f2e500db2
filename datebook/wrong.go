package datebook

import (
	"errors"

	"datebook/api"
	"datebook/journal"
)

// Why the store refuses an event, beside what the journal tells.
var (
	errNone = errors.New("there is no such event")
	errMany = errors.New("there are as many events as may be")
)

// errnoOf is what a call answers with that came to an error, or to none.
func errnoOf(err error) api.Errno {
	switch {
	case err == nil:
		return api.OK
	case errors.Is(err, errNone):
		return api.ErrNone
	case errors.Is(err, errMany), errors.Is(err, journal.ErrFull):
		return api.ErrFull
	}
	return api.ErrDisk
}
