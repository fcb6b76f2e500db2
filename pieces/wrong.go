package pieces

import "strconv"

// Error tells which piece of a text is wrong, from 1 on, and wraps what is wrong with it.
type Error struct {
	Place int
	Cause error
}

func (e *Error) Error() string {
	return "piece " + strconv.Itoa(e.Place) + ": " + e.Cause.Error()
}

// Unwrap is what is wrong with the piece.
func (e *Error) Unwrap() error { return e.Cause }

// Wrong tells what is wrong with the piece that was read last.
func (r *Reader) Wrong(cause error) error {
	return &Error{Place: r.place, Cause: cause}
}
