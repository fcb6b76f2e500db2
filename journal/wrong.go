package journal

import "errors"

// Why nothing was written.
var (
	ErrFull   = errors.New("the disk has no room")
	ErrFailed = errors.New("the disk has failed")
)

// Error tells which file was not written, and wraps why.
type Error struct {
	File  string
	Cause error
}

func (e *Error) Error() string { return e.File + ": " + e.Cause.Error() }

// Unwrap is why the file was not written.
func (e *Error) Unwrap() error { return e.Cause }
