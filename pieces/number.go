package pieces

import (
	"errors"
	"strconv"
)

// ErrNumber tells that a piece is no number, or none of those that may stand there.
var ErrNumber = errors.New("no number that may stand there")

// Number reads a number from least to most that is written as Itoa writes it, without noughts or a `+` ahead.
func Number(s string, least int, most int) (int, error) {
	n, err := strconv.Atoi(s)
	if err != nil || strconv.Itoa(n) != s || n < least || n > most {
		return 0, ErrNumber
	}
	return n, nil
}
