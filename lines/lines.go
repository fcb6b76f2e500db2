// Package lines: lines, folded and unfolded: see DOC.md.
package lines

import (
	"errors"

	"datebook/api"
	"datebook/pieces"
)

// Unfold reads lines (P4).
func Unfold(text string) ([]string, api.Errno, int) {
	l, err := unfold(text)
	if err != nil {
		return nil, api.ErrLines, lineOf(err)
	}
	return l, api.OK, 0
}

// Fold writes lines (P5).
func Fold(l []string) (string, api.Errno) {
	text, err := fold(l)
	if err != nil {
		return "", api.ErrArg
	}
	return text, api.OK
}

// lineOf is the line of which an error tells; 0, if it tells of the whole text.
func lineOf(err error) int {
	var wrong *pieces.Error
	if errors.As(err, &wrong) {
		return wrong.Place
	}
	return 0
}
