package lines

import (
	"errors"
	"unicode/utf8"
)

// What may be wrong with a line, or with a whole text.
var (
	errLong   = errors.New("too many bytes")
	errEnd    = errors.New("no CR and LF at the end")
	errGoesOn = errors.New("a blank or a tab at the beginning")
	errUtf8   = errors.New("bytes that are no UTF-8")
	errByte   = errors.New("a byte that may not stand in a line")
)

// checkBytes tells what is wrong with the bytes of a line, without its CR and LF.
func checkBytes(line string) error {
	if !utf8.ValidString(line) {
		return errUtf8
	}
	for i := range len(line) {
		if b := line[i]; b < 32 && b != '\t' || b == 127 {
			return errByte
		}
	}
	return nil
}

// goesOn tells whether a line begins as one does that goes on with the one ahead.
func goesOn(line string) bool {
	return line != "" && (line[0] == ' ' || line[0] == '\t')
}
