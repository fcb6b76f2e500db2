package lines

import (
	"strings"
	"unicode/utf8"

	"datebook/api"
	"datebook/pieces"
)

// fold writes lines as a text. A pieces.Error tells what is wrong with one of them, another error what is wrong with all.
func fold(l []string) (string, error) {
	var out strings.Builder
	for i, line := range l {
		if err := checkWhole(line); err != nil {
			return "", &pieces.Error{Place: i + 1, Cause: err}
		}
		write(&out, line)
		if out.Len() > api.MaxText {
			return "", errLong
		}
	}
	return out.String(), nil
}

// checkWhole tells what is wrong with a line that is to be folded.
func checkWhole(line string) error {
	switch {
	case len(line) > api.MaxText: // ahead of the rest: it need not be gone through
		return errLong
	case goesOn(line):
		return errGoesOn
	}
	return checkBytes(line)
}

// write writes one line, folded.
func write(out *strings.Builder, line string) {
	n := fitting(line, api.MaxLine)
	out.WriteString(line[:n])
	for n < len(line) {
		line = line[n:]
		n = fitting(line, api.MaxLine-1)
		out.WriteString("\r\n ")
		out.WriteString(line[:n])
	}
	out.WriteString("\r\n")
}

// fitting is how many bytes of a text go into some room, if no rune is cut.
func fitting(s string, room int) int {
	if len(s) <= room {
		return len(s)
	}
	for !utf8.RuneStart(s[room]) {
		room--
	}
	return room
}
