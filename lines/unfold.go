package lines

import (
	"strings"

	"datebook/api"
)

// reader goes through a text, line by line as they stand.
type reader struct {
	line int // that was read last, from 1 on
	left string
}

// unfold reads all lines of a text. A lineError tells what is wrong with one of them, another error what is wrong with all.
func unfold(text string) ([]string, error) {
	if len(text) > api.MaxText {
		return nil, errLong
	}
	// The lines are pieces of what is read: a copy keeps the caller's text out of them.
	r := reader{left: strings.Clone(text)}
	var out []string
	for r.left != "" {
		line, err := r.next()
		if err != nil {
			return nil, &lineError{line: r.line, cause: err}
		}
		if goesOn(line) {
			out[len(out)-1] += line[1:]
		} else {
			out = append(out, line)
		}
	}
	return out, nil
}

// next reads a line, without its CR and LF.
func (r *reader) next() (string, error) {
	line, left, ended := strings.Cut(r.left, "\n")
	line, paired := strings.CutSuffix(line, "\r")
	r.line++
	r.left = left
	switch {
	case !ended || !paired:
		return "", errEnd
	case len(line) > api.MaxLine:
		return "", errLong
	case r.line == 1 && goesOn(line):
		return "", errGoesOn
	}
	return line, checkBytes(line)
}
