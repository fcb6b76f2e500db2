package lines

import (
	"strings"

	"datebook/api"
	"datebook/pieces"
)

// reader goes through a text; its pieces are the lines as they stand.
type reader struct {
	pieces.Reader
}

// unfold reads all lines of a text. A pieces.Error tells what is wrong with one of them, another error what is wrong with all.
func unfold(text string) ([]string, error) {
	if len(text) > api.MaxText {
		return nil, errLong
	}
	// The lines are pieces of what is read: a copy keeps the caller's text out of them.
	r := reader{pieces.Of(strings.Clone(text))}
	var out []string
	for !r.Done() {
		line, err := r.line()
		if err != nil {
			return nil, r.Wrong(err)
		}
		if goesOn(line) {
			out[len(out)-1] += line[1:]
		} else {
			out = append(out, line)
		}
	}
	return out, nil
}

// line reads a line, without its CR and LF.
func (r *reader) line() (string, error) {
	line, ended := r.Next("\n")
	line, paired := strings.CutSuffix(line, "\r")
	switch {
	case !ended || !paired:
		return "", errEnd
	case len(line) > api.MaxLine:
		return "", errLong
	case r.Place() == 1 && goesOn(line):
		return "", errGoesOn
	}
	return line, checkBytes(line)
}
