package journal

import (
	"strings"

	"datebook/pieces"
)

// What stands ahead of a record, and behind it; neither stands in one. A crash may leave the first bytes of a record: without what stands behind it, it is none, whatever is added then.
const (
	head = "\x02"
	tail = "\x03"
)

// frame is records as they stand in the journal.
func frame(records ...string) string {
	var out strings.Builder
	for _, r := range records {
		out.WriteString(head + r + tail)
	}
	return out.String()
}

// unframe is the records that stand in a journal.
func unframe(text string) []string {
	var out []string
	r := pieces.Of(text)
	for piece := range r.All(head) {
		if record, whole := strings.CutSuffix(piece, tail); whole {
			out = append(out, record)
		}
	}
	return out
}
