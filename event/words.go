package event

import (
	"strings"

	"datebook/api"
	"datebook/pieces"
)

// readUid takes the uid.
func (r *eventReader) readUid() error {
	if !r.has(uidLine) {
		return errMissing
	}
	uid := r.value(uidLine)
	switch {
	case uid == "":
		return errMissing
	case len(uid) > api.MaxUid:
		return errLong
	}
	for i := range len(uid) {
		if !isUidByte(uid[i]) {
			return errByte
		}
	}
	// A copy, as who keeps the event must not keep all the text with it.
	r.event.Uid = strings.Clone(uid)
	return nil
}

// isUidByte tells whether a byte may stand in a uid.
func isUidByte(b byte) bool {
	switch b {
	case '-', '.', '@':
		return true
	}
	return isDigit(b) || 'a' <= b && b <= 'z' || 'A' <= b && b <= 'Z'
}

// readSummary takes the summary.
func (r *eventReader) readSummary() error {
	if !r.has(summaryLine) {
		return nil
	}
	s := summaryReader{Reader: pieces.Of(r.value(summaryLine))}
	if err := s.read(); err != nil {
		return s.Wrong(err)
	}
	r.event.Summary = s.out.String()
	return nil
}

// summaryReader goes through a summary as it stands; its pieces are those between backslashes, and the bytes behind these.
type summaryReader struct {
	pieces.Reader
	out strings.Builder
}

// read finds out what the summary stands for.
func (s *summaryReader) read() error {
	for !s.Done() {
		plain, escaped := s.Next(`\`)
		if strings.ContainsAny(plain, ";,") {
			return errByte
		}
		s.out.WriteString(plain)
		if !escaped {
			continue
		}
		if err := s.readEscaped(); err != nil {
			return err
		}
	}
	if s.out.Len() > api.MaxSum {
		return errLong
	}
	return nil
}

// readEscaped reads what stands behind a backslash.
func (s *summaryReader) readEscaped() error {
	b := s.Take(1)
	switch b {
	case `\`, ";", ",":
		s.out.WriteString(b)
	case "n":
		s.out.WriteString("\n")
	default:
		return errEscape
	}
	return nil
}

// writeSummary writes a summary as it stands in a line.
func writeSummary(s string) string {
	return strings.NewReplacer(`\`, `\\`, ";", `\;`, ",", `\,`, "\n", `\n`).Replace(s)
}
