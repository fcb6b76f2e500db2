package datebook

import (
	"strings"

	"datebook/pieces"
)

// maxCommand is how many bytes the line of a command may have, its LF not counted.
const maxCommand = 100

// take takes what there is of a line, or of the text behind PUT, and tells what is answered, if that is whole now.
func (s *Session) take(r *pieces.Reader) (string, error) {
	if s.missing > 0 {
		return s.takeText(r)
	}
	return s.takeLine(r)
}

// takeLine takes bytes of a line. Of one that is too long no more is held than shows it.
func (s *Session) takeLine(r *pieces.Reader) (string, error) {
	piece, ended := r.Next("\n")
	room := maxCommand + 1 - len(s.held)
	s.held = append(s.held, piece[:min(room, len(piece))]...)
	if !ended {
		return "", nil
	}
	return s.do(s.release())
}

// takeText takes bytes of the text behind PUT.
func (s *Session) takeText(r *pieces.Reader) (string, error) {
	piece := r.Take(s.missing)
	s.held = append(s.held, piece...)
	s.missing -= len(piece)
	return s.putWhole()
}

// release tells what is held, and holds it no more.
func (s *Session) release() string {
	held := string(s.held)
	s.held = nil
	return held
}

// do does the command that a line tells.
func (s *Session) do(line string) (string, error) {
	if len(line) > maxCommand {
		return "", errLong
	}
	r := wordReader{pieces.Of(line)}
	name, _ := r.Next(blank)
	for _, c := range s.commands() {
		if c.name == name && c.words == strings.Count(line, blank) {
			return c.do(&r)
		}
	}
	return "", r.Wrong(errCommand)
}
