package datebook

import (
	"math"
	"strconv"
	"strings"

	"datebook/api"
	"datebook/pieces"
)

// command is a command of a session: its name, how many words stand behind it, and what does it: it tells the answer, or why it is refused.
type command struct {
	name  string
	words int
	do    func(r *wordReader) (string, error)
}

// commands are all commands of a session.
func (s *Session) commands() [5]command {
	return [5]command{
		{"PUT", 1, s.put},
		{"GET", 1, s.get},
		{"DELETE", 1, s.delete},
		{"RANGE", 3, s.tell},
		{"COMPACT", 0, s.compact},
	}
}

// put does PUT, or lets it wait for its text.
func (s *Session) put(r *wordReader) (string, error) {
	n, err := r.number(0, api.MaxText)
	if err != nil {
		return "", err
	}
	s.missing = n
	return s.putWhole()
}

// putWhole does PUT, if nothing of its text is missing.
func (s *Session) putWhole() (string, error) {
	if s.missing > 0 {
		return "", nil
	}
	return done, refused(s.book.Put(s.release()))
}

// get does GET.
func (s *Session) get(r *wordReader) (string, error) {
	uid, err := r.uid()
	if err != nil {
		return "", err
	}
	text, errno := s.book.Get(uid)
	return counted(len(text)) + text, refused(errno, 0)
}

// delete does DELETE.
func (s *Session) delete(r *wordReader) (string, error) {
	uid, err := r.uid()
	if err != nil {
		return "", err
	}
	return done, refused(s.book.Delete(uid), 0)
}

// tell does RANGE.
func (s *Session) tell(r *wordReader) (string, error) {
	var n [3]int
	for i := range n {
		var err error
		if n[i], err = r.number(math.MinInt, math.MaxInt); err != nil {
			return "", err
		}
	}
	hits, errno := s.book.Range(n[0], n[1], n[2])
	return counted(len(hits)) + writeHits(hits), refused(errno, 0)
}

// compact does COMPACT.
func (s *Session) compact(*wordReader) (string, error) {
	return done, refused(s.book.Compact(), 0)
}

// blank stands between the words of a command.
const blank = " "

// wordReader goes through the line of a command; its pieces are the words.
type wordReader struct {
	pieces.Reader
}

// number reads a word that is a number from least to most.
func (r *wordReader) number(least int, most int) (int, error) {
	word, _ := r.Next(blank)
	n, err := pieces.Number(word, least, most)
	if err != nil {
		return 0, r.Wrong(err)
	}
	return n, nil
}

// uid reads a word that may be a Uid or not, but not without a byte.
func (r *wordReader) uid() (string, error) {
	word, _ := r.Next(blank)
	if word == "" {
		return "", r.Wrong(errEmpty)
	}
	return word, nil
}

// writeHits writes hits, a line each.
func writeHits(hits []api.Hit) string {
	var out strings.Builder
	for _, h := range hits {
		out.WriteString(strconv.Itoa(h.At) + blank + h.Uid + "\n")
	}
	return out.String()
}
