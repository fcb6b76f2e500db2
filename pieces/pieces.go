// Package pieces: what the readers of texts have in common.
package pieces

import (
	"iter"
	"strings"
)

// Reader goes through a text, piece by piece: it knows the place of the piece that was read last, from 1 on, and what is left.
type Reader struct {
	place int
	left  string
}

// Of is a reader ahead of the first piece of a text.
func Of(text string) Reader { return Reader{left: text} }

// Place is the place of the piece that was read last; 0, if none was.
func (r *Reader) Place() int { return r.place }

// Done tells whether nothing is left.
func (r *Reader) Done() bool { return r.left == "" }

// Has tells whether a mark stands in what is left.
func (r *Reader) Has(mark string) bool { return strings.Contains(r.left, mark) }

// Next reads a piece, and the mark behind it. If there is no such mark, the piece is all that is left.
func (r *Reader) Next(mark string) (string, bool) {
	piece, left, marked := strings.Cut(r.left, mark)
	r.place++
	r.left = left
	return piece, marked
}

// All reads all pieces that have such marks between them: one at least, which may be empty.
func (r *Reader) All(mark string) iter.Seq[string] {
	return func(yield func(string) bool) {
		for more := true; more; {
			var piece string
			piece, more = r.Next(mark)
			if !yield(piece) {
				return
			}
		}
	}
}

// Take reads a piece of so many bytes; of fewer, if no more are left.
func (r *Reader) Take(n int) string {
	n = min(n, len(r.left))
	piece := r.left[:n]
	r.place++
	r.left = r.left[n:]
	return piece
}
