package pieces

import (
	"errors"
	"slices"
	"strings"
	"testing"
)

func TestNext(t *testing.T) {
	r := Of("a;;b")
	if r.Place() != 0 || r.Done() || !r.Has(";") || r.Has(",") {
		t.Errorf("ahead of the first piece: %+v", r)
	}
	for i, want := range []struct {
		piece  string
		marked bool
	}{{"a", true}, {"", true}, {"b", false}, {"", false}} {
		piece, marked := r.Next(";")
		if piece != want.piece || marked != want.marked || r.Place() != i+1 {
			t.Errorf("piece %d = %q, %v at %d, want %v", i+1, piece, marked, r.Place(), want)
		}
	}
	if !r.Done() || r.Has("b") {
		t.Errorf("behind the last piece: %+v", r)
	}
}

func TestAll(t *testing.T) {
	for _, s := range []string{"", ",", "a", "a,b", ",a,", "a,,b"} {
		var got []string
		r := Of(s)
		for piece := range r.All(",") {
			got = append(got, piece)
			if r.Place() != len(got) {
				t.Errorf("%q: place %d, want %d", s, r.Place(), len(got))
			}
		}
		if want := strings.Split(s, ","); !slices.Equal(got, want) || !r.Done() {
			t.Errorf("All of %q = %q, want %q", s, got, want)
		}
	}
}

// Who stops finds the rest where it was.
func TestAllStopped(t *testing.T) {
	r := Of("a,b,c")
	for range r.All(",") {
		break
	}
	if piece, marked := r.Next(","); piece != "b" || !marked || r.Place() != 2 {
		t.Errorf("behind a stop: %q, %v, %d", piece, marked, r.Place())
	}
}

func TestTake(t *testing.T) {
	r := Of("\u00e9x;yz")
	for i, want := range []struct {
		n     int
		piece string
	}{{1, "\xc3"}, {0, ""}, {3, "\xa9x;"}, {3, "yz"}, {1, ""}, {0, ""}} {
		if got := r.Take(want.n); got != want.piece || r.Place() != i+1 {
			t.Errorf("piece %d = %q at %d, want %q", i+1, got, r.Place(), want.piece)
		}
	}
	if !r.Done() {
		t.Errorf("behind the last piece: %+v", r)
	}
}

func TestWrong(t *testing.T) {
	cause := errors.New("too loud")
	r := Of("a b")
	r.Next(" ")
	r.Next(" ")
	err := r.Wrong(&Error{Place: 7, Cause: cause})
	var wrong *Error
	if !errors.As(err, &wrong) || wrong.Place != 2 || !errors.Is(err, cause) {
		t.Errorf("Wrong = %v", err)
	}
	if got, want := err.Error(), "piece 2: piece 7: too loud"; got != want {
		t.Errorf("Error() = %q, want %q", got, want)
	}
}
