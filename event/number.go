package event

import (
	"slices"
	"strconv"
	"strings"

	"datebook/api"
	"datebook/pieces"
)

func isDigit(b byte) bool { return '0' <= b && b <= '9' }

// areDigits tells whether a text has nothing but digits.
func areDigits(s string) bool {
	for i := range len(s) {
		if !isDigit(s[i]) {
			return false
		}
	}
	return true
}

// digits is the number that a few digits tell, noughts ahead or not.
func digits(s string) int {
	n := 0
	for i := range len(s) {
		n = 10*n + int(s[i]-'0')
	}
	return n
}

// padded writes a number with noughts ahead.
func padded(n int, width int) string {
	s := strconv.Itoa(n)
	return strings.Repeat("0", max(0, width-len(s))) + s
}

// readPlace reads a number from 1 to most, or as much below 0: places are counted from the beginning or from the end.
func readPlace(s string, most int) (int, error) {
	n, err := pieces.Number(s, -most, most)
	if err == nil && n == 0 {
		return 0, pieces.ErrNumber
	}
	return n, err
}

// readList reads a list with commas between, each piece by read; it tells the list in order and without doubles.
func readList[T comparable](s string, read func(string) (T, error), compare func(T, T) int) ([]T, error) {
	var out []T
	r := pieces.Of(s)
	for piece := range r.All(",") {
		if r.Place() > api.MaxList {
			return nil, errMany
		}
		one, err := read(piece)
		if err != nil {
			return nil, r.Wrong(err)
		}
		out = append(out, one)
	}
	slices.SortFunc(out, compare)
	return slices.Compact(out), nil
}

// writeList writes a list, each element by write.
func writeList[T any](l []T, write func(T) string) string {
	out := make([]string, len(l))
	for i, one := range l {
		out[i] = write(one)
	}
	return strings.Join(out, ",")
}
