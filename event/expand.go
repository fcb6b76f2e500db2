package event

import (
	"iter"
	"slices"

	"datebook/api"
	"datebook/recur"
)

// window is the time from one time on, up to another that is not in it.
type window struct {
	from, to int
}

// has tells whether what is at a time, for so long, is in the window. Without a length it ends where it begins, and need not be asked for one.
func (w window) has(at int, length int) bool {
	return at < w.to && (at >= w.from || at+length > w.from)
}

// expand tells when an event is, within a window; if that is more than most, some may be missing, but not so many that it is not.
func expand(e api.Event, w window, most int) []int {
	var out []int
	for at := range ruleDates(e, w.from-e.Length) {
		if at >= w.to || len(out) > most {
			break
		}
		if w.has(at, e.Length) && !slices.Contains(e.Fewer, at) {
			out = append(out, at)
		}
	}
	for _, at := range e.More {
		if w.has(at, e.Length) && !slices.Contains(e.Fewer, at) {
			out = append(out, at)
		}
	}
	slices.Sort(out)
	return slices.Compact(out)
}

// ruleDates goes through the dates of an event's rule, or its start; those ahead of from may be left out.
func ruleDates(e api.Event, from int) iter.Seq[int] {
	if e.Rule.Freq == 0 {
		return slices.Values([]int{e.Start})
	}
	return recur.Dates(e.Start, e.Rule, from)
}
