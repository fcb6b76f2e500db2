// Package recur: the dates that a rule has.
package recur

import (
	"iter"
	"slices"

	"datebook/api"
	"datebook/calendar"
)

// Dates goes through the dates of a rule that is right, in order. Dates ahead of from may be left out: who asks for late ones need not wait for the early ones.
func Dates(start int, rule api.Rule, from int) iter.Seq[int] {
	s := newSeries(start, rule)
	return func(yield func(int) bool) {
		told := 0
		for number := range s.days(from) {
			at := number*api.Day + s.second
			if at < start {
				continue
			}
			if s.Ends && at > s.Until || !yield(at) {
				return
			}
			told++
			if told == s.Count {
				return
			}
		}
	}
}

// Begins tells whether the start is one of the dates of a rule: no other period than its own can have it.
func Begins(start int, rule api.Rule) bool {
	s := newSeries(start, rule)
	first, last := s.period(0)
	return slices.Contains(s.set(first, last), s.start.Number) && (!s.Ends || start <= s.Until)
}

// series is a rule, and the day and the second of the day from which it goes on.
type series struct {
	api.Rule
	start  calendar.Day
	second int
}

func newSeries(start int, rule api.Rule) *series {
	number, second := calendar.Split(start)
	return &series{Rule: rule, start: calendar.At(number), second: second}
}

// days goes through the numbers of the days that the periods have, ahead of the start too, but not those of periods ahead of the time from, if they need not be counted.
func (s *series) days(from int) iter.Seq[int] {
	return func(yield func(int) bool) {
		for behind := s.skipped(from); ; behind += s.Every {
			first, last := s.period(behind)
			if first > last {
				return
			}
			for _, number := range s.set(first, last) {
				if !yield(number) {
					return
				}
			}
		}
	}
}

// skipped is how many periods behind the start's is the last one that the rule has and that has not ended at the time from.
func (s *series) skipped(from int) int {
	number, _ := calendar.Split(from)
	if s.Count > 0 || number <= s.start.Number {
		return 0
	}
	return s.behind(calendar.At(number)) / s.Every * s.Every
}
