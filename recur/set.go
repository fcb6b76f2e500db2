package recur

import (
	"slices"

	"datebook/api"
	"datebook/calendar"
)

// set is the set of the period that has these days.
func (s *series) set(first int, last int) []int {
	var set []int
	for d := calendar.At(first); d.Number <= last; d = d.Next() {
		if s.has(d) {
			set = append(set, d.Number)
		}
	}
	if len(s.Places) == 0 {
		return set
	}
	return s.placed(set)
}

// placed are the days of a set that stand in the rule's places.
func (s *series) placed(set []int) []int {
	var out []int
	for i, number := range set {
		if slices.Contains(s.Places, i+1) || slices.Contains(s.Places, i-len(set)) {
			out = append(out, number)
		}
	}
	return out
}

// has tells whether a day of a period is in its set.
func (s *series) has(d calendar.Day) bool {
	if len(s.Months) > 0 && !slices.Contains(s.Months, d.Month) {
		return false
	}
	if len(s.MonthDays) == 0 && len(s.Weekdays) == 0 {
		return s.isLikeStart(d)
	}
	return (len(s.MonthDays) == 0 || s.hasMonthDay(d)) && (len(s.Weekdays) == 0 || s.hasWeekday(d))
}

// isLikeStart tells whether a day is in a set that neither BYMONTHDAY nor BYDAY narrows: the start has the say then.
func (s *series) isLikeStart(d calendar.Day) bool {
	switch {
	case s.Freq == api.Daily:
		return true
	case s.Freq == api.Weekly:
		return d.Weekday == s.start.Weekday
	case s.Freq == api.Yearly && len(s.Months) == 0 && d.Month != s.start.Month:
		return false
	}
	return d.Day == s.start.Day
}

// hasMonthDay tells whether a day is in BYMONTHDAY, from the beginning of its month or from the end.
func (s *series) hasMonthDay(d calendar.Day) bool {
	return slices.Contains(s.MonthDays, d.Day) || slices.Contains(s.MonthDays, d.Day-d.MonthLength()-1)
}

// hasWeekday tells whether a day is in BYDAY.
func (s *series) hasWeekday(d calendar.Day) bool {
	for _, w := range s.Weekdays {
		if w.Day == d.Weekday && (w.N == 0 || s.isNth(d, w.N)) {
			return true
		}
	}
	return false
}

// isNth tells whether a day is the nth of its weekday in its month or year, from behind if n is below 0.
func (s *series) isNth(d calendar.Day, n int) bool {
	day, length := d.Day, d.MonthLength()
	if s.Freq == api.Yearly && len(s.Months) == 0 {
		day, length = d.DayOfYear(), d.YearLength()
	}
	return n == (day-1)/7+1 || n == -((length-day)/7+1)
}
