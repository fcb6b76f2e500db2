package recur

import (
	"datebook/api"
	"datebook/calendar"
)

// behind is how many periods that of a day is behind the start's.
func (s *series) behind(d calendar.Day) int {
	switch s.Freq {
	case api.Daily:
		return d.Number - s.start.Number
	case api.Weekly:
		return (s.newWeek(d.Number) - s.newWeek(s.start.Number)) / 7
	case api.Monthly:
		return (d.Year-s.start.Year)*12 + d.Month - s.start.Month
	}
	return d.Year - s.start.Year
}

// period is the first and the last day of the period that is so many behind the start's; the last one is ahead of the first, if the period is behind all days that there are.
func (s *series) period(behind int) (int, int) {
	first, next := 0, 0
	switch s.Freq {
	case api.Daily:
		first = s.start.Number + behind
		next = first + 1
	case api.Weekly:
		first = s.newWeek(s.start.Number) + 7*behind
		next = first + 7
	case api.Monthly:
		month := s.start.Month - 1 + behind
		first = newMonth(s.start.Year, month)
		next = newMonth(s.start.Year, month+1)
	default:
		first = calendar.NewYear(s.start.Year + behind)
		next = calendar.NewYear(s.start.Year + behind + 1)
	}
	// A week may go over the edge of the years.
	return max(first, calendar.First()), min(next-1, calendar.Last())
}

// newMonth is the first day of a month that is counted from a year's January, 0, on, into other years too.
func newMonth(year int, month int) int {
	return calendar.NewMonth(year+month/12, month%12+1)
}

// newWeek is the first day of the week of a day.
func (s *series) newWeek(number int) int {
	return number - calendar.DaysSince(s.First, number)
}
