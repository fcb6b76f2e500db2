// Package civil: days: see DOC.md.
package civil

import (
	"datebook/api"
	"datebook/calendar"
)

// Number is the number of a day (P3).
func Number(year int, month int, day int) (int, api.Errno) {
	if year < api.MinYear || year > api.MaxYear || month < 1 || month > 12 {
		return 0, api.ErrArg
	}
	if day < 1 || day > calendar.MonthLength(year, month) {
		return 0, api.ErrArg
	}
	return calendar.NewMonth(year, month) + day - 1, api.OK
}

// Date is the day of a number (P3).
func Date(number int) (int, int, int, api.Errno) {
	if !calendar.IsDay(number) {
		return 0, 0, 0, api.ErrArg
	}
	d := calendar.At(number)
	return d.Year, d.Month, d.Day, api.OK
}

// Week is the week of a day (P3).
func Week(number int, first int) (int, int, api.Errno) {
	if !calendar.IsDay(number) || first < 0 || first > 6 {
		return 0, 0, api.ErrArg
	}
	// A week has at least four days of the year in which its fourth day is, and of no other.
	fourth := number - calendar.DaysSince(first, number) + 3
	year := calendar.YearOf(fourth)
	return year, (fourth-calendar.NewYear(year))/7 + 1, api.OK
}
