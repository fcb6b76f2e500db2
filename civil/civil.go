// Package civil: days: see DOC.md.
package civil

import "datebook/api"

// Number is the number of a day (P3).
func Number(year int, month int, day int) (int, api.Errno) {
	if year < api.MinYear || year > api.MaxYear || month < 1 || month > 12 {
		return 0, api.ErrArg
	}
	if day < 1 || day > monthLength(year, month) {
		return 0, api.ErrArg
	}
	n := newYear(year)
	for m := 1; m < month; m++ {
		n += monthLength(year, m)
	}
	return n + day - 1, api.OK
}

// Date is the day of a number (P3).
func Date(number int) (int, int, int, api.Errno) {
	if !isDay(number) {
		return 0, 0, 0, api.ErrArg
	}
	year := yearOf(number)
	month, day := 1, number-newYear(year)+1
	for day > monthLength(year, month) {
		day -= monthLength(year, month)
		month++
	}
	return year, month, day, api.OK
}

// Week is the week of a day (P3).
func Week(number int, first int) (int, int, api.Errno) {
	if !isDay(number) || first < 0 || first > 6 {
		return 0, 0, api.ErrArg
	}
	// A week has at least four days of the year in which its fourth day is, and of no other.
	fourth := number - daysSince(first, number) + 3
	year := yearOf(fourth)
	return year, (fourth-newYear(year))/7 + 1, api.OK
}
