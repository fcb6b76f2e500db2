// Package calendar: years, months, days and times by the calendar of today, which the other packages lean on.
package calendar

import "datebook/api"

// monthLengths are those of a year without a 29th of February.
var monthLengths = [12]int{31, 28, 31, 30, 31, 30, 31, 31, 30, 31, 30, 31}

// isLeap tells whether a year has a 29th of February.
func isLeap(year int) bool {
	return year%4 == 0 && (year%100 != 0 || year%400 == 0)
}

// MonthLength is how many days a month has, 1 to 12.
func MonthLength(year int, month int) int {
	if month == 2 && isLeap(year) {
		return 29
	}
	return monthLengths[month-1]
}

// leaps is how many years from the year 1 to this one have a 29th of February.
func leaps(year int) int {
	return year/4 - year/100 + year/400
}

// NewYear is the number of a year's 1st of January.
func NewYear(year int) int {
	return 365*(year-1970) + leaps(year-1) - leaps(1969)
}

// NewMonth is the number of a month's first day.
func NewMonth(year int, month int) int {
	n := NewYear(year)
	for m := 1; m < month; m++ {
		n += MonthLength(year, m)
	}
	return n
}

// First is the number of the first day that there is.
func First() int { return NewYear(api.MinYear) }

// Last is the number of the last day that there is.
func Last() int { return NewYear(api.MaxYear+1) - 1 }

// IsDay tells whether a number is that of a day.
func IsDay(number int) bool {
	return First() <= number && number <= Last()
}

// YearOf is the year in which the day of a number is. The years beside these count too: a week over the edge may be one of theirs.
func YearOf(number int) int {
	const least = api.MinYear - 1
	// No year has more than 366 days, so this is never behind the year that is sought.
	year := least + (number-NewYear(least))/366
	for NewYear(year+1) <= number {
		year++
	}
	return year
}

// DaysSince is how many days the last weekday of this kind is ahead of a day, 0 to 6.
func DaysSince(weekday int, number int) int {
	// The 1st of January 1970 was a Thursday, 3; a remainder may be below 0.
	return ((number+3-weekday)%7 + 7) % 7
}
