package calendar

// Day is a day with its number, and all that it is called by.
type Day struct {
	Number, Year, Month, Day, Weekday int
}

// At is the day of a number.
func At(number int) Day {
	year := YearOf(number)
	month, day := 1, number-NewYear(year)+1
	for day > MonthLength(year, month) {
		day -= MonthLength(year, month)
		month++
	}
	return Day{Number: number, Year: year, Month: month, Day: day, Weekday: DaysSince(0, number)}
}

// Next is the day behind a day: a long way day by day costs less so than by numbers.
func (d Day) Next() Day {
	d.Number++
	d.Weekday = (d.Weekday + 1) % 7
	d.Day++
	if d.Day > MonthLength(d.Year, d.Month) {
		d.Month, d.Day = d.Month+1, 1
	}
	if d.Month > 12 {
		d.Year, d.Month = d.Year+1, 1
	}
	return d
}

// DayOfYear is the day's place in its year, from 1 on.
func (d Day) DayOfYear() int { return d.Number - NewYear(d.Year) + 1 }

// MonthLength is how many days the day's month has.
func (d Day) MonthLength() int { return MonthLength(d.Year, d.Month) }

// YearLength is how many days the day's year has.
func (d Day) YearLength() int { return NewYear(d.Year+1) - NewYear(d.Year) }
