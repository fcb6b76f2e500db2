package event

import (
	"cmp"
	"strconv"

	"datebook/api"
	"datebook/pieces"
)

// freqNames are the names of the frequencies, from Daily, 1, on.
var freqNames = [4]string{"DAILY", "WEEKLY", "MONTHLY", "YEARLY"}

// weekdayNames are the names of the weekdays, from Monday, 0, on.
var weekdayNames = [7]string{"MO", "TU", "WE", "TH", "FR", "SA", "SU"}

func (r *rule) readFreq(s string) error {
	for i, name := range freqNames {
		if s == name {
			r.Freq = api.Daily + i
			return nil
		}
	}
	return errFreq
}

func (r *rule) writeFreq() string {
	if r.Freq < api.Daily || r.Freq > api.Yearly {
		return ""
	}
	return freqNames[r.Freq-api.Daily]
}

func (r *rule) readEvery(s string) error {
	var err error
	r.Every, err = pieces.Number(s, 1, api.MaxEvery)
	return err
}

func (r *rule) writeEvery() string {
	if r.Every == 1 {
		return ""
	}
	return strconv.Itoa(r.Every)
}

func (r *rule) readCount(s string) error {
	var err error
	r.Count, err = pieces.Number(s, 1, api.MaxCount)
	return err
}

func (r *rule) writeCount() string {
	if r.Count == 0 {
		return ""
	}
	return strconv.Itoa(r.Count)
}

func (r *rule) readUntil(s string) error {
	var err error
	r.Ends = true
	r.Until, err = r.form.read(s)
	return err
}

func (r *rule) writeUntil() string {
	if !r.Ends {
		return ""
	}
	return r.form.write(r.Until)
}

func (r *rule) readMonths(s string) error {
	var err error
	r.Months, err = readList(s, readMonth, cmp.Compare[int])
	return err
}

func readMonth(s string) (int, error) { return pieces.Number(s, 1, 12) }

func (r *rule) writeMonths() string { return writeList(r.Months, strconv.Itoa) }

func (r *rule) readMonthDays(s string) error {
	var err error
	r.MonthDays, err = readList(s, readMonthDay, cmp.Compare[int])
	return err
}

func readMonthDay(s string) (int, error) { return readPlace(s, 31) }

func (r *rule) writeMonthDays() string { return writeList(r.MonthDays, strconv.Itoa) }

func (r *rule) readWeekdays(s string) error {
	var err error
	r.Weekdays, err = readList(s, readNumbered, compareWeekdays)
	return err
}

func (r *rule) writeWeekdays() string { return writeList(r.Weekdays, writeNumbered) }

// readNumbered reads a weekday, perhaps with a number ahead.
func readNumbered(s string) (api.Weekday, error) {
	at := max(0, len(s)-2) // the name of a weekday has two bytes
	day, err := readWeekday(s[at:])
	if err != nil || at == 0 {
		return api.Weekday{Day: day}, err
	}
	n, err := readPlace(s[:at], 53)
	return api.Weekday{N: n, Day: day}, err
}

func writeNumbered(w api.Weekday) string {
	if w.N == 0 {
		return writeWeekday(w.Day)
	}
	return strconv.Itoa(w.N) + writeWeekday(w.Day)
}

func compareWeekdays(a api.Weekday, b api.Weekday) int {
	return cmp.Or(cmp.Compare(a.Day, b.Day), cmp.Compare(a.N, b.N))
}

func readWeekday(s string) (int, error) {
	for day, name := range weekdayNames {
		if s == name {
			return day, nil
		}
	}
	return 0, errWeekday
}

// writeWeekday writes a weekday; as nothing, if there is no such one.
func writeWeekday(day int) string {
	if day < 0 || day >= len(weekdayNames) {
		return ""
	}
	return weekdayNames[day]
}

func (r *rule) readPlaces(s string) error {
	var err error
	r.Places, err = readList(s, readSetPlace, cmp.Compare[int])
	return err
}

func readSetPlace(s string) (int, error) { return readPlace(s, 366) }

func (r *rule) writePlaces() string { return writeList(r.Places, strconv.Itoa) }

func (r *rule) readFirst(s string) error {
	var err error
	r.First, err = readWeekday(s)
	return err
}

func (r *rule) writeFirst() string {
	if r.First == 0 {
		return ""
	}
	return writeWeekday(r.First)
}
