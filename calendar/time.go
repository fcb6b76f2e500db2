package calendar

import "datebook/api"

// Split is the number of a time's day, and how many seconds of that day are ahead of the time.
func Split(time int) (int, int) {
	number, second := time/api.Day, time%api.Day
	if second < 0 {
		return number - 1, second + api.Day
	}
	return number, second
}

// IsTime tells whether a time is right.
func IsTime(time int) bool {
	number, _ := Split(time)
	return IsDay(number)
}
