package cal

import "passbook/api"

// The ways to roll a day.
const (
	onward      = 0
	backward    = 1
	withinMonth = 2
)

// reach: among so many days in a row there are more of Monday to Friday than
// there may be holidays, so that one of them is a business day.
const reach = week * (api.MaxHolidays/workdays + 1)

func business(n int, holidays []int) bool {
	if weekday(n) >= workdays {
		return false
	}
	for _, h := range holidays {
		if h == n {
			return false
		}
	}
	return true
}

// look answers the first business day from n on, by steps of 1 or -1.
func look(n, step int, holidays []int) (int, api.Errno) {
	for far := range reach {
		day := n + far*step
		if !isDay(day) {
			break
		}
		if business(day, holidays) {
			return day, api.OK
		}
	}
	return 0, api.ErrRange
}

func lookWithinMonth(n int, holidays []int) (int, api.Errno) {
	// No business day up to MaxDay is none in the month either: not yet an error.
	day, e := look(n, 1, holidays)
	if e == api.OK && sameMonth(n, day) {
		return day, api.OK
	}
	return look(n, -1, holidays)
}

func sameMonth(a, b int) bool {
	y, m, _ := civil(a)
	y2, m2, _ := civil(b)
	return y == y2 && m == m2
}
