package cal

import "passbook/api"

const (
	lastYear = 9999
	months   = 12
	week     = 7
	workdays = 5
)

// How many days a year has, and how many go round with the leap days' rule.
const (
	year          = 365
	fourYears     = 4*year + 1
	century       = 25*fourYears - 1
	fourCenturies = 4*century + 1
)

func isDay(n int) bool { return 1 <= n && n <= api.MaxDay }

func isYear(y int) bool { return 1 <= y && y <= lastYear }

func isMonth(m int) bool { return 1 <= m && m <= months }

func isLeap(y int) bool { return y%4 == 0 && y%100 != 0 || y%400 == 0 }

// weekday leans on day 1 being a Monday.
func weekday(n int) int { return (n - 1) % week }

func length(y, m int) int {
	switch m {
	case 2:
		if isLeap(y) {
			return 29
		}
		return 28
	case 4, 6, 9, 11:
		return 30
	}
	return 31
}

func number(y, m, d int) int {
	whole := y - 1
	n := whole*year + whole/4 - whole/100 + whole/400
	for past := range m - 1 {
		n += length(y, past+1)
	}
	return n + d
}

func civil(n int) (y, m, d int) {
	y, d = yearOf(n)
	for past := range months {
		m = past + 1
		if d <= length(y, m) {
			break
		}
		d -= length(y, m)
	}
	return y, m, d
}

// yearOf: the year of a day, and the place of the day in it, from 1 on.
func yearOf(n int) (y, d int) {
	past := n - 1
	y = 1 + past/fourCenturies*400
	past %= fourCenturies
	// The last of four centuries, and the last of four years, may be longer by
	// a day than the others, which would begin a fifth one: so at most three are past.
	centuries := min(past/century, 3)
	y += centuries * 100
	past -= centuries * century
	y += past / fourYears * 4
	past %= fourYears
	years := min(past/year, 3)
	return y + years, past - years*year + 1
}
