package cal_test

import (
	"fmt"
	"math"
	"math/rand"
	"testing"
	"time"

	"passbook/api"
	"passbook/cal"
)

// outside: numbers that are no days.
func outside() []int { return []int{0, -1, api.MaxDay + 1, -719163, math.MinInt, math.MaxInt} }

func number(t *testing.T, y, m, d int) int {
	t.Helper()
	n, e := cal.Number(y, m, d)
	if e != api.OK {
		t.Fatalf("Number(%d, %d, %d): error %d", y, m, d, e)
	}
	return n
}

func checkNumber(t *testing.T, y, m, d, want int, wantE api.Errno) {
	t.Helper()
	if n, e := cal.Number(y, m, d); n != want || e != wantE {
		t.Errorf("Number(%d, %d, %d) = %d, error %d; want %d, error %d", y, m, d, n, e, want, wantE)
	}
}

func checkLength(t *testing.T, y, m, want int, wantE api.Errno) {
	t.Helper()
	if n, e := cal.Length(y, m); n != want || e != wantE {
		t.Errorf("Length(%d, %d) = %d, error %d; want %d, error %d", y, m, n, e, want, wantE)
	}
}

// month of the calendar, found by counting: its first day and its length.
type month struct{ y, m, first, length int }

// calendar counts the months up by the words of the chapter alone.
func calendar() []month {
	lengths := [...]int{31, 28, 31, 30, 31, 30, 31, 31, 30, 31, 30, 31}
	var list []month
	day := 1
	for y := 1; y <= 9999; y++ {
		leap := y%4 == 0
		if y%100 == 0 {
			leap = y%400 == 0
		}
		for i, n := range lengths {
			if i == 1 && leap {
				n = 29
			}
			list = append(list, month{y, i + 1, day, n})
			day += n
		}
	}
	return list
}

func TestExamples(t *testing.T) { // P3.1
	checkNumber(t, 1970, 1, 1, 719163, api.OK)
	if w, e := cal.Weekday(719163); w != 3 || e != api.OK {
		t.Errorf("Weekday(719163) = %d, error %d", w, e)
	}
	checkNumber(t, 1900, 2, 29, 0, api.ErrDate)
	checkLength(t, 2000, 2, 29, api.OK)
	if y, m, d, e := cal.Civil(3652059); y != 9999 || m != 12 || d != 31 || e != api.OK {
		t.Errorf("Civil(3652059) = %d, %d, %d, error %d", y, m, d, e)
	}
}

// TestEveryDay goes through the whole calendar, from 1 January 1 to 31 December 9999.
func TestEveryDay(t *testing.T) { // P3.1, P3.4
	day, weekday := 0, 6
	for _, c := range calendar() {
		checkLength(t, c.y, c.m, c.length, api.OK)
		checkNumber(t, c.y, c.m, 0, 0, api.ErrDate)
		checkNumber(t, c.y, c.m, c.length+1, 0, api.ErrDate)
		for d := 1; d <= c.length; d++ {
			day++
			weekday = (weekday + 1) % 7
			checkNumber(t, c.y, c.m, d, day, api.OK)
			if y, m, d2, e := cal.Civil(day); y != c.y || m != c.m || d2 != d || e != api.OK {
				t.Fatalf("Civil(%d) = %d, %d, %d, error %d; want %d, %d, %d", day, y, m, d2, e, c.y, c.m, d)
			}
			if w, e := cal.Weekday(day); w != weekday || e != api.OK {
				t.Fatalf("Weekday(%d) = %d, error %d; want %d", day, w, e, weekday)
			}
			if last, e := cal.MonthEnd(day); last != (d == c.length) || e != api.OK {
				t.Fatalf("MonthEnd(%d) = %v, error %d", day, last, e)
			}
			s, e := cal.Write(day)
			if len(s) != 10 || e != api.OK {
				t.Fatalf("Write(%d) = %q, error %d", day, s, e)
			}
			if n, e := cal.Parse(s); n != day || e != api.OK {
				t.Fatalf("Parse(%q) = %d, error %d; want %d", s, n, e, day)
			}
		}
	}
	if day != api.MaxDay {
		t.Fatalf("the calendar has %d days", day)
	}
}

// TestOtherCalendar holds some days against another calendar, that of Go's library.
func TestOtherCalendar(t *testing.T) { // P3.1, P3.4
	begin := time.Date(1, 1, 1, 0, 0, 0, 0, time.UTC)
	for n := 1; n <= api.MaxDay; n += 97 {
		date := begin.AddDate(0, 0, n-1)
		checkNumber(t, date.Year(), int(date.Month()), date.Day(), n, api.OK)
		if w, _ := cal.Weekday(n); w != (int(date.Weekday())+6)%7 {
			t.Fatalf("Weekday(%d) = %d; want %v", n, w, date.Weekday())
		}
		if s, _ := cal.Write(n); s != date.Format("2006-01-02") {
			t.Fatalf("Write(%d) = %q; want %v", n, s, date)
		}
	}
}

func TestLeapYears(t *testing.T) { // P3.1
	for y, days := range map[int]int{1: 28, 3: 28, 4: 29, 100: 28, 200: 28, 300: 28, 400: 29, 1600: 29, 1900: 28, 2000: 29, 2023: 28, 2024: 29, 2100: 28, 9996: 29, 9999: 28} {
		checkLength(t, y, 2, days, api.OK)
		_, e := cal.Number(y, 2, 29)
		if (e == api.OK) != (days == 29) || (e == api.ErrDate) != (days == 28) {
			t.Errorf("Number(%d, 2, 29): error %d", y, e)
		}
	}
}

func TestWrongDates(t *testing.T) { // P3.1
	for _, y := range []int{0, -1, -4, 10000, math.MinInt, math.MaxInt} {
		checkNumber(t, y, 1, 1, 0, api.ErrArg)
		checkNumber(t, y, 13, 1, 0, api.ErrArg)
		checkNumber(t, y, 2, 30, 0, api.ErrArg)
		checkLength(t, y, 1, 0, api.ErrArg)
		checkLength(t, y, 13, 0, api.ErrArg)
	}
	for _, m := range []int{0, -1, 13, math.MinInt, math.MaxInt} {
		checkNumber(t, 2024, m, 1, 0, api.ErrDate)
		checkLength(t, 2024, m, 0, api.ErrArg)
	}
	for _, d := range []int{0, -1, 32, math.MinInt, math.MaxInt} {
		for m := 1; m <= 12; m++ {
			checkNumber(t, 2024, m, d, 0, api.ErrDate)
		}
	}
}

func TestNoDays(t *testing.T) { // P3.1
	for _, n := range outside() {
		if y, m, d, e := cal.Civil(n); y != 0 || m != 0 || d != 0 || e != api.ErrArg {
			t.Errorf("Civil(%d) = %d, %d, %d, error %d", n, y, m, d, e)
		}
		if w, e := cal.Weekday(n); w != 0 || e != api.ErrArg {
			t.Errorf("Weekday(%d) = %d, error %d", n, w, e)
		}
		if last, e := cal.MonthEnd(n); last || e != api.ErrArg {
			t.Errorf("MonthEnd(%d) = %v, error %d", n, last, e)
		}
	}
}

func checkAdd(t *testing.T, n, k, want int, wantE api.Errno) {
	t.Helper()
	if got, e := cal.AddMonths(n, k); got != want || e != wantE {
		t.Errorf("AddMonths(%d, %d) = %d, error %d; want %d, error %d", n, k, got, e, want, wantE)
	}
}

func TestAddMonthsExamples(t *testing.T) { // P3.2
	january := number(t, 2024, 1, 31)
	checkAdd(t, january, 1, number(t, 2024, 2, 29), api.OK)
	checkAdd(t, january, -2, number(t, 2023, 11, 30), api.OK)
	checkAdd(t, january, 0, january, api.OK)
	checkAdd(t, january, 13, number(t, 2025, 2, 28), api.OK)
	checkAdd(t, january, -12, number(t, 2023, 1, 31), api.OK)
	checkAdd(t, number(t, 2024, 2, 29), 12, number(t, 2025, 2, 28), api.OK)
	checkAdd(t, number(t, 2024, 2, 29), 48, number(t, 2028, 2, 29), api.OK)
	checkAdd(t, number(t, 2024, 4, 30), 1, number(t, 2024, 5, 30), api.OK)
	checkAdd(t, number(t, 2023, 12, 31), 2, number(t, 2024, 2, 29), api.OK)
}

func TestAddMonthsEnds(t *testing.T) { // P3.2
	const all = 9999*12 - 1
	checkAdd(t, api.MaxDay, 1, 0, api.ErrRange)
	checkAdd(t, number(t, 9999, 12, 1), 1, 0, api.ErrRange)
	checkAdd(t, number(t, 9999, 11, 30), 1, number(t, 9999, 12, 30), api.OK)
	checkAdd(t, 1, -1, 0, api.ErrRange)
	checkAdd(t, 31, -1, 0, api.ErrRange)
	checkAdd(t, 32, -1, 1, api.OK)
	checkAdd(t, 1, all, number(t, 9999, 12, 1), api.OK)
	checkAdd(t, 1, all+1, 0, api.ErrRange)
	checkAdd(t, api.MaxDay, -all, 31, api.OK)
	checkAdd(t, api.MaxDay, -all-1, 0, api.ErrRange)
	for _, n := range []int{1, 719163, api.MaxDay} {
		for _, k := range []int{math.MinInt, math.MinInt + 1, math.MinInt32, -1 << 20, 1 << 20, math.MaxInt32, math.MaxInt - 1, math.MaxInt} {
			checkAdd(t, n, k, 0, api.ErrRange)
		}
	}
	for _, n := range outside() {
		for _, k := range []int{0, 1, -1, math.MinInt, math.MaxInt} {
			checkAdd(t, n, k, 0, api.ErrArg)
		}
	}
}

// TestAddMonthsAll holds AddMonths against the list of all months.
func TestAddMonthsAll(t *testing.T) { // P3.2
	list := calendar()
	random := rand.New(rand.NewSource(3))
	for range 300000 {
		i, j := random.Intn(len(list)), random.Intn(len(list))
		if random.Intn(2) == 0 {
			j = min(max(i+random.Intn(60)-30, 0), len(list)-1)
		}
		d := 1 + random.Intn(list[i].length)
		if random.Intn(2) == 0 {
			d = list[i].length - random.Intn(4)
		}
		checkAdd(t, list[i].first+d-1, j-i, list[j].first+min(d, list[j].length)-1, api.OK)
	}
}

func TestWrite(t *testing.T) { // P3.4
	for s, n := range map[string]int{"0001-01-01": 1, "0001-12-31": 365, "0010-01-01": number(t, 10, 1, 1), "0987-06-05": number(t, 987, 6, 5), "1970-01-01": 719163, "2024-02-29": number(t, 2024, 2, 29), "9999-12-31": api.MaxDay} {
		if got, e := cal.Write(n); got != s || e != api.OK {
			t.Errorf("Write(%d) = %q, error %d; want %q", n, got, e, s)
		}
	}
	for _, n := range outside() {
		if s, e := cal.Write(n); s != "" || e != api.ErrArg {
			t.Errorf("Write(%d) = %q, error %d", n, s, e)
		}
	}
}

func checkFault(t *testing.T, s string, want api.Errno) {
	t.Helper()
	if n, e := cal.Parse(s); n != 0 || e != want {
		t.Errorf("Parse(%q) = %d, error %d; want error %d", s, n, e, want)
	}
}

func TestParseNoSuchDay(t *testing.T) { // P3.4
	for _, s := range []string{"2024-02-30", "2023-02-29", "1900-02-29", "2024-13-01", "2024-00-01", "2024-01-00", "2024-01-32", "2024-04-31", "0000-01-01", "0000-13-99", "0000-00-00", "9999-12-32", "9999-99-99"} {
		checkFault(t, s, api.ErrDate)
	}
}

func TestParseNoForm(t *testing.T) { // P3.4
	for _, s := range []string{"", "2", "-", "2024-2-30", "2024-02-1", "2024-02-01 ", " 2024-02-01", "2024-02-001", "02024-02-01", "2024/02/01", "20240201", "2024-0201-", "20-24-0201", "+024-02-01", "-024-02-01", "2024--2-01", "2024-02--1", "2024-02-0\x00", "2024-0２-1", "٢٠٢٤-٠", "10000-01-01", "2024-02-30x", "24-02-2024", "----------", "0000000000"} {
		checkFault(t, s, api.ErrText)
	}
	checkFault(t, fmt.Sprintf("%065536d", 1), api.ErrText)
}

// TestParseOneByte puts each byte at each place of a text.
func TestParseOneByte(t *testing.T) { // P3.4
	const good = "2021-11-21"
	for place := range good {
		for b := range 256 {
			text := []byte(good)
			text[place] = byte(b)
			fits := '0' <= b && b <= '9'
			if good[place] == '-' {
				fits = b == '-'
			}
			date, err := time.Parse("2006-01-02", string(text))
			n, e := cal.Parse(string(text))
			switch {
			case !fits:
				checkFault(t, string(text), api.ErrText)
			case err != nil:
				checkFault(t, string(text), api.ErrDate)
			default:
				if want := number(t, date.Year(), int(date.Month()), date.Day()); n != want || e != api.OK {
					t.Errorf("Parse(%q) = %d, error %d; want %d", text, n, e, want)
				}
			}
		}
	}
	for size := range len(good) {
		checkFault(t, good[:size], api.ErrText)
	}
}
