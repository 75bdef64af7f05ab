package cal_test

import (
	"math"
	"math/rand"
	"slices"
	"testing"

	"passbook/api"
	"passbook/cal"
)

// open says by the chapter's words whether business is done.
func open(n int, holidays []int) bool {
	return (n-1)%7 < 5 && !slices.Contains(holidays, n)
}

// rolled says by the chapter's words where a day rolls to, 0 where there is none.
func rolled(n int, holidays []int, how int) int {
	later := n
	for later <= api.MaxDay && !open(later, holidays) {
		later++
	}
	earlier := n
	for earlier > 0 && !open(earlier, holidays) {
		earlier--
	}
	if later > api.MaxDay {
		later = 0
	}
	switch how {
	case 0:
		return later
	case 1:
		return earlier
	}
	if later != 0 {
		y, m, _, _ := cal.Civil(n)
		y2, m2, _, _ := cal.Civil(later)
		if y == y2 && m == m2 {
			return later
		}
	}
	return earlier
}

func checkBusiness(t *testing.T, n int, holidays []int, want bool, wantE api.Errno) {
	t.Helper()
	given := slices.Clone(holidays)
	if got, e := cal.Business(n, holidays); got != want || e != wantE {
		t.Errorf("Business(%d, %v) = %v, error %d; want %v, error %d", n, holidays, got, e, want, wantE)
	}
	if !slices.Equal(given, holidays) {
		t.Errorf("Business(%d) wrote to the holidays", n)
	}
}

func checkRoll(t *testing.T, n int, holidays []int, how, want int, wantE api.Errno) {
	t.Helper()
	given := slices.Clone(holidays)
	if got, e := cal.Roll(n, holidays, how); got != want || e != wantE {
		t.Errorf("Roll(%d, %d holidays, %d) = %d, error %d; want %d, error %d", n, len(holidays), how, got, e, want, wantE)
	}
	if !slices.Equal(given, holidays) {
		t.Errorf("Roll(%d) wrote to the holidays", n)
	}
}

// checkAsTold holds all three ways, and Business, against the chapter's words.
func checkAsTold(t *testing.T, n int, holidays []int) {
	t.Helper()
	checkBusiness(t, n, holidays, open(n, holidays), api.OK)
	for how := range 3 {
		want := rolled(n, holidays, how)
		wantE := api.OK
		if want == 0 {
			wantE = api.ErrRange
		}
		checkRoll(t, n, holidays, how, want, wantE)
	}
}

// weekdays: the first size days of Monday to Friday from a day on, by steps.
func weekdays(from, step, size int) []int {
	var list []int
	for n := from; len(list) < size; n += step {
		if (n-1)%7 < 5 {
			list = append(list, n)
		}
	}
	return list
}

func TestRollExamples(t *testing.T) { // P3.3
	saturday := number(t, 2024, 8, 31)
	checkRoll(t, saturday, nil, 0, number(t, 2024, 9, 2), api.OK)
	checkRoll(t, saturday, nil, 1, number(t, 2024, 8, 30), api.OK)
	checkRoll(t, saturday, nil, 2, number(t, 2024, 8, 30), api.OK)
	checkRoll(t, saturday-7, nil, 2, number(t, 2024, 8, 26), api.OK)
	checkRoll(t, saturday, []int{number(t, 2024, 9, 2)}, 0, number(t, 2024, 9, 3), api.OK)
	checkRoll(t, saturday, []int{number(t, 2024, 8, 30)}, 2, number(t, 2024, 8, 29), api.OK)
	// Where the month has no business day, the day before stands in another one.
	august := make([]int, 31)
	for i := range august {
		august[i] = number(t, 2024, 8, i+1)
	}
	checkRoll(t, saturday, august, 2, number(t, 2024, 7, 31), api.OK)
	// The same month of another year is another month.
	year := weekdays(saturday, 1, 245)
	checkRoll(t, saturday, year, 0, number(t, 2025, 8, 11), api.OK)
	checkRoll(t, saturday, year, 2, number(t, 2024, 8, 30), api.OK)
}

func TestBusinessWeek(t *testing.T) { // P3.3
	for i := range 14 {
		checkBusiness(t, 1+i, nil, i%7 < 5, api.OK)
		checkBusiness(t, 1+i, []int{}, i%7 < 5, api.OK)
		checkBusiness(t, 1+i, []int{1 + i}, false, api.OK)
		checkAsTold(t, 1+i, nil)
		checkAsTold(t, api.MaxDay-i, nil)
	}
}

func TestHolidaysInAnyOrder(t *testing.T) { // P3.3
	monday := number(t, 2024, 9, 2)
	lists := [][]int{
		{monday, monday + 1, monday + 2},
		{monday + 2, monday, monday + 1},
		{monday + 1, monday + 1, monday + 2, monday, monday, monday + 1},
		{0, -1, math.MinInt, monday + 2, api.MaxDay + 1, math.MaxInt, monday, -monday, monday + 1},
		{monday + 5, monday + 6, monday - 1, monday + 2, monday + 1, monday},
	}
	for _, list := range lists {
		for i := range 3 {
			checkBusiness(t, monday+i, list, false, api.OK)
		}
		checkBusiness(t, monday+3, list, true, api.OK)
		checkRoll(t, monday, list, 0, monday+3, api.OK)
		checkRoll(t, monday+2, list, 1, monday-3, api.OK)
		checkRoll(t, monday+2, list, 2, monday+3, api.OK)
		checkAsTold(t, monday+1, list)
	}
	// A day as far from another one as an int may tell is none that is meant.
	checkAsTold(t, 1, []int{1 + math.MinInt, math.MinInt, math.MaxInt})
}

func TestManyHolidays(t *testing.T) { // P3.3
	for _, from := range []int{1, 3, 719163, 719164, 719165, 719166, 719167, 719168, 719169, api.MaxDay - 1000} {
		full := weekdays(from, 1, api.MaxHolidays)
		if len(full) != 400 {
			t.Fatal(len(full))
		}
		checkAsTold(t, from, full)
		checkRoll(t, from, full, 0, weekdays(from, 1, 401)[400], api.OK)
		slices.Reverse(full)
		checkAsTold(t, from, full)
		checkAsTold(t, from, full[1:])
		checkAsTold(t, full[0], full)
	}
	for _, from := range []int{api.MaxDay, 719163, 719164, 719165, 719166, 719167, 719168, 719169} {
		full := weekdays(from, -1, api.MaxHolidays)
		checkAsTold(t, from, full)
		checkRoll(t, from, full, 1, weekdays(from, -1, 401)[400], api.OK)
	}
}

func TestTooManyHolidays(t *testing.T) { // P3.3
	far := make([]int, api.MaxHolidays+1)
	for _, list := range [][]int{far, weekdays(719163, 1, api.MaxHolidays+1), make([]int, 100000)} {
		for _, n := range []int{1, 719163, 719165, api.MaxDay} {
			checkBusiness(t, n, list, false, api.ErrLong)
			for how := range 3 {
				checkRoll(t, n, list, how, 0, api.ErrLong)
			}
			checkRoll(t, n, list, 3, 0, api.ErrArg)
			checkRoll(t, n, list, -1, 0, api.ErrArg)
		}
		for _, n := range outside() {
			checkBusiness(t, n, list, false, api.ErrArg)
			checkRoll(t, n, list, 0, 0, api.ErrArg)
		}
	}
	checkBusiness(t, 719163, far[:api.MaxHolidays], true, api.OK)
	checkRoll(t, 719163, far[:api.MaxHolidays], 0, 719163, api.OK)
}

func TestRollWrong(t *testing.T) { // P3.3
	for _, how := range []int{-1, 3, 4, math.MinInt, math.MaxInt} {
		checkRoll(t, 719163, nil, how, 0, api.ErrArg)
		checkRoll(t, api.MaxDay, []int{api.MaxDay}, how, 0, api.ErrArg)
	}
	for _, n := range outside() {
		checkBusiness(t, n, nil, false, api.ErrArg)
		checkBusiness(t, n, []int{n}, false, api.ErrArg)
		for how := -1; how <= 3; how++ {
			checkRoll(t, n, nil, how, 0, api.ErrArg)
		}
	}
}

func TestRollEnds(t *testing.T) { // P3.3
	// 31 December 9999 is a Friday, and day 1 a Monday.
	checkRoll(t, api.MaxDay, nil, 0, api.MaxDay, api.OK)
	checkRoll(t, api.MaxDay, []int{api.MaxDay}, 0, 0, api.ErrRange)
	checkRoll(t, api.MaxDay, []int{api.MaxDay}, 1, api.MaxDay-1, api.OK)
	checkRoll(t, api.MaxDay, []int{api.MaxDay}, 2, api.MaxDay-1, api.OK)
	checkRoll(t, api.MaxDay-1, []int{api.MaxDay, api.MaxDay - 1}, 0, 0, api.ErrRange)
	checkRoll(t, 1, nil, 1, 1, api.OK)
	checkRoll(t, 1, []int{1}, 0, 2, api.OK)
	checkRoll(t, 1, []int{1}, 1, 0, api.ErrRange)
	checkRoll(t, 1, []int{1}, 2, 2, api.OK)
	january := weekdays(1, 1, 23)
	checkRoll(t, 1, january, 0, 32, api.OK)
	checkRoll(t, 1, january, 1, 0, api.ErrRange)
	checkRoll(t, 1, january, 2, 0, api.ErrRange)
	checkRoll(t, 31, january, 2, 0, api.ErrRange)
	checkRoll(t, 31, january[1:], 2, 1, api.OK)
}

// TestRollAsTold holds rolls against the chapter's words, with dense lists near the days.
func TestRollAsTold(t *testing.T) { // P3.3
	random := rand.New(rand.NewSource(33))
	for range 6000 {
		n := 1 + random.Intn(api.MaxDay)
		switch random.Intn(4) {
		case 0:
			n = 1 + random.Intn(60)
		case 1:
			n = api.MaxDay - random.Intn(60)
		}
		holidays := make([]int, random.Intn(60))
		width := 1 + random.Intn(80)
		for i := range holidays {
			holidays[i] = n - width/2 + random.Intn(width)
		}
		checkAsTold(t, n, holidays)
	}
}
