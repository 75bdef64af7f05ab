package basis_test

import (
	"math"
	"math/rand"
	"testing"

	"passbook/api"
	"passbook/basis"
	"passbook/cal"
)

func day(t *testing.T, s string) int {
	t.Helper()
	n, e := cal.Parse(s)
	if e != api.OK {
		t.Fatalf("%s: error %d", s, e)
	}
	return n
}

func checkPart(t *testing.T, how, from, to int, above, below int64, wantE api.Errno) {
	t.Helper()
	if n, d, e := basis.Part(how, from, to); n != above || d != below || e != wantE {
		t.Errorf("Part(%d, %d, %d) = %d, %d, error %d; want %d, %d, error %d", how, from, to, n, d, e, above, below, wantE)
	}
}

func checkDays(t *testing.T, how, from, to int, want int64, wantE api.Errno) {
	t.Helper()
	if n, e := basis.Days(how, from, to); n != want || e != wantE {
		t.Errorf("Days(%d, %d, %d) = %d, error %d; want %d, error %d", how, from, to, n, e, want, wantE)
	}
}

func checkFault(t *testing.T, how, from, to int, want api.Errno) {
	t.Helper()
	checkPart(t, how, from, to, 0, 0, want)
	checkDays(t, how, from, to, 0, want)
}

// thirty tells the part by the chapter's words.
func thirty(from, to int) int64 {
	y, m, d, _ := cal.Civil(from)
	y2, m2, d2, _ := cal.Civil(to)
	if d == 31 {
		d = 30
	}
	if d2 == 31 {
		d2 = 30
	}
	return int64(360*(y2-y) + 30*(m2-m) + (d2 - d))
}

// actual goes through the days one by one.
func actual(from, to int) int64 {
	above := int64(0)
	for n := from; n < to; n++ {
		y, _, _, _ := cal.Civil(n)
		if y%4 == 0 && y%100 != 0 || y%400 == 0 {
			above += 365
		} else {
			above += 366
		}
	}
	return above
}

// checkAll holds all four ways between two days against the chapter's words.
func checkAll(t *testing.T, from, to int) {
	t.Helper()
	days := int64(to - from)
	checkPart(t, api.Act360, from, to, days, 360, api.OK)
	checkPart(t, api.Act365, from, to, days, 365, api.OK)
	checkPart(t, api.Thirty, from, to, thirty(from, to), 360, api.OK)
	checkPart(t, api.ActAct, from, to, actual(from, to), 133590, api.OK)
	checkDays(t, api.Act360, from, to, days, api.OK)
	checkDays(t, api.Act365, from, to, days, api.OK)
	checkDays(t, api.Thirty, from, to, thirty(from, to), api.OK)
	checkDays(t, api.ActAct, from, to, days, api.OK)
}

func TestExamples(t *testing.T) { // P4.1
	for _, c := range []struct {
		how          int
		from, to     string
		above, below int64
	}{
		{api.Act360, "2024-01-01", "2024-02-01", 31, 360},
		{api.Act365, "2024-01-01", "2024-02-01", 31, 365},
		{api.Thirty, "2024-01-01", "2024-02-01", 30, 360},
		{api.Thirty, "2024-01-30", "2024-01-31", 0, 360},
		{api.Thirty, "2024-01-31", "2024-02-01", 1, 360},
		{api.Thirty, "2024-01-30", "2024-02-01", 1, 360},
		{api.Thirty, "2024-02-29", "2024-03-31", 31, 360},
		{api.Thirty, "2024-02-28", "2024-02-29", 1, 360},
		{api.Thirty, "2023-02-28", "2023-03-01", 3, 360},
		{api.Thirty, "2024-02-29", "2024-03-01", 2, 360},
		{api.Thirty, "2024-01-31", "2024-03-31", 60, 360},
		{api.Thirty, "2023-12-31", "2024-12-31", 360, 360},
		{api.ActAct, "2023-12-31", "2024-01-02", 731, 133590},
		{api.ActAct, "2024-01-01", "2025-01-01", 133590, 133590},
		{api.ActAct, "2023-01-01", "2024-01-01", 133590, 133590},
		{api.ActAct, "2024-12-31", "2025-01-02", 731, 133590},
		{api.ActAct, "1900-02-28", "1900-03-01", 366, 133590},
		{api.ActAct, "2000-02-28", "2000-03-01", 730, 133590},
		{api.ActAct, "0001-01-01", "9999-01-01", 9998 * 133590, 133590},
		{api.Thirty, "0001-01-01", "9999-12-31", 360*9999 - 1, 360},
	} {
		checkPart(t, c.how, day(t, c.from), day(t, c.to), c.above, c.below, api.OK)
	}
}

func TestDays(t *testing.T) { // P4.2
	from, to := day(t, "2024-01-01"), day(t, "2024-02-01")
	for how, want := range []int64{31, 31, 30, 31} {
		checkDays(t, how, from, to, want, api.OK)
	}
	for how, want := range []int64{api.MaxDay - 1, api.MaxDay - 1, 360*9999 - 1, api.MaxDay - 1} {
		checkDays(t, how, 1, api.MaxDay, want, api.OK)
	}
}

// TestNearDays goes through all pairs of days near the turns that matter.
func TestNearDays(t *testing.T) { // P4.1, P4.2
	for _, s := range []string{"0001-02-01", "0004-01-01", "0005-01-01", "0100-01-01", "0101-01-01", "0400-01-01", "0401-01-01", "1900-03-01", "2000-03-01", "2023-12-31", "2024-03-01", "2025-01-01", "9999-11-25"} {
		middle := day(t, s)
		for from := middle - 31; from <= middle+36; from++ {
			for to := from; to <= middle+36; to++ {
				checkAll(t, from, to)
			}
		}
	}
}

func TestFarDays(t *testing.T) { // P4.1, P4.2
	random := rand.New(rand.NewSource(4))
	for range 300 {
		from := 1 + random.Intn(api.MaxDay)
		checkAll(t, from, min(from+random.Intn(200000), api.MaxDay))
	}
	checkAll(t, 1, api.MaxDay)
	checkAll(t, 1, 1)
	checkAll(t, api.MaxDay, api.MaxDay)
}

// TestOneDay goes through the calendar: a day adds what its year says.
func TestOneDay(t *testing.T) { // P4.1
	for n := 1; n < api.MaxDay; n++ {
		checkPart(t, api.ActAct, n, n+1, actual(n, n+1), 133590, api.OK)
		checkPart(t, api.Thirty, n, n+1, thirty(n, n+1), 360, api.OK)
	}
}

func TestPartsAddUp(t *testing.T) { // P4.3
	random := rand.New(rand.NewSource(43))
	for range 100000 {
		a := 1 + random.Intn(api.MaxDay)
		b := a + random.Intn(api.MaxDay-a+1)
		c := b + random.Intn(api.MaxDay-b+1)
		if random.Intn(2) == 0 {
			b = min(a+random.Intn(70), api.MaxDay)
			c = min(b+random.Intn(70), api.MaxDay)
		}
		for how := range 4 {
			first, below, e := basis.Part(how, a, b)
			second, below2, e2 := basis.Part(how, b, c)
			if e != api.OK || e2 != api.OK || below != below2 || first < 0 || second < 0 {
				t.Fatalf("Part(%d) of %d, %d, %d: %d, %d, error %d; %d, %d, error %d", how, a, b, c, first, below, e, second, below2, e2)
			}
			checkPart(t, how, a, c, first+second, below, api.OK)
		}
	}
}

func TestWrong(t *testing.T) { // P4.1, P4.2
	for how := range 4 {
		checkFault(t, how, 5, 4, api.ErrDate)
		checkFault(t, how, api.MaxDay, 1, api.ErrDate)
		checkFault(t, how, 719164, 719163, api.ErrDate)
		for _, n := range []int{0, -1, api.MaxDay + 1, math.MinInt, math.MaxInt} {
			checkFault(t, how, n, 5, api.ErrArg)
			checkFault(t, how, 5, n, api.ErrArg)
			checkFault(t, how, n, n, api.ErrArg)
			checkFault(t, how, n, math.MinInt, api.ErrArg)
			checkFault(t, how, n, math.MaxInt, api.ErrArg)
		}
	}
	for _, how := range []int{-1, 4, 5, math.MinInt, math.MaxInt} {
		checkFault(t, how, 4, 5, api.ErrArg)
		checkFault(t, how, 5, 4, api.ErrArg)
		checkFault(t, how, 0, 4, api.ErrArg)
	}
	// Days a 31st and its 30th count alike, but one lies behind the other.
	checkFault(t, api.Thirty, day(t, "2024-01-31"), day(t, "2024-01-30"), api.ErrDate)
}
