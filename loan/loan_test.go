package loan_test

import (
	"math"
	"math/rand"
	"slices"
	"testing"

	"passbook/api"
	"passbook/loan"
)

const (
	minor     = 10000000000000 // the greatest principal, and the greatest balance
	allMonths = 480            // of the longest plan
)

func scheduleIs(t *testing.T, principal int64, months int, want ...int64) {
	t.Helper()
	if got, e := loan.Schedule(principal, months); e != api.OK || !slices.Equal(got, want) {
		t.Errorf("Schedule(%d, %d) = %v, error %d; want %v", principal, months, got, e, want)
	}
}

func leftIs(t *testing.T, principal int64, months, passed int, want int64, wantE api.Errno) {
	t.Helper()
	if got, e := loan.Left(principal, months, passed); got != want || e != wantE {
		t.Errorf("Left(%d, %d, %d) = %d, error %d; want %d, error %d", principal, months, passed, got, e, want, wantE)
	}
}

func arrearsAre(t *testing.T, principal int64, months, passed int, balance, want int64, wantE api.Errno) {
	t.Helper()
	if got, e := loan.Arrears(principal, months, passed, balance); got != want || e != wantE {
		t.Errorf("Arrears(%d, %d, %d, %d) = %d, error %d; want %d, error %d", principal, months, passed, balance, got, e, want, wantE)
	}
}

// principals: ordinary ones, and those about a plan's months and at the edges.
func principals() []int64 {
	out := []int64{1, 2, 3, 99, 100, 101, 479, 480, 481, 959, 960, 961, 123457, 999999999999, minor - 479, minor - 1, minor}
	source := rand.New(rand.NewSource(15))
	for range 10 {
		out = append(out, 1+source.Int63n(1+source.Int63n(minor)))
	}
	return out
}

func TestScheduleExamples(t *testing.T) { // P15.1
	scheduleIs(t, 100, 3, 34, 33, 33)
	scheduleIs(t, 1, 2, 1, 0)
	scheduleIs(t, 101, 3, 34, 34, 33)
	scheduleIs(t, 102, 3, 34, 34, 34)
	scheduleIs(t, 1, 1, 1)
	scheduleIs(t, minor, 1, minor)
	scheduleIs(t, minor, 3, 3333333333334, 3333333333333, 3333333333333)
	scheduleIs(t, 2, 5, 1, 1, 0, 0, 0) // more months than units
	scheduleIs(t, 5, 5, 1, 1, 1, 1, 1)
}

func TestScheduleAddsUp(t *testing.T) { // P15.1
	for _, principal := range principals() {
		for months := 1; months <= allMonths; months++ {
			l, e := loan.Schedule(principal, months)
			if e != api.OK || len(l) != months {
				t.Fatalf("Schedule(%d, %d): %d amounts, error %d", principal, months, len(l), e)
			}
			sum := int64(0)
			for i, amount := range l {
				sum += amount
				if i > 0 && amount > l[i-1] {
					t.Fatalf("Schedule(%d, %d): %d stands behind %d", principal, months, amount, l[i-1])
				}
			}
			if sum != principal || l[months-1] < 0 || l[0]-l[months-1] > 1 {
				t.Fatalf("Schedule(%d, %d): from %d to %d, %d in all", principal, months, l[0], l[months-1], sum)
			}
		}
	}
}

func TestSchedulesAreNewMemory(t *testing.T) { // P15.1, and the rules of memory
	for _, months := range []int{1, 3, 8, 480} {
		one, _ := loan.Schedule(1000, months)
		other, _ := loan.Schedule(1000, months)
		one = one[:cap(one)]
		for i := range one {
			one[i] = -77
		}
		if slices.Contains(other[:cap(other)], -77) {
			t.Fatal("two answers share memory")
		}
		scheduleIs(t, 1000, months, other...)
	}
}

func TestLeftExamples(t *testing.T) { // P15.2
	for passed, want := range map[int]int64{0: 100, 1: 66, 2: 33, 3: 0, 4: 0, 9: 0, 480: 0, 481: 0, 1 << 40: 0, math.MaxInt: 0} {
		leftIs(t, 100, 3, passed, want, api.OK)
	}
	leftIs(t, 1, 2, 0, 1, api.OK)
	leftIs(t, 1, 2, 1, 0, api.OK)
	leftIs(t, minor, 1, 0, minor, api.OK)
	leftIs(t, minor, 1, 1, 0, api.OK)
	leftIs(t, minor, 3, 1, 6666666666666, api.OK)
	leftIs(t, minor, allMonths, 479, 20833333333, api.OK)
	leftIs(t, minor, allMonths, math.MaxInt, 0, api.OK)
}

// TestLeftFollowsTheSchedule: month by month, what is owed falls by the plan's amount.
func TestLeftFollowsTheSchedule(t *testing.T) { // P15.2
	for _, principal := range principals() {
		for _, months := range []int{1, 2, 3, 7, 12, 99, 360, 479, 480} {
			l, _ := loan.Schedule(principal, months)
			owed := principal
			for passed, amount := range l {
				leftIs(t, principal, months, passed, owed, api.OK)
				owed -= amount
			}
			leftIs(t, principal, months, months, 0, api.OK)
			leftIs(t, principal, months, months+1, 0, api.OK)
			leftIs(t, principal, months, math.MaxInt, 0, api.OK)
		}
	}
}

func TestArrears(t *testing.T) { // P15.2
	for _, x := range []struct {
		passed        int
		balance, want int64
	}{
		{1, 80, 14}, {1, 67, 1}, {1, 66, 0}, {1, 65, 0}, {1, 0, 0}, {1, minor, minor - 66}, {0, 100, 0}, {0, 101, 1}, {0, 99, 0},
		{3, 0, 0}, {3, 1, 1}, {3, 100, 100}, {9, 80, 80}, {math.MaxInt, minor, minor}, {math.MaxInt, 0, 0}, {2, 80, 47},
	} {
		arrearsAre(t, 100, 3, x.passed, x.balance, x.want, api.OK)
	}
	arrearsAre(t, minor, 1, 0, minor, 0, api.OK)
	arrearsAre(t, minor, 1, 1, minor, minor, api.OK)
	for _, principal := range principals() {
		for _, months := range []int{1, 2, 12, 480} {
			for passed := range months + 2 {
				left, _ := loan.Left(principal, months, passed)
				for _, balance := range []int64{0, left, minor} {
					arrearsAre(t, principal, months, passed, balance, max(0, balance-left), api.OK)
				}
				if left > 0 {
					arrearsAre(t, principal, months, passed, left-1, 0, api.OK)
				}
				if left < minor {
					arrearsAre(t, principal, months, passed, left+1, 1, api.OK)
				}
			}
		}
	}
}

// outside: numbers that no balance and no payment may be, next to the range and far from it.
func outside() []int64 {
	return []int64{-1, -2, -minor, math.MinInt64, math.MinInt64 + 1, minor + 1, minor + 2, 2 * minor, math.MaxInt64}
}

func wrongMonths() []int {
	return []int{0, -1, -480, math.MinInt, allMonths + 1, allMonths + 2, 1 << 40, math.MaxInt}
}

func TestPlansThatAreNone(t *testing.T) { // P15.1, P15.2
	refused := func(principal int64, months int) {
		t.Helper()
		if l, e := loan.Schedule(principal, months); e != api.ErrArg || len(l) != 0 {
			t.Errorf("Schedule(%d, %d) = %v, error %d", principal, months, l, e)
		}
		for _, passed := range []int{-1, 0, 1, 500} {
			leftIs(t, principal, months, passed, 0, api.ErrArg)
			for _, balance := range []int64{-1, 0, 80, minor, minor + 1} {
				arrearsAre(t, principal, months, passed, balance, 0, api.ErrArg)
			}
		}
	}
	for _, principal := range append(outside(), 0) {
		for _, months := range append(wrongMonths(), 1, 3, allMonths) {
			refused(principal, months)
		}
	}
	for _, months := range wrongMonths() {
		for _, principal := range []int64{1, 100, minor} {
			refused(principal, months)
		}
	}
}

func TestLeftAndArrearsErrors(t *testing.T) { // P15.2
	for _, passed := range []int{-1, -2, -480, math.MinInt} {
		leftIs(t, 100, 3, passed, 0, api.ErrArg)
		leftIs(t, minor, allMonths, passed, 0, api.ErrArg)
		for _, balance := range append(outside(), 0, 80, minor) {
			arrearsAre(t, 100, 3, passed, balance, 0, api.ErrArg)
		}
	}
	for _, balance := range outside() {
		for _, passed := range []int{0, 1, 3, 9, math.MaxInt} {
			arrearsAre(t, 100, 3, passed, balance, 0, api.ErrArg)
		}
	}
}

func paysParts(t *testing.T, payment, fees, interest, principal int64, want loan.Parts) {
	t.Helper()
	if got, e := loan.Pays(payment, fees, interest, principal); got != want || e != api.OK {
		t.Errorf("Pays(%d, %d, %d, %d) = %v, error %d; want %v", payment, fees, interest, principal, got, e, want)
	}
}

func TestPaysExamples(t *testing.T) { // P15.3
	parts := func(fees, interest, principal, rest int64) loan.Parts {
		return loan.Parts{Fees: fees, Interest: interest, Principal: principal, Rest: rest}
	}
	paysParts(t, 50, 10, 5, 100, parts(10, 5, 35, 0))
	paysParts(t, 50, 0, 0, 20, parts(0, 0, 20, 30))
	paysParts(t, 9, 10, 5, 100, parts(9, 0, 0, 0))
	paysParts(t, 10, 10, 5, 100, parts(10, 0, 0, 0))
	paysParts(t, 11, 10, 5, 100, parts(10, 1, 0, 0))
	paysParts(t, 15, 10, 5, 100, parts(10, 5, 0, 0))
	paysParts(t, 16, 10, 5, 100, parts(10, 5, 1, 0))
	paysParts(t, 115, 10, 5, 100, parts(10, 5, 100, 0))
	paysParts(t, 116, 10, 5, 100, parts(10, 5, 100, 1))
	paysParts(t, 0, 10, 5, 100, parts(0, 0, 0, 0))
	paysParts(t, 50, 0, 0, 0, parts(0, 0, 0, 50))
	paysParts(t, 0, 0, 0, 0, parts(0, 0, 0, 0))
	paysParts(t, minor, minor, minor, minor, parts(minor, 0, 0, 0))
	paysParts(t, minor, 0, minor, minor, parts(0, minor, 0, 0))
	paysParts(t, minor, 0, 0, minor, parts(0, 0, minor, 0))
	paysParts(t, minor, 0, 0, 0, parts(0, 0, 0, minor))
	paysParts(t, minor, 1, 1, minor, parts(1, 1, minor-2, 0))
	paysParts(t, minor-1, minor, 0, 0, parts(minor-1, 0, 0, 0))
}

// TestPaysUnitByUnit: each unit goes to the first of the three that is not paid yet.
func TestPaysUnitByUnit(t *testing.T) { // P15.3
	for payment := range int64(16) {
		for fees := range int64(6) {
			for interest := range int64(6) {
				for principal := range int64(6) {
					var want loan.Parts
					for range payment {
						switch {
						case want.Fees < fees:
							want.Fees++
						case want.Interest < interest:
							want.Interest++
						case want.Principal < principal:
							want.Principal++
						default:
							want.Rest++
						}
					}
					paysParts(t, payment, fees, interest, principal, want)
				}
			}
		}
	}
}

func TestPaysAddsUp(t *testing.T) { // P15.3
	edges := []int64{0, 1, 2, 500, minor/2 - 1, minor / 2, minor/2 + 1, minor - 1, minor}
	for _, payment := range edges {
		for _, fees := range edges {
			for _, interest := range edges {
				for _, principal := range edges {
					p, e := loan.Pays(payment, fees, interest, principal)
					if e != api.OK || p.Fees+p.Interest+p.Principal+p.Rest != payment {
						t.Fatalf("Pays(%d, %d, %d, %d) = %v, error %d", payment, fees, interest, principal, p, e)
					}
					if min(p.Fees, p.Interest, p.Principal, p.Rest) < 0 || p.Fees > fees || p.Interest > interest || p.Principal > principal {
						t.Fatalf("Pays(%d, %d, %d, %d) = %v", payment, fees, interest, principal, p)
					}
					if p.Interest > 0 && p.Fees < fees || p.Principal > 0 && p.Interest < interest || p.Rest > 0 && p.Principal < principal {
						t.Fatalf("Pays(%d, %d, %d, %d) = %v: not in order", payment, fees, interest, principal, p)
					}
				}
			}
		}
	}
}

func TestPaysErrors(t *testing.T) { // P15.3
	for _, wrong := range outside() {
		for place := range 4 {
			for _, right := range []int64{0, 10, minor} {
				n := [4]int64{right, right, right, right}
				n[place] = wrong
				if p, e := loan.Pays(n[0], n[1], n[2], n[3]); e != api.ErrArg || p != (loan.Parts{}) {
					t.Errorf("Pays(%v) = %v, error %d", n, p, e)
				}
			}
		}
		if p, e := loan.Pays(wrong, wrong, wrong, wrong); e != api.ErrArg || p != (loan.Parts{}) {
			t.Errorf("Pays(%d, four times) = %v, error %d", wrong, p, e)
		}
	}
}
