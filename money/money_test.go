package money_test

import (
	"math"
	"testing"

	"passbook/api"
	"passbook/money"
)

const allModes = 7

func all() []int { return []int{api.EUR, api.USD, api.JPY, api.KWD} }

func wrongCurrencies() []int { return []int{-1, 4, 5, 1 << 32, math.MaxInt, math.MinInt} }

func m(cur int, minor int64) api.Money { return api.Money{Cur: cur, Minor: minor} }

func d(n int64, scale int) api.Dec { return api.Dec{Hi: n >> 63, Lo: uint64(n), Scale: scale} }

func digitsOf(cur int) int { return []int{2, 2, 0, 3}[cur] }

func nameOf(cur int) string { return []string{"EUR", "USD", "JPY", "KWD"}[cur] }

// minors: amounts about nought, about the borders of units, and about both ends.
func minors() []int64 {
	sizes := []int64{0, 1, 2, 5, 9, 10, 49, 50, 99, 100, 101, 999, 1000, 1001, 123456789, 5000000000000, api.MaxMinor - 1, api.MaxMinor}
	var out []int64
	for _, n := range sizes {
		out = append(out, n, -n)
	}
	return out
}

// malformed: each way in which a Money is not in form.
func malformed() []api.Money {
	list := []api.Money{m(-1, api.MaxMinor+1), m(4, math.MinInt64)}
	for _, cur := range wrongCurrencies() {
		list = append(list, m(cur, 0), m(cur, 100))
	}
	for _, cur := range all() {
		for _, minor := range []int64{api.MaxMinor + 1, -api.MaxMinor - 1, math.MaxInt64, math.MinInt64, -math.MaxInt64} {
			list = append(list, m(cur, minor))
		}
	}
	return list
}

func same(t *testing.T, what string, got, want api.Money, e, wantE api.Errno) {
	t.Helper()
	if got != want || e != wantE {
		t.Errorf("%s = %v, error %d; want %v, error %d", what, got, e, want, wantE)
	}
}

func sameOrder(t *testing.T, a, b api.Money, want int, wantE api.Errno) {
	t.Helper()
	if got, e := money.Cmp(a, b); got != want || e != wantE {
		t.Errorf("Cmp(%v, %v) = %d, error %d; want %d, error %d", a, b, got, e, want, wantE)
	}
}

func TestDigits(t *testing.T) { // P5.1
	for _, cur := range all() {
		if got, e := money.Digits(cur); got != digitsOf(cur) || e != api.OK {
			t.Errorf("Digits(%d) = %d, error %d", cur, got, e)
		}
	}
	for _, cur := range wrongCurrencies() {
		if got, e := money.Digits(cur); got != 0 || e != api.ErrArg {
			t.Errorf("Digits(%d) = %d, error %d", cur, got, e)
		}
	}
}

func TestCheck(t *testing.T) { // P5.1
	for _, cur := range all() {
		for _, minor := range minors() {
			if e := money.Check(m(cur, minor)); e != api.OK {
				t.Errorf("Check(%d of %d) = %d", minor, cur, e)
			}
		}
	}
	for _, x := range malformed() {
		if e := money.Check(x); e != api.ErrForm {
			t.Errorf("Check(%v) = %d", x, e)
		}
	}
}

func TestSumExamples(t *testing.T) { // P5.1
	x, e := money.Add(m(api.EUR, 1), m(api.USD, 1))
	same(t, "Add(EUR 1, USD 1)", x, api.Money{}, e, api.ErrCur)
	x, e = money.Add(m(api.EUR, api.MaxMinor), m(api.EUR, 1))
	same(t, "Add(EUR 10^13, EUR 1)", x, api.Money{}, e, api.ErrRange)
	x, e = money.Add(m(api.KWD, 1500), m(api.KWD, -2000))
	same(t, "Add(KWD 1.500, KWD -2.000)", x, m(api.KWD, -500), e, api.OK)
	x, e = money.Sub(m(api.JPY, 12), m(api.JPY, 30))
	same(t, "Sub(JPY 12, JPY 30)", x, m(api.JPY, -18), e, api.OK)
	sameOrder(t, m(api.USD, -1), m(api.USD, 1), -1, api.OK)
	sameOrder(t, m(api.USD, 7), m(api.USD, 7), 0, api.OK)
	sameOrder(t, m(api.USD, 8), m(api.USD, 7), 1, api.OK)
}

// wantSum: two amounts in range are far from the ends of an int64, so is their sum.
func wantSum(cur int, minor int64) (api.Money, api.Errno) {
	if minor > 10000000000000 || minor < -10000000000000 {
		return api.Money{}, api.ErrRange
	}
	return m(cur, minor), api.OK
}

func wantOrder(a, b int64) int {
	switch {
	case a < b:
		return -1
	case a > b:
		return 1
	}
	return 0
}

func TestSums(t *testing.T) { // P5.1
	for _, cur := range all() {
		for _, a := range minors() {
			for _, b := range minors() {
				got, e := money.Add(m(cur, a), m(cur, b))
				want, wantE := wantSum(cur, a+b)
				same(t, "Add", got, want, e, wantE)
				got, e = money.Sub(m(cur, a), m(cur, b))
				want, wantE = wantSum(cur, a-b)
				same(t, "Sub", got, want, e, wantE)
				sameOrder(t, m(cur, a), m(cur, b), wantOrder(a, b), api.OK)
			}
		}
	}
}

func TestUnlikeCurrencies(t *testing.T) { // P5.1: amounts of nought and sums beyond the ends, too
	for _, c := range all() {
		for _, c2 := range all() {
			if c == c2 {
				continue
			}
			for _, a := range minors() {
				for _, b := range []int64{0, a, -a, api.MaxMinor, -api.MaxMinor} {
					got, e := money.Add(m(c, a), m(c2, b))
					same(t, "Add", got, api.Money{}, e, api.ErrCur)
					got, e = money.Sub(m(c, a), m(c2, b))
					same(t, "Sub", got, api.Money{}, e, api.ErrCur)
					sameOrder(t, m(c, a), m(c2, b), 0, api.ErrCur)
				}
			}
		}
	}
}

func TestMalformedOnEitherSide(t *testing.T) { // P5.1: ErrForm ahead of ErrRange and ErrCur
	for _, x := range malformed() {
		for _, y := range []api.Money{m(api.EUR, 1), m(api.USD, api.MaxMinor), m(api.JPY, -api.MaxMinor), m(api.KWD, 0), x} {
			for _, pair := range [][2]api.Money{{x, y}, {y, x}} {
				got, e := money.Add(pair[0], pair[1])
				same(t, "Add", got, api.Money{}, e, api.ErrForm)
				got, e = money.Sub(pair[0], pair[1])
				same(t, "Sub", got, api.Money{}, e, api.ErrForm)
				sameOrder(t, pair[0], pair[1], 0, api.ErrForm)
			}
		}
	}
}
