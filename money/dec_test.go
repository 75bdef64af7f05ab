package money_test

import (
	"math"
	"math/big"
	"math/rand"
	"testing"

	"passbook/api"
	"passbook/money"
)

var (
	greatest = api.Dec{Hi: math.MaxInt64, Lo: math.MaxUint64}
	least    = api.Dec{Hi: math.MinInt64, Lo: 1}
)

func at(x api.Dec, scale int) api.Dec {
	x.Scale = scale
	return x
}

func wrongDecs() []api.Dec {
	outside := api.Dec{Hi: math.MinInt64}
	return []api.Dec{outside, at(outside, 2), at(outside, 18), {Scale: -1}, {Lo: 100, Scale: 19}, at(greatest, 19), {Scale: math.MaxInt}, {Scale: math.MinInt}}
}

func power(n int) *big.Int { return new(big.Int).Exp(big.NewInt(10), big.NewInt(int64(n)), nil) }

// wantOf takes of the two neighbours among the minor units the one that the mode names.
func wantOf(x api.Dec, cur, mode int) (api.Money, api.Errno) {
	n := new(big.Int).Lsh(big.NewInt(x.Hi), 64)
	n.Add(n, new(big.Int).SetUint64(x.Lo)).Mul(n, power(digitsOf(cur)))
	below, rest := new(big.Int).DivMod(n, power(x.Scale), new(big.Int))
	if rest.Sign() != 0 && takesAbove(below, rest.Lsh(rest, 1).Cmp(power(x.Scale)), mode) {
		below.Add(below, big.NewInt(1))
	}
	if below.CmpAbs(power(13)) > 0 {
		return api.Money{}, api.ErrRange
	}
	return m(cur, below.Int64()), api.OK
}

// takesAbove: half tells whether the number lies below, at or above the middle
// between its neighbours, of which the lower one is below.
func takesAbove(below *big.Int, half, mode int) bool {
	negative := below.Sign() < 0
	switch mode {
	case api.Down:
		return negative
	case api.Up:
		return !negative
	case api.Floor:
		return false
	case api.Ceil:
		return true
	}
	if half != 0 {
		return half > 0
	}
	switch mode {
	case api.HalfUp:
		return !negative
	case api.HalfDown:
		return negative
	}
	return below.Bit(0) == 1
}

func checkOf(t *testing.T, x api.Dec, cur, mode int) {
	t.Helper()
	got, e := money.Of(x, cur, mode)
	want, wantE := wantOf(x, cur, mode)
	if got != want || e != wantE {
		t.Fatalf("Of(%v, %d, %d) = %v, error %d; want %v, error %d", x, cur, mode, got, e, want, wantE)
	}
}

func TestOfExamples(t *testing.T) { // P5.3
	x, e := money.Of(d(1005, 3), api.EUR, api.HalfEven)
	same(t, "Of(1.005, EUR, HalfEven)", x, m(api.EUR, 100), e, api.OK)
	for mode, want := range []int64{100, 101, 100, 101, 101, 100, 100} {
		x, e = money.Of(d(1005, 3), api.USD, mode)
		same(t, "Of(1.005, USD)", x, m(api.USD, want), e, api.OK)
	}
	for mode, want := range []int64{-1, -2, -2, -1, -2, -1, -2} {
		x, e = money.Of(d(-15, 1), api.JPY, mode)
		same(t, "Of(-1.5, JPY)", x, m(api.JPY, want), e, api.OK)
	}
	for mode := range allModes {
		x, e = money.Of(d(15, 1), api.KWD, mode)
		same(t, "Of(1.5, KWD)", x, m(api.KWD, 1500), e, api.OK)
		x, e = money.Of(d(0, 18), api.KWD, mode)
		same(t, "Of(0, KWD)", x, m(api.KWD, 0), e, api.OK)
	}
}

func TestOfAtTheEnds(t *testing.T) { // P5.3
	for _, cur := range all() {
		own := digitsOf(cur)
		for _, sign := range []int64{1, -1} {
			x, e := money.Of(d(sign*api.MaxMinor, own), cur, api.Up)
			same(t, "Of the end", x, m(cur, sign*api.MaxMinor), e, api.OK)
			x, e = money.Of(d(sign*(api.MaxMinor+1), own), cur, api.Down)
			same(t, "Of beyond the end", x, api.Money{}, e, api.ErrRange)
			// Four tenths of a minor unit beyond the end: only the rounding says whether it is out.
			x, e = money.Of(d(sign*(api.MaxMinor*10+4), own+1), cur, api.HalfEven)
			same(t, "Of, rounded to the end", x, m(cur, sign*api.MaxMinor), e, api.OK)
			x, e = money.Of(d(sign*(api.MaxMinor*10+4), own+1), cur, api.Up)
			same(t, "Of, rounded beyond the end", x, api.Money{}, e, api.ErrRange)
			x, e = money.Of(d(sign*(api.MaxMinor*10+5), own+1), cur, api.HalfEven)
			same(t, "Of a tie at the end", x, m(cur, sign*api.MaxMinor), e, api.OK)
			x, e = money.Of(d(sign*(api.MaxMinor*10-5), own+1), cur, api.HalfUp)
			same(t, "Of a tie ahead of the end", x, m(cur, sign*api.MaxMinor), e, api.OK)
		}
		for mode := range allModes {
			// Rescaled to the currency's digits these have no Dec, or no int64, or both.
			for _, x := range []api.Dec{greatest, least, at(greatest, 1), at(least, 5), d(math.MaxInt64, 0), d(math.MinInt64, 0), {Hi: 1}, {Hi: -1}, {Hi: 1, Lo: 5}, {Hi: 1 << 40, Lo: 7, Scale: own}} {
				got, e := money.Of(x, cur, mode)
				same(t, "Of far beyond the end", got, api.Money{}, e, api.ErrRange)
			}
		}
	}
}

func TestOf(t *testing.T) { // P5.3: decimals of every scale, by every mode
	var decs []api.Dec
	for scale := range api.MaxScale + 1 {
		for _, n := range append(minors(), 5, -5, 15, -15, 25, -25, 1004, 1005, 1006, -2500, 45, 55, math.MaxInt64, math.MinInt64) {
			decs = append(decs, d(n, scale))
		}
		decs = append(decs, at(greatest, scale), at(least, scale))
		half := new(big.Int).Rsh(power(scale), 1).Int64()
		for _, beside := range []int64{-1, 0, 1} {
			decs = append(decs, d(half+beside, scale), d(-half+beside, scale))
		}
	}
	source := rand.New(rand.NewSource(1))
	for range 3000 {
		x := api.Dec{Hi: source.Int63() >> source.Intn(64), Lo: source.Uint64() >> source.Intn(64), Scale: source.Intn(api.MaxScale + 1)}
		if source.Intn(2) == 0 {
			x.Hi = -1
		}
		decs = append(decs, x)
	}
	for _, x := range decs {
		for _, cur := range all() {
			for mode := range allModes {
				checkOf(t, x, cur, mode)
			}
		}
	}
}

func TestOfErrors(t *testing.T) { // P5.3: ErrArg ahead of ErrForm ahead of ErrRange
	decs := append(wrongDecs(), d(1, 0), greatest)
	for _, x := range decs {
		for _, cur := range wrongCurrencies() {
			for _, mode := range []int{api.Down, api.HalfEven, -1, 7} {
				got, e := money.Of(x, cur, mode)
				same(t, "Of no currency", got, api.Money{}, e, api.ErrArg)
			}
		}
		for _, mode := range []int{-1, 7, math.MaxInt, math.MinInt} {
			for _, cur := range all() {
				got, e := money.Of(x, cur, mode)
				same(t, "Of by no mode", got, api.Money{}, e, api.ErrArg)
			}
		}
	}
	for _, x := range wrongDecs() {
		for _, cur := range all() {
			for mode := range allModes {
				got, e := money.Of(x, cur, mode)
				same(t, "Of no decimal", got, api.Money{}, e, api.ErrForm)
			}
		}
	}
}

func TestTo(t *testing.T) { // P5.3
	if got, e := money.To(m(api.KWD, 1500)); got != (api.Dec{Lo: 1500, Scale: 3}) || e != api.OK {
		t.Errorf("To(KWD 1500) = %v, error %d", got, e)
	}
	for _, cur := range all() {
		for _, minor := range minors() {
			got, e := money.To(m(cur, minor))
			if got != d(minor, digitsOf(cur)) || e != api.OK {
				t.Errorf("To(%d of %d) = %v, error %d", minor, cur, got, e)
			}
			for mode := range allModes {
				back, e := money.Of(got, cur, mode)
				same(t, "Of(To)", back, m(cur, minor), e, api.OK)
			}
		}
	}
	for _, x := range malformed() {
		if got, e := money.To(x); got != (api.Dec{}) || e != api.ErrForm {
			t.Errorf("To(%v) = %v, error %d", x, got, e)
		}
	}
}
