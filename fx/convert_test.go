package fx_test

import (
	"math/rand"
	"testing"

	"passbook/api"
)

func TestConvertExamples(t *testing.T) { // P16.1
	asked{api.EUR, api.USD, 1100000000, 333}.is(t, 366, 300000000000)
	asked{api.EUR, api.JPY, 160500000000, 101}.is(t, 162, 105000000000)
	asked{api.JPY, api.KWD, 2000000, 7}.is(t, 14, 0)
	asked{api.EUR, api.EUR, 1100000000, 333}.fails(t, api.ErrCur)
	asked{api.JPY, api.KWD, rate, minor}.fails(t, api.ErrRange)
}

// TestConvertOfEachPair: some 12 units, at 1.5.
func TestConvertOfEachPair(t *testing.T) { // P16.1
	const r = 1500000000
	for _, x := range []struct {
		cur, other int
		amount     int64
		got        int64
		parts      uint64
	}{
		{api.EUR, api.USD, 1235, 1852, whole / 2}, // as many digits: 18.525
		{api.USD, api.EUR, 1235, 1852, whole / 2},
		{api.EUR, api.JPY, 1235, 18, 525000000000}, // fewer
		{api.USD, api.JPY, 1235, 18, 525000000000},
		{api.KWD, api.JPY, 12345, 18, 517500000000},
		{api.KWD, api.EUR, 12345, 1851, 750000000000},
		{api.KWD, api.USD, 12345, 1851, 750000000000},
		{api.JPY, api.EUR, 12, 1800, 0}, // more
		{api.JPY, api.USD, 12, 1800, 0},
		{api.JPY, api.KWD, 12, 18000, 0},
		{api.EUR, api.KWD, 1235, 18525, 0},
		{api.USD, api.KWD, 1235, 18525, 0},
	} {
		asked{x.cur, x.other, r, x.amount}.is(t, x.got, x.parts)
		asked{x.cur, x.other, r, x.amount}.addsUp(t)
	}
}

func TestConvertOfOneCurrency(t *testing.T) { // P16.1
	for _, cur := range all() {
		for _, r := range []int64{1, one - 1, one, one + 1} {
			asked{cur, cur, r, 1}.fails(t, api.ErrCur)
			asked{cur, cur, r, 333}.fails(t, api.ErrCur)
		}
		asked{cur, cur, rate, 1}.fails(t, api.ErrCur)
		asked{cur, cur, 1, minor}.fails(t, api.ErrCur)
		asked{cur, cur, one, minor}.fails(t, api.ErrCur) // worth just MaxMinor
		// Worth more than that: ErrRange has the lesser number.
		asked{cur, cur, one + 1, minor}.fails(t, api.ErrRange)
		asked{cur, cur, rate, minor}.fails(t, api.ErrRange)
		asked{cur, cur, rate, minor / 1000}.fails(t, api.ErrCur)
		asked{cur, cur, rate, minor/1000 + 1}.fails(t, api.ErrRange)
	}
}

func TestConvertAtTheEndsOfRateAndAmount(t *testing.T) { // P16.1
	for _, x := range []struct {
		cur, other   int
		rate, amount int64
		got          int64
		parts        uint64
	}{
		{api.EUR, api.USD, 1, 1, 0, 1000},
		{api.EUR, api.JPY, 1, 1, 0, 10},
		{api.EUR, api.KWD, 1, 1, 0, 10000},
		{api.JPY, api.EUR, 1, 1, 0, 100000},
		{api.JPY, api.KWD, 1, 1, 0, 1000000},
		{api.KWD, api.EUR, 1, 1, 0, 100},
		{api.KWD, api.JPY, 1, 1, 0, 1}, // the least residue
		{api.EUR, api.USD, rate, 1, 1000, 0},
		{api.EUR, api.JPY, rate, 1, 10, 0},
		{api.EUR, api.KWD, rate, 1, 10000, 0},
		{api.JPY, api.EUR, rate, 1, 100000, 0},
		{api.JPY, api.KWD, rate, 1, 1000000, 0},
		{api.KWD, api.EUR, rate, 1, 100, 0},
		{api.KWD, api.JPY, rate, 1, 1, 0},
		{api.EUR, api.USD, 1, minor, 10000, 0},
		{api.EUR, api.JPY, 1, minor, 100, 0},
		{api.EUR, api.KWD, 1, minor, 100000, 0},
		{api.JPY, api.EUR, 1, minor, 1000000, 0},
		{api.JPY, api.KWD, 1, minor, 10000000, 0},
		{api.KWD, api.EUR, 1, minor, 1000, 0},
		{api.KWD, api.JPY, 1, minor, 10, 0},
		{api.KWD, api.JPY, rate, minor, minor, 0}, // a thousand for one, of thousandths
	} {
		asked{x.cur, x.other, x.rate, x.amount}.is(t, x.got, x.parts)
	}
	for _, cur := range all() {
		for _, other := range all() {
			for _, r := range []int64{1, 2, one, rate - 1, rate} {
				for _, n := range []int64{1, 2, minor - 1, minor} {
					asked{cur, other, r, n}.isTrue(t)
				}
			}
		}
	}
}

// TestConvertAboutNothing: what is got is 0, and the first unit.
func TestConvertAboutNothing(t *testing.T) { // P16.1
	asked{api.EUR, api.USD, one - 1, 1}.is(t, 0, 999999999000)
	asked{api.EUR, api.USD, one, 1}.is(t, 1, 0)
	asked{api.EUR, api.USD, one + 1, 1}.is(t, 1, 1000)
	asked{api.EUR, api.JPY, one, 99}.is(t, 0, 990000000000)
	asked{api.EUR, api.JPY, one, 100}.is(t, 1, 0)
	asked{api.EUR, api.JPY, one, 101}.is(t, 1, 10000000000)
	asked{api.KWD, api.JPY, one, 999}.is(t, 0, 999000000000)
	asked{api.KWD, api.JPY, one, 1000}.is(t, 1, 0)
	asked{api.JPY, api.KWD, 999999, 1}.is(t, 0, 999999000000)
	asked{api.JPY, api.KWD, 1000000, 1}.is(t, 1, 0)
	asked{api.JPY, api.EUR, 9999999, 1}.is(t, 0, 999999900000)
	asked{api.JPY, api.EUR, 10000000, 1}.is(t, 1, 0)
}

// TestConvertAboutTheGreatestAnswer: a residue above MaxMinor is no unit more.
func TestConvertAboutTheGreatestAnswer(t *testing.T) { // P16.1
	asked{api.EUR, api.USD, one, minor}.is(t, minor, 0)
	asked{api.EUR, api.USD, one, minor - 1}.is(t, minor-1, 0)
	asked{api.EUR, api.USD, one - 1, minor}.is(t, minor-10000, 0)
	asked{api.EUR, api.USD, one + 1, minor}.fails(t, api.ErrRange)
	asked{api.USD, api.EUR, 2 * one, minor / 2}.is(t, minor, 0)
	asked{api.USD, api.EUR, 2 * one, minor/2 + 1}.fails(t, api.ErrRange)
	asked{api.JPY, api.KWD, one, minor / 1000}.is(t, minor, 0)
	asked{api.JPY, api.KWD, one, minor/1000 + 1}.fails(t, api.ErrRange)
	asked{api.JPY, api.EUR, rate, minor / 100000}.is(t, minor, 0)
	asked{api.JPY, api.EUR, rate, minor/100000 + 1}.fails(t, api.ErrRange)
	asked{api.EUR, api.KWD, one, minor / 10}.is(t, minor, 0)
	asked{api.EUR, api.KWD, one, minor/10 + 1}.fails(t, api.ErrRange)
	asked{api.KWD, api.JPY, rate, minor}.is(t, minor, 0)
	asked{api.KWD, api.EUR, 10 * one, minor}.is(t, minor, 0)
	asked{api.KWD, api.EUR, 10*one + 1, minor}.fails(t, api.ErrRange)
	asked{api.EUR, api.JPY, 100 * one, minor}.is(t, minor, 0)
	asked{api.EUR, api.JPY, 100*one + 1, minor}.fails(t, api.ErrRange)
	// Steps of a little more than a unit: the one that comes to MaxMinor has a residue, and the next is one above it.
	asked{api.EUR, api.USD, one + 1, 9999999990000}.is(t, minor-1, 999990000000)
	asked{api.EUR, api.USD, one + 1, 9999999990001}.is(t, minor, 999990001000)
	asked{api.EUR, api.USD, one + 1, 9999999990002}.fails(t, api.ErrRange)
}

// TestConvertAboutMaxMinor: of each pair, the amounts whose worth lies next to it.
func TestConvertAboutMaxMinor(t *testing.T) { // P16.1
	for _, r := range []int64{1, 3, one / 7, one - 1, one, one + 1, 7 * one, 160500000000, rate - 1, rate} {
		for _, cur := range all() {
			for _, other := range all() {
				above, below := ten(13+9+digitsOf(cur)), product(r)
				about, _ := quotient(above, below.Mul(below, ten(digitsOf(other))))
				if about.Cmp(ten(13)) > 0 {
					continue // no amount is worth so much
				}
				for off := int64(-2); off <= 2; off++ {
					if n := about.Int64() + off; n >= 1 && n <= minor {
						asked{cur, other, r, n}.isTrue(t)
					}
				}
			}
		}
	}
}

func TestConvertResidues(t *testing.T) { // P16.1
	// The least one that isn't 0: a thousandth at a billionth.
	asked{api.KWD, api.JPY, 1, 1}.is(t, 0, 1)
	asked{api.KWD, api.JPY, 1000000001, 1000001}.is(t, 1000, 1001000001)
	// The greatest one: all of a unit but the least part.
	asked{api.KWD, api.JPY, 999999999999, 1}.is(t, 0, whole-1)
	asked{api.KWD, api.JPY, 1, 999999999999}.is(t, 0, whole-1)
	asked{api.KWD, api.JPY, 1, whole}.is(t, 1, 0)
	asked{api.KWD, api.JPY, 1, whole + 1}.is(t, 1, 1)
	asked{api.KWD, api.JPY, 1, minor - 1}.is(t, 9, whole-1)
	// The greatest one of the other pairs, whose least parts are greater.
	asked{api.EUR, api.USD, 999999999, 1}.is(t, 0, whole-1000)
	asked{api.EUR, api.JPY, 99999999999, 1}.is(t, 0, whole-10)
	asked{api.KWD, api.EUR, 9999999999, 1}.is(t, 0, whole-100)
	asked{api.EUR, api.KWD, 99999999, 1}.is(t, 0, whole-10000)
	asked{api.JPY, api.EUR, 9999999, 1}.is(t, 0, whole-100000)
	asked{api.JPY, api.KWD, 999999, 1}.is(t, 0, whole-1000000)
}

// TestConvertLosesNothing: what is got and the residue are together the worth.
func TestConvertLosesNothing(t *testing.T) { // P16.1, P3
	source := rand.New(rand.NewSource(161))
	answered := 0
	for range 30000 {
		a := asked{source.Intn(4), source.Intn(4), some(source, rate), some(source, minor)}
		a.isTrue(t)
		if a.cur != a.other && a.truth().Cmp(asked{api.EUR, api.USD, one, minor}.truth()) <= 0 {
			a.addsUp(t)
			answered++
		}
	}
	if answered < 5000 {
		t.Errorf("only %d were answered", answered)
	}
}

func TestConvertErrors(t *testing.T) { // P16.1
	for _, r := range notWithin(rate) {
		asked{api.EUR, api.USD, r, 333}.fails(t, api.ErrArg)
	}
	for _, n := range notWithin(minor) {
		asked{api.EUR, api.USD, one, n}.fails(t, api.ErrArg)
	}
	for _, wrong := range wrongCurrencies() {
		for _, cur := range all() {
			asked{wrong, cur, one, 333}.fails(t, api.ErrArg)
			asked{cur, wrong, one, 333}.fails(t, api.ErrArg)
		}
	}
}

// TestConvertAnswersTheLeastError: ErrArg goes ahead of too great a worth, and of a currency and itself.
func TestConvertAnswersTheLeastError(t *testing.T) { // P16.1
	for _, wrong := range wrongCurrencies() {
		for _, cur := range append(all(), wrongCurrencies()...) {
			for _, r := range append(notWithin(rate), 1, one, rate) {
				for _, n := range []int64{0, 1, minor, minor + 1, -minor} {
					asked{wrong, cur, r, n}.fails(t, api.ErrArg)
					asked{cur, wrong, r, n}.fails(t, api.ErrArg)
				}
			}
		}
	}
	for _, cur := range all() {
		for _, other := range all() {
			for _, r := range notWithin(rate) {
				for _, n := range append(notWithin(minor), 1, 333, minor) {
					asked{cur, other, r, n}.fails(t, api.ErrArg)
				}
			}
			for _, n := range notWithin(minor) {
				for _, r := range []int64{1, one, rate} {
					asked{cur, other, r, n}.fails(t, api.ErrArg)
				}
			}
		}
	}
}
