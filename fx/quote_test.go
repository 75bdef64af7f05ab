package fx_test

import (
	"math"
	"math/rand"
	"testing"

	"passbook/api"
)

func TestQuoteExamples(t *testing.T) { // P16.2
	quoteIs(t, one, 5000, 995000000, 1005000000)
	quoteFails(t, 1, 1, api.ErrRange)
	quoteIs(t, 160500000000, 2500, 160098750000, 160901250000)
}

func TestQuoteBySpreads(t *testing.T) { // P16.2
	for _, r := range []int64{1, 2, 999999, 1000000, one, rate - 1, rate} {
		quoteFails(t, r, -1, api.ErrArg)
		quoteIs(t, r, 0, r, r)
		quoteFails(t, r, 1000000, api.ErrArg)
		for _, spread := range []int{1, 2, 499999, 500000, 500001, 999998, 999999} {
			quoteIsTrue(t, r, spread)
		}
	}
	quoteIs(t, one, 1, 999999000, 1000001000)
	quoteIs(t, one, 999999, 1000, 1999999000)
	quoteIs(t, 1000000, 1, 999999, 1000001)
	quoteIs(t, 1000000, 999999, 1, 1999999)
}

// TestQuoteRoundsAgainstTheOther: down where the bank buys, up where it sells, whatever the part is.
func TestQuoteRoundsAgainstTheOther(t *testing.T) { // P16.2
	quoteIs(t, 2, 1, 1, 3)
	quoteIs(t, 3, 333333, 2, 4)             // 2.000001, 3.999999
	quoteIs(t, 3, 333334, 1, 5)             // 1.999998, 4.000002
	quoteIs(t, 1000001, 1, 999999, 1000003) // 999999.999999, 1000002.000001
	quoteIs(t, 999999, 1, 999998, 1000000)  // 999998.000001, 999999.999999
	quoteIs(t, 5, 500000, 2, 8)             // halves
	quoteIs(t, 7, 500000, 3, 11)
	quoteIs(t, 4, 500000, 2, 6) // nothing to round
}

func TestQuoteAboutTheLeastRate(t *testing.T) { // P16.2
	quoteIs(t, 1, 0, 1, 1)
	quoteFails(t, 1, 999999, api.ErrRange)
	quoteIs(t, 2, 500000, 1, 3)
	quoteFails(t, 2, 500001, api.ErrRange)
	quoteIs(t, 3, 666666, 1, 5) // 1.000002
	quoteFails(t, 3, 666667, api.ErrRange)
	quoteIs(t, 1000000, 999999, 1, 1999999)
	quoteFails(t, 999999, 999999, api.ErrRange)
	quoteIs(t, 500000, 999998, 1, 999999)
	quoteFails(t, 499999, 999998, api.ErrRange)
}

func TestQuoteAboutTheGreatestRate(t *testing.T) { // P16.2
	quoteIs(t, rate, 0, rate, rate)
	quoteFails(t, rate, 1, api.ErrRange)
	quoteFails(t, rate, 999999, api.ErrRange)
	quoteIs(t, rate-1, 0, rate-1, rate-1)
	quoteFails(t, rate-1, 1, api.ErrRange)
	quoteIs(t, rate/2, 999999, 500000, 999999500000)
	quoteIs(t, 800000000000, 250000, 600000000000, rate) // just MaxRate
	quoteFails(t, 800000000001, 250000, api.ErrRange)    // 1.25 above it
	quoteFails(t, 800000000000, 250001, api.ErrRange)
	quoteIs(t, 999999000000, 1, 999998000001, 999999999999)
	quoteFails(t, 999999000001, 1, api.ErrRange) // 10^12 and a millionth: rounded up to one above it
	quoteIs(t, 999997000007, 3, 999994000015, 999999999999)
	quoteIs(t, 999997000008, 3, 999994000016, rate) // rounded up to just MaxRate
	quoteFails(t, 999997000009, 3, api.ErrRange)
}

func TestQuoteIsTheTrueNumber(t *testing.T) { // P16.2, P3
	source := rand.New(rand.NewSource(162))
	for range 20000 {
		quoteIsTrue(t, some(source, rate), source.Intn(1000000))
		quoteIsTrue(t, some(source, rate), int(some(source, 999999)))
		quoteIsTrue(t, rate-some(source, rate/2), int(some(source, 999999)))
	}
}

func TestQuoteErrors(t *testing.T) { // P16.2: ErrArg ahead of ErrRange
	wrongSpreads := []int{-1, -2, -1000000, 1000000, 1000001, 1 << 40, math.MinInt, math.MaxInt}
	for _, r := range notWithin(rate) {
		for _, spread := range append(wrongSpreads, 0, 1, 5000, 999999) {
			quoteFails(t, r, spread, api.ErrArg)
		}
	}
	for _, spread := range wrongSpreads {
		for _, r := range []int64{1, one, rate} {
			quoteFails(t, r, spread, api.ErrArg)
		}
	}
}

func TestCross(t *testing.T) { // P16.2
	crossIs(t, 2*one, one/2, one, api.OK)
	crossIs(t, one, one, one, api.OK)
	crossIs(t, 1100000000, 160500000000, 176550000000, api.OK)
	crossIs(t, 3, 333333334, 1, api.OK)  // 1.000000002
	crossIs(t, 1999999999, 1, 1, api.OK) // rounded down, not to the nearest
	crossIs(t, 1999999999, 1999999999, 3999999996, api.OK)
	for _, r := range []int64{1, 2, 999999999, one, one + 1, rate - 1, rate} {
		crossIs(t, r, one, r, api.OK) // one for one changes nothing
	}
}

func TestCrossAboutTheLeastRate(t *testing.T) { // P16.2
	crossIs(t, 1, 1, 0, api.ErrRange)
	crossIs(t, 1, one-1, 0, api.ErrRange)
	crossIs(t, 1, one, 1, api.OK)
	crossIs(t, 1, one+1, 1, api.OK)
	crossIs(t, 1, rate, 1000, api.OK)
	crossIs(t, 31622, 31622, 0, api.ErrRange)
	crossIs(t, 31623, 31623, 1, api.OK)
	crossIs(t, 999999999, 1, 0, api.ErrRange)
	crossIs(t, 500000000, 2, 1, api.OK)
	crossIs(t, 499999999, 2, 0, api.ErrRange)
}

func TestCrossAboutTheGreatestRate(t *testing.T) { // P16.2
	crossIs(t, rate, rate, 0, api.ErrRange) // 10^15: its product is above 64 bits
	crossIs(t, rate, one, rate, api.OK)
	crossIs(t, rate, one-1, rate-1000, api.OK)
	crossIs(t, rate, one+1, 0, api.ErrRange)
	crossIs(t, rate-1, one+1, 0, api.ErrRange)            // 10^12 + 998.999999999
	crossIs(t, 999999999000, one+1, 999999999999, api.OK) // 999999999999.999999
	crossIs(t, 999999999001, one+1, rate, api.OK)         // 10^12 and a part
	crossIs(t, 999999999002, one+1, 0, api.ErrRange)      // 10^12 + 1 and a part
	crossIs(t, 10*one, 100*one, rate, api.OK)
	crossIs(t, 10*one+1, 100*one, 0, api.ErrRange)
	crossIs(t, 10*one, 100*one+1, 0, api.ErrRange)
	crossIs(t, rate, 18446744, 18446744000, api.OK)
	crossIs(t, rate, 18446745, 18446745000, api.OK) // the product goes beyond 2^64
	crossIs(t, rate, 9223373, 9223373000, api.OK)   // and this one beyond 2^63
}

func TestCrossIsTheTrueNumber(t *testing.T) { // P16.2, P3
	source := rand.New(rand.NewSource(163))
	for range 20000 {
		a := some(source, rate)
		crossIsTrue(t, a, some(source, rate))
		// About the ends of what is answered: the other one's inverse, and a thousand times that.
		for off := int64(-1); off <= 1; off++ {
			if b := one*one/a + off; b >= 1 && b <= rate {
				crossIsTrue(t, a, b)
			}
			if b := one/a + off; b >= 1 {
				crossIsTrue(t, a, b)
			}
		}
	}
}

func TestCrossErrors(t *testing.T) { // P16.2: ErrArg ahead of ErrRange
	for _, a := range notWithin(rate) {
		for _, b := range append(notWithin(rate), 1, one, rate) {
			crossIs(t, a, b, 0, api.ErrArg)
		}
	}
}
