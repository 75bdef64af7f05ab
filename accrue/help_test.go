package accrue_test

import (
	"math"
	"math/big"
	"slices"
	"testing"

	"passbook/accrue"
	"passbook/api"
	"passbook/basis"
	"passbook/cal"
)

const (
	minor    = 10000000000000      // the greatest balance
	rate     = 1000000000          // the greatest rate: 100 percent
	greatest = 4000000000000000000 // millionths
	lastDay  = 3652059
	someDay  = 738000
)

// tiers: told as a From, a Rate, and so on.
func tiers(numbers ...int64) []api.Tier {
	var out []api.Tier
	for pair := range slices.Chunk(numbers, 2) {
		out = append(out, api.Tier{From: pair[0], Rate: pair[1]})
	}
	return out
}

// rising: so many tiers that are in form.
func rising(count int) []api.Tier {
	var out []api.Tier
	for i := range int64(count) {
		out = append(out, api.Tier{From: i * 100, Rate: 7 * (i + 1)})
	}
	return out
}

// malformed: tiers that are out of form, in each of the ways that chapter 12 names.
func malformed() [][]api.Tier {
	return [][]api.Tier{
		nil, {}, tiers(1, 5), tiers(-1, 5), tiers(minor, 5), // no tiers; the first From
		tiers(0, 5, 0, 6), tiers(0, 5, -1, 6), tiers(0, 5, 9, 6, 9, 7), tiers(0, 5, 9, 6, 8, 7), tiers(0, 5, 9, 6, math.MinInt64, 7),
		tiers(0, 5, minor+1, 6), tiers(0, 5, 9, 6, math.MaxInt64, 7),
		tiers(0, -1), tiers(0, rate+1), tiers(0, 5, 9, -1), tiers(0, 5, 9, rate+1), tiers(0, math.MinInt64), tiers(0, 5, 9, math.MaxInt64),
	}
}

// tooMany: tiers of which there are too many, in form otherwise and not.
func tooMany() [][]api.Tier {
	first, rates := rising(9), rising(9)
	first[0].From, rates[8].Rate = 1, -1
	return [][]api.Tier{rising(9), rising(10), rising(100), first, rates, make([]api.Tier, 9)}
}

// notWithin: numbers outside 0 .. top, next to it and far from it.
func notWithin(top int64) []int64 {
	return []int64{-1, -2, -top, math.MinInt64, math.MinInt64 + 1, top + 1, top + 2, 2*top + 1, math.MaxInt64 - 1, math.MaxInt64}
}

func date(t *testing.T, text string) int {
	t.Helper()
	n, e := cal.Parse(text)
	if e != api.OK {
		t.Fatalf("%s: error %d", text, e)
	}
	return n
}

func partsAre(t *testing.T, balance int64, l []api.Tier, want ...int64) {
	t.Helper()
	if got, e := accrue.Parts(balance, l); e != api.OK || !slices.Equal(got, want) {
		t.Errorf("Parts(%d, %v) = %v, error %d; want %v", balance, l, got, e, want)
	}
}

func partsFail(t *testing.T, balance int64, l []api.Tier, want api.Errno) {
	t.Helper()
	if got, e := accrue.Parts(balance, l); e != want || len(got) != 0 {
		t.Errorf("Parts(%d, %v) = %v, error %d; want error %d", balance, l, got, e, want)
	}
}

// asked: what Daily is asked.
type asked struct {
	balance   int64
	tiers     []api.Tier
	how, mode int
	from, to  int
}

func (a asked) daily() (int64, api.Errno) {
	return accrue.Daily(a.balance, a.tiers, a.how, a.mode, a.from, a.to)
}

func (a asked) is(t *testing.T, want int64, wantE api.Errno) {
	t.Helper()
	if got, e := a.daily(); got != want || e != wantE {
		t.Errorf("Daily of %v = %d, error %d; want %d, error %d", a, got, e, want, wantE)
	}
}

// truth: the true number, of fractions without bound.
func (a asked) truth() *big.Rat {
	sum := new(big.Int)
	for i, tier := range a.tiers {
		end := a.balance
		if i+1 < len(a.tiers) && a.tiers[i+1].From < end {
			end = a.tiers[i+1].From
		}
		if end > tier.From {
			sum.Add(sum, new(big.Int).Mul(big.NewInt(end-tier.From), big.NewInt(tier.Rate)))
		}
	}
	n, d, _ := basis.Part(a.how, a.from, a.to)
	x := new(big.Rat).SetFrac(sum, big.NewInt(rate))
	x.Mul(x, big.NewRat(n, d))
	return x.Mul(x, big.NewRat(1000000, 1))
}

// rounded: a number from 0 on, by the mode's words.
func rounded(x *big.Rat, mode int) *big.Int {
	floor, rest := new(big.Int).DivMod(x.Num(), x.Denom(), new(big.Int))
	if rest.Sign() == 0 {
		return floor
	}
	half := new(big.Int).Lsh(rest, 1).Cmp(x.Denom())
	above := false
	switch mode {
	case api.Up, api.Ceil:
		above = true
	case api.HalfUp:
		above = half >= 0
	case api.HalfDown:
		above = half > 0
	case api.HalfEven:
		above = half > 0 || half == 0 && floor.Bit(0) == 1
	}
	if above {
		floor.Add(floor, big.NewInt(1))
	}
	return floor
}

// isTrue: Daily answers the true number, rounded, or that it is out of range.
func (a asked) isTrue(t *testing.T) {
	t.Helper()
	want := rounded(a.truth(), a.mode)
	if want.Cmp(big.NewInt(greatest)) > 0 {
		a.is(t, 0, api.ErrRange)
		return
	}
	a.is(t, want.Int64(), api.OK)
}
