package fx_test

import (
	"math"
	"math/big"
	"math/rand"
	"testing"

	"passbook/api"
	"passbook/dec"
	"passbook/fx"
)

const (
	minor = 10000000000000 // the greatest amount
	rate  = 1000000000000  // the greatest rate
	one   = 1000000000     // the rate of one for one
	whole = 1000000000000  // so many parts of a residue are a minor unit
)

func all() []int { return []int{api.EUR, api.USD, api.JPY, api.KWD} }

func wrongCurrencies() []int {
	return []int{-1, 4, -2, 5, 1 << 32, -1 << 32, 1<<32 + 1, math.MinInt, math.MaxInt}
}

func digitsOf(cur int) int { return []int{2, 2, 0, 3}[cur] }

// notWithin: numbers outside 1 .. top, next to it and far from it.
func notWithin(top int64) []int64 {
	return []int64{0, -1, -top, math.MinInt64, math.MinInt64 + 1, top + 1, top + 2, 2 * top, 1 << 62, math.MaxInt64 - 1, math.MaxInt64}
}

// some: a number from 1 to top, of any length.
func some(source *rand.Rand, top int64) int64 {
	return 1 + source.Int63n(1+source.Int63n(1+source.Int63n(top)))
}

func ten(n int) *big.Int { return new(big.Int).Exp(big.NewInt(10), big.NewInt(int64(n)), nil) }

// quotient: above / below, as a whole number and what is left above the line.
func quotient(above, below *big.Int) (*big.Int, *big.Int) {
	return new(big.Int).DivMod(above, below, new(big.Int))
}

func product(numbers ...int64) *big.Int {
	out := big.NewInt(1)
	for _, n := range numbers {
		out.Mul(out, big.NewInt(n))
	}
	return out
}

// asked: what Convert is asked.
type asked struct {
	cur, other   int
	rate, amount int64
}

func (a asked) is(t *testing.T, want int64, parts uint64) {
	t.Helper()
	got, rest, e := fx.Convert(a.cur, a.other, a.rate, a.amount)
	if got != want || rest != (api.Dec{Lo: parts, Scale: 12}) || e != api.OK {
		t.Errorf("Convert of %v = %d, %v, error %d; want %d, and %d parts", a, got, rest, e, want, parts)
	}
}

func (a asked) fails(t *testing.T, want api.Errno) {
	t.Helper()
	got, rest, e := fx.Convert(a.cur, a.other, a.rate, a.amount)
	if got != 0 || rest != (api.Dec{}) || e != want {
		t.Errorf("Convert of %v = %d, %v, error %d; want error %d", a, got, rest, e, want)
	}
}

// truth: what the amount is worth in the other currency's minor units, as a fraction without bound.
func (a asked) truth() *big.Rat {
	above := product(a.amount, a.rate)
	above.Mul(above, ten(digitsOf(a.other)))
	return new(big.Rat).SetFrac(above, ten(9+digitsOf(a.cur)))
}

// isTrue: Convert answers the true number, cut into whole units and parts, or the least error that applies.
func (a asked) isTrue(t *testing.T) {
	t.Helper()
	x := a.truth()
	floor, _ := quotient(x.Num(), x.Denom())
	if floor.Cmp(big.NewInt(minor)) > 0 {
		a.fails(t, api.ErrRange)
		return
	}
	if a.cur == a.other {
		a.fails(t, api.ErrCur)
		return
	}
	x.Sub(x, new(big.Rat).SetInt(floor))
	x.Mul(x, new(big.Rat).SetInt64(whole))
	if !x.IsInt() {
		t.Fatalf("%v: a residue that has smaller parts", a)
	}
	a.is(t, floor.Int64(), x.Num().Uint64())
}

// addsUp: what is got and the residue are together just the worth, and the residue is as it is said.
func (a asked) addsUp(t *testing.T) {
	t.Helper()
	got, rest, e := fx.Convert(a.cur, a.other, a.rate, a.amount)
	if e != api.OK {
		t.Fatalf("Convert of %v: error %d", a, e)
	}
	if rest.Scale != 12 || rest.Hi != 0 || rest.Lo >= whole || got < 0 || got > minor {
		t.Fatalf("Convert of %v = %d, %v", a, got, rest)
	}
	units, _ := dec.Of(got, 0)
	sum, e := dec.Add(units, rest)
	x := new(big.Rat).SetFrac(coefficient(sum), ten(sum.Scale))
	if e != api.OK || x.Cmp(a.truth()) != 0 {
		t.Fatalf("Convert of %v = %d, %v: together %v, not %v", a, got, rest, x, a.truth())
	}
}

func coefficient(d api.Dec) *big.Int {
	n := new(big.Int).Lsh(big.NewInt(d.Hi), 64)
	return n.Add(n, new(big.Int).SetUint64(d.Lo))
}

func quoteIs(t *testing.T, rate int64, spread int, buys, sells int64) {
	t.Helper()
	if a, b, e := fx.Quote(rate, spread); a != buys || b != sells || e != api.OK {
		t.Errorf("Quote(%d, %d) = %d, %d, error %d; want %d, %d", rate, spread, a, b, e, buys, sells)
	}
}

func quoteFails(t *testing.T, rate int64, spread int, want api.Errno) {
	t.Helper()
	if a, b, e := fx.Quote(rate, spread); a != 0 || b != 0 || e != want {
		t.Errorf("Quote(%d, %d) = %d, %d, error %d; want error %d", rate, spread, a, b, e, want)
	}
}

// quoteIsTrue: of numbers without bound, by the chapter's words.
func quoteIsTrue(t *testing.T, r int64, spread int) {
	t.Helper()
	buys, _ := quotient(product(r, 1000000-int64(spread)), ten(6))
	sells, left := quotient(product(r, 1000000+int64(spread)), ten(6))
	if left.Sign() > 0 {
		sells.Add(sells, big.NewInt(1))
	}
	if buys.Sign() == 0 || sells.Cmp(big.NewInt(rate)) > 0 {
		quoteFails(t, r, spread, api.ErrRange)
		return
	}
	quoteIs(t, r, spread, buys.Int64(), sells.Int64())
}

func crossIs(t *testing.T, a, b, want int64, wantE api.Errno) {
	t.Helper()
	for _, pair := range [][2]int64{{a, b}, {b, a}} {
		if n, e := fx.Cross(pair[0], pair[1]); n != want || e != wantE {
			t.Errorf("Cross(%d, %d) = %d, error %d; want %d, error %d", pair[0], pair[1], n, e, want, wantE)
		}
	}
}

func crossIsTrue(t *testing.T, a, b int64) {
	t.Helper()
	floor, _ := quotient(product(a, b), ten(9))
	if floor.Sign() == 0 || floor.Cmp(big.NewInt(rate)) > 0 {
		crossIs(t, a, b, 0, api.ErrRange)
		return
	}
	crossIs(t, a, b, floor.Int64(), api.OK)
}
