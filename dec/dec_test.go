package dec_test

import (
	"math"
	"math/big"
	"math/rand"
	"strings"
	"testing"

	"passbook/api"
	"passbook/dec"
)

const allModes = 7

var (
	greatest = api.Dec{Hi: math.MaxInt64, Lo: math.MaxUint64}
	least    = api.Dec{Hi: math.MinInt64, Lo: 1}
	outside  = api.Dec{Hi: math.MinInt64}
)

// d reads the documents' way to write Decs: as many digits behind the point as
// their scale.
func d(text string) api.Dec {
	whole, part, _ := strings.Cut(text, ".")
	n, ok := new(big.Int).SetString(whole+part, 10)
	if !ok {
		panic("no number: " + text)
	}
	x, e := decOf(n, len(part))
	if e != api.OK {
		panic("out of range: " + text)
	}
	return x
}

func at(x api.Dec, scale int) api.Dec {
	x.Scale = scale
	return x
}

func same(t *testing.T, what string, got, want api.Dec, e, wantE api.Errno) {
	t.Helper()
	if got != want || e != wantE {
		t.Errorf("%s = %v, error %d; want %v, error %d", what, got, e, want, wantE)
	}
}

func sameInt[T int | int64](t *testing.T, what string, got, want T, e, wantE api.Errno) {
	t.Helper()
	if got != want || e != wantE {
		t.Errorf("%s = %d, error %d; want %d, error %d", what, got, e, want, wantE)
	}
}

// malformed: each way in which a Dec is not in form.
func malformed() []api.Dec {
	return []api.Dec{
		outside, at(outside, 18), {Scale: -1}, {Scale: 19}, {Lo: 1, Scale: math.MaxInt}, {Lo: 1, Scale: math.MinInt},
		at(greatest, 19), at(least, -1), at(outside, 19),
	}
}

// edges: coefficients about the borders of words, of powers of ten and of the
// range, both ways from nought, at some scales.
func edges(scales ...int) []api.Dec {
	var sizes []*big.Int
	for _, n := range []int64{0, 1, 2, 3, 5, 7, 10, 15, 25, 35, 99, 100, math.MaxInt64} {
		sizes = append(sizes, big.NewInt(n))
	}
	for _, up := range []uint{63, 64, 65, 126} {
		x := new(big.Int).Lsh(big.NewInt(1), up)
		sizes = append(sizes, x, new(big.Int).Sub(x, big.NewInt(1)), new(big.Int).Add(x, big.NewInt(1)))
	}
	half := new(big.Int).Mul(big.NewInt(5), power(17))
	sizes = append(sizes, half, power(18), power(38), new(big.Int).Sub(bound, big.NewInt(1)), new(big.Int).Sub(bound, big.NewInt(2)))
	var out []api.Dec
	for _, scale := range scales {
		for _, n := range sizes {
			x, _ := decOf(n, scale)
			y, _ := decOf(new(big.Int).Neg(n), scale)
			out = append(out, x, y)
		}
	}
	return out
}

// some gives Decs of all lengths in bits; the same ones each time.
func some(count int) []api.Dec {
	source := rand.New(rand.NewSource(1))
	var out []api.Dec
	for len(out) < count {
		n := new(big.Int).Rand(source, new(big.Int).Lsh(big.NewInt(1), uint(source.Intn(127)+1)))
		if source.Intn(2) == 0 {
			n.Neg(n)
		}
		x, _ := decOf(n, source.Intn(api.MaxScale+1))
		out = append(out, x)
	}
	return out
}

func TestCheck(t *testing.T) { // P1.1
	for _, x := range append(edges(0, 1, 17, 18), greatest, least, at(greatest, 18), at(least, 18), api.Dec{}) {
		if e := dec.Check(x); e != api.OK {
			t.Errorf("Check(%v) = %d", x, e)
		}
	}
	for _, x := range malformed() {
		if e := dec.Check(x); e != api.ErrForm {
			t.Errorf("Check(%v) = %d", x, e)
		}
	}
}

func TestOf(t *testing.T) { // P1.1
	for _, n := range []int64{0, 1, -1, 250, -250, math.MaxInt64, math.MinInt64, math.MinInt64 + 1} {
		for _, scale := range []int{0, 1, 17, 18} {
			got, e := dec.Of(n, scale)
			want, wantE := decOf(big.NewInt(n), scale)
			same(t, "Of", got, want, e, wantE)
		}
		for _, scale := range []int{-1, 19, math.MaxInt, math.MinInt} {
			got, e := dec.Of(n, scale)
			same(t, "Of", got, api.Dec{}, e, api.ErrArg)
		}
	}
}

func TestInt(t *testing.T) { // P1.1
	for text, want := range map[string]int64{
		"12.00": 12, "12": 12, "-12.0": -12, "0.000000000000000000": 0, "1.000000000000000000": 1,
		"9223372036854775807": math.MaxInt64, "9223372036854775807.000000000000000000": math.MaxInt64,
		"-9223372036854775808": math.MinInt64, "-9223372036854775808.0": math.MinInt64,
	} {
		got, e := dec.Int(d(text))
		sameInt(t, "Int("+text+")", got, want, e, api.OK)
	}
	for _, text := range []string{
		"12.50", "-0.1", "0.000000000000000001", "9223372036854775808", "-9223372036854775809",
		"18446744073709551615", "18446744073709551616", "-18446744073709551616", "36893488147419103232.00",
		"9223372036854775807.5", "170141183460469231731687303715884105727", "-170141183460469231731687303715884105727",
	} {
		got, e := dec.Int(d(text))
		sameInt(t, "Int("+text+")", got, 0, e, api.ErrRange)
	}
	for _, x := range malformed() {
		got, e := dec.Int(x)
		sameInt(t, "Int", got, 0, e, api.ErrForm)
	}
}

func TestSignAndNeg(t *testing.T) { // P1.1
	x, e := dec.Neg(d("0.50"))
	same(t, "Neg(0.50)", x, d("-0.50"), e, api.OK)
	for _, x := range append(edges(0, 18), some(200)...) {
		sign, e := dec.Sign(x)
		sameInt(t, "Sign", sign, coefficient(x).Sign(), e, api.OK)
		got, e := dec.Neg(x)
		want, wantE := decOf(new(big.Int).Neg(coefficient(x)), x.Scale)
		same(t, "Neg", got, want, e, wantE)
	}
	for _, x := range malformed() {
		sign, e := dec.Sign(x)
		sameInt(t, "Sign", sign, 0, e, api.ErrForm)
		got, e := dec.Neg(x)
		same(t, "Neg", got, api.Dec{}, e, api.ErrForm)
	}
}

func TestSumExamples(t *testing.T) { // P1.2
	x, e := dec.Add(d("1.5"), d("0.25"))
	same(t, "Add(1.5, 0.25)", x, d("1.75"), e, api.OK)
	x, e = dec.Sub(d("1.00"), d("1"))
	same(t, "Sub(1.00, 1)", x, d("0.00"), e, api.OK)
	order, e := dec.Cmp(d("1.0"), d("1.00"))
	sameInt(t, "Cmp(1.0, 1.00)", order, 0, e, api.OK)
	x, e = dec.Add(greatest, d("1"))
	same(t, "Add(greatest, 1)", x, api.Dec{}, e, api.ErrRange)
	x, e = dec.Sub(least, d("1"))
	same(t, "Sub(least, 1)", x, api.Dec{}, e, api.ErrRange)
	x, e = dec.Add(greatest, least)
	same(t, "Add(greatest, least)", x, d("0"), e, api.OK)
	x, e = dec.Add(greatest, d("0.0"))
	same(t, "Add(greatest, 0.0)", x, api.Dec{}, e, api.ErrRange)
	order, e = dec.Cmp(greatest, at(greatest, 18))
	sameInt(t, "Cmp(greatest, its billionth of a billionth)", order, 1, e, api.OK)
	// The first one has no Dec with a digit behind the point, but the sum has.
	x, e = dec.Add(d("18000000000000000000000000000000000000"), d("-10000000000000000000000000000000000000.0"))
	same(t, "Add, beyond the range on the way", x, d("8000000000000000000000000000000000000.0"), e, api.OK)
}

func TestSums(t *testing.T) { // P1.2
	all := append(edges(0, 1, 18), some(100)...)
	for _, a := range all {
		for _, b := range all {
			scale := max(a.Scale, b.Scale)
			got, e := dec.Add(a, b)
			want, wantE := rounded(new(big.Rat).Add(truth(a), truth(b)), scale, api.Down)
			same(t, "Add", got, want, e, wantE)
			got, e = dec.Sub(a, b)
			want, wantE = rounded(new(big.Rat).Sub(truth(a), truth(b)), scale, api.Down)
			same(t, "Sub", got, want, e, wantE)
			order, e := dec.Cmp(a, b)
			sameInt(t, "Cmp", order, truth(a).Cmp(truth(b)), e, api.OK)
			if t.Failed() {
				t.Fatal(a, b)
			}
		}
	}
}

func TestSumErrors(t *testing.T) { // P1.2: malformed on either side, and ahead of an answer out of range
	for _, x := range malformed() {
		for _, y := range []api.Dec{d("1"), greatest, least, x} {
			for _, pair := range [][2]api.Dec{{x, y}, {y, x}} {
				got, e := dec.Add(pair[0], pair[1])
				same(t, "Add", got, api.Dec{}, e, api.ErrForm)
				got, e = dec.Sub(pair[0], pair[1])
				same(t, "Sub", got, api.Dec{}, e, api.ErrForm)
				order, e := dec.Cmp(pair[0], pair[1])
				sameInt(t, "Cmp", order, 0, e, api.ErrForm)
			}
		}
	}
}

func TestRoundingExamples(t *testing.T) { // P1.3
	for text, want := range map[string][allModes]string{
		"2.5":  {"2", "3", "2", "3", "3", "2", "2"},
		"-2.5": {"-2", "-3", "-3", "-2", "-3", "-2", "-2"},
		"3.5":  {"3", "4", "3", "4", "4", "3", "4"},
		"-3.5": {"-3", "-4", "-4", "-3", "-4", "-3", "-4"},
		"2.51": {"2", "3", "2", "3", "3", "3", "3"},
		"2.49": {"2", "3", "2", "3", "2", "2", "2"},
		"0.5":  {"0", "1", "0", "1", "1", "0", "0"},
		"-0.5": {"0", "-1", "-1", "0", "-1", "0", "0"},
		"-0.1": {"0", "-1", "-1", "0", "0", "0", "0"},
		"7.00": {"7", "7", "7", "7", "7", "7", "7"},
		"0.00": {"0", "0", "0", "0", "0", "0", "0"},
	} {
		for mode := range allModes {
			got, e := dec.Rescale(d(text), 0, mode)
			same(t, "Rescale("+text+")", got, d(want[mode]), e, api.OK)
			got, e = dec.Mul(d(text), d("1.000"), 0, mode)
			same(t, "Mul("+text+", 1.000)", got, d(want[mode]), e, api.OK)
			got, e = dec.Quo(d(text), d("1.000"), 0, mode)
			same(t, "Quo("+text+", 1.000)", got, d(want[mode]), e, api.OK)
		}
	}
	x, e := dec.Mul(d("0.15"), d("0.15"), 3, api.HalfEven)
	same(t, "Mul(0.15, 0.15)", x, d("0.022"), e, api.OK)
	x, e = dec.Quo(d("1"), d("3"), 4, api.Up)
	same(t, "Quo(1, 3)", x, d("0.3334"), e, api.OK)
	x, e = dec.Quo(d("-1"), d("3"), 0, api.Floor)
	same(t, "Quo(-1, 3)", x, d("-1"), e, api.OK)
	x, e = dec.Rescale(d("1.5"), 18, api.Down)
	same(t, "Rescale(1.5, 18)", x, d("1.500000000000000000"), e, api.OK)
}

func TestRoundingAtTheEndOfTheRange(t *testing.T) { // P1.3
	ten19 := d("10000000000000000000")
	product, e := dec.Mul(ten19, ten19, 0, api.Down)
	same(t, "Mul(10^19, 10^19)", product, d("100000000000000000000000000000000000000"), e, api.OK)
	x, e := dec.Mul(product, d("2"), 0, api.Down)
	same(t, "Mul(10^38, 2)", x, api.Dec{}, e, api.ErrRange)
	x, e = dec.Rescale(greatest, 1, api.Down)
	same(t, "Rescale(greatest, 1)", x, api.Dec{}, e, api.ErrRange)
	x, e = dec.Mul(greatest, greatest, 18, api.Down)
	same(t, "Mul(greatest, greatest)", x, api.Dec{}, e, api.ErrRange)
	x, e = dec.Quo(greatest, at(d("1"), 18), 18, api.Down)
	same(t, "Quo(greatest, the least)", x, api.Dec{}, e, api.ErrRange)
	x, e = dec.Quo(least, least, 18, api.Down)
	same(t, "Quo(least, least)", x, d("1.000000000000000000"), e, api.OK)
	// Only the rounding steps over the end: the true quotient is 2^127 - 2/9.
	near := d("153127065114422308558518573344295695155")
	for mode, wantE := range []api.Errno{0, api.ErrRange, 0, api.ErrRange, api.ErrRange, api.ErrRange, api.ErrRange} {
		want := api.Dec{}
		if wantE == api.OK {
			want = greatest
		}
		x, e = dec.Quo(near, d("0.9"), 0, mode)
		same(t, "Quo, near 2^127", x, want, e, wantE)
	}
	for mode, wantE := range []api.Errno{0, api.ErrRange, api.ErrRange, 0, api.ErrRange, api.ErrRange, api.ErrRange} {
		want := api.Dec{}
		if wantE == api.OK {
			want = least
		}
		x, e = dec.Quo(near, d("-0.9"), 0, mode)
		same(t, "Quo, near -2^127", x, want, e, wantE)
	}
}

func TestRescale(t *testing.T) { // P1.3
	for _, x := range append(edges(0, 1, 2, 17, 18), some(300)...) {
		for scale := range api.MaxScale + 1 {
			for mode := range allModes {
				got, e := dec.Rescale(x, scale, mode)
				want, wantE := rounded(truth(x), scale, mode)
				same(t, "Rescale", got, want, e, wantE)
				if t.Failed() {
					t.Fatal(x, scale, mode)
				}
			}
		}
	}
}

// TestRescaleOfTies: the halves, and what lies one step beside them, at each
// distance of two scales.
func TestRescaleOfTies(t *testing.T) { // P1.3
	for scale := 1; scale <= api.MaxScale; scale++ {
		half := new(big.Int).Div(power(scale), big.NewInt(2))
		for whole := int64(-3); whole <= 3; whole++ {
			for beside := int64(-1); beside <= 1; beside++ {
				n := new(big.Int).Mul(big.NewInt(whole), power(scale))
				n.Add(n, half).Add(n, big.NewInt(beside))
				x, _ := decOf(n, scale)
				for mode := range allModes {
					got, e := dec.Rescale(x, 0, mode)
					want, wantE := rounded(truth(x), 0, mode)
					same(t, "Rescale", got, want, e, wantE)
				}
			}
		}
	}
}

func TestMulAndQuo(t *testing.T) { // P1.3
	all := append(edges(0, 1, 18), some(60)...)
	for i, a := range all {
		for j, b := range all {
			scale := []int{0, 1, 9, 18}[(i+j)%4]
			for mode := range allModes {
				got, e := dec.Mul(a, b, scale, mode)
				want, wantE := rounded(new(big.Rat).Mul(truth(a), truth(b)), scale, mode)
				same(t, "Mul", got, want, e, wantE)
				got, e = dec.Quo(a, b, scale, mode)
				want, wantE = api.Dec{}, api.ErrZero
				if truth(b).Sign() != 0 {
					want, wantE = rounded(new(big.Rat).Quo(truth(a), truth(b)), scale, mode)
				}
				same(t, "Quo", got, want, e, wantE)
				if t.Failed() {
					t.Fatal(a, b, scale, mode)
				}
			}
		}
	}
}

// TestRoundedOnce: products that would come out otherwise if they were rounded
// to one more digit first.
func TestRoundedOnce(t *testing.T) { // P1.3
	x, e := dec.Mul(d("0.145"), d("1.0"), 1, api.HalfUp)
	same(t, "Mul(0.145, 1.0)", x, d("0.1"), e, api.OK)
	x, e = dec.Mul(d("0.7"), d("0.07"), 1, api.HalfUp) // 0.049
	same(t, "Mul(0.7, 0.07)", x, d("0.0"), e, api.OK)
	x, e = dec.Mul(at(d("1"), 18), at(d("1"), 18), 0, api.Up)
	same(t, "Mul of the least ones", x, d("1"), e, api.OK)
	x, e = dec.Quo(at(d("1"), 18), greatest, 0, api.Up)
	same(t, "Quo of the least by the greatest", x, d("1"), e, api.OK)
	x, e = dec.Quo(d("4.45"), d("1.00"), 0, api.HalfUp)
	same(t, "Quo(4.45, 1.00)", x, d("4"), e, api.OK)
}

func TestWrongScaleOrMode(t *testing.T) { // P1.3: ErrArg, whatever else is wrong
	wrong := [][2]int{{-1, 0}, {19, 0}, {0, -1}, {0, 7}, {-1, 7}, {math.MaxInt, math.MaxInt}, {math.MinInt, math.MinInt}}
	for _, x := range append(malformed(), d("1"), greatest, d("0.00")) {
		for _, y := range append(malformed(), d("1"), d("0")) {
			for _, w := range wrong {
				got, e := dec.Rescale(x, w[0], w[1])
				same(t, "Rescale", got, api.Dec{}, e, api.ErrArg)
				got, e = dec.Mul(x, y, w[0], w[1])
				same(t, "Mul", got, api.Dec{}, e, api.ErrArg)
				got, e = dec.Quo(x, y, w[0], w[1])
				same(t, "Quo", got, api.Dec{}, e, api.ErrArg)
			}
		}
	}
}

func TestMalformedFactors(t *testing.T) { // P1.3: ErrForm ahead of ErrRange and ErrZero
	for _, x := range malformed() {
		got, e := dec.Rescale(x, 18, api.Up)
		same(t, "Rescale", got, api.Dec{}, e, api.ErrForm)
		for _, y := range []api.Dec{d("1"), d("0"), greatest, least, x} {
			for _, pair := range [][2]api.Dec{{x, y}, {y, x}} {
				got, e = dec.Mul(pair[0], pair[1], 18, api.Up)
				same(t, "Mul", got, api.Dec{}, e, api.ErrForm)
				got, e = dec.Quo(pair[0], pair[1], 18, api.Up)
				same(t, "Quo", got, api.Dec{}, e, api.ErrForm)
			}
		}
	}
}

func TestDivisionByNought(t *testing.T) { // P1.3
	for _, x := range []api.Dec{d("1"), d("0"), d("0.00"), greatest, least} {
		for _, nought := range []api.Dec{d("0"), d("0.000000000000000000")} {
			for mode := range allModes {
				got, e := dec.Quo(x, nought, 0, mode)
				same(t, "Quo", got, api.Dec{}, e, api.ErrZero)
			}
		}
	}
}
