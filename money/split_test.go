package money_test

import (
	"math"
	"math/big"
	"math/rand"
	"slices"
	"testing"

	"passbook/api"
	"passbook/money"
)

const maxWeight = 1000000000

func times(count int, weight int64) []int64 { return slices.Repeat([]int64{weight}, count) }

// wantSplit follows the document's words by numbers without bound, and looks
// for the greatest remainder anew for each unit that is left.
func wantSplit(x api.Money, weights []int64) []api.Money {
	size, all := new(big.Int).Abs(big.NewInt(x.Minor)), new(big.Int)
	for _, w := range weights {
		all.Add(all, big.NewInt(w))
	}
	left := size.Int64()
	shares, rests := make([]int64, len(weights)), make([]int64, len(weights))
	for i, w := range weights {
		product := new(big.Int).Mul(size, big.NewInt(w))
		share, rest := new(big.Int).QuoRem(product, all, new(big.Int))
		shares[i], rests[i] = share.Int64(), rest.Int64()
		left -= shares[i]
	}
	for ; left > 0; left-- {
		greatest := slices.Index(rests, slices.Max(rests))
		shares[greatest]++
		rests[greatest] = -1
	}
	var out []api.Money
	for _, s := range shares {
		if x.Minor < 0 {
			s = -s
		}
		out = append(out, m(x.Cur, s))
	}
	return out
}

func checkSplit(t *testing.T, x api.Money, weights []int64, want []api.Money) {
	t.Helper()
	got, e := money.Split(x, weights)
	if e != api.OK || !slices.Equal(got, want) {
		t.Fatalf("Split(%v, %v) = %v, error %d; want %v", x, weights, got, e, want)
	}
	var sum int64
	for _, part := range got {
		sum += part.Minor
		if e := money.Check(part); e != api.OK {
			t.Fatalf("Split(%v, %v): %v is not in form", x, weights, part)
		}
	}
	if sum != x.Minor {
		t.Fatalf("Split(%v, %v) adds up to %d", x, weights, sum)
	}
}

func refuseSplit(t *testing.T, x api.Money, weights []int64, want api.Errno) {
	t.Helper()
	if got, e := money.Split(x, weights); len(got) != 0 || e != want {
		t.Errorf("Split(%v, %d weights) = %v, error %d; want error %d", x, len(weights), got, e, want)
	}
}

func TestSplitExamples(t *testing.T) { // P5.2
	list := func(minors ...int64) []api.Money {
		var out []api.Money
		for _, n := range minors {
			out = append(out, m(api.EUR, n))
		}
		return out
	}
	checkSplit(t, m(api.EUR, 100), []int64{1, 1, 1}, list(34, 33, 33))
	checkSplit(t, m(api.EUR, -5), []int64{3, 7}, list(-2, -3))
	checkSplit(t, m(api.EUR, 5), []int64{3, 7}, list(2, 3))
	checkSplit(t, m(api.EUR, 5), []int64{7, 3}, list(4, 1)) // the remainders are equal: the first one gets it
	checkSplit(t, m(api.EUR, 200), []int64{1, 1, 1}, list(67, 67, 66))
	checkSplit(t, m(api.EUR, 1), []int64{1, 2}, list(0, 1))        // 1 and 2 of 3: the last one lost more
	checkSplit(t, m(api.EUR, 10), []int64{5, 1, 6}, list(4, 1, 5)) // 2, 10 and 0 of 12 behind 4, 0 and 5
	checkSplit(t, m(api.EUR, 2), []int64{0, 1, 0, 1, 1, 0}, list(0, 1, 0, 1, 0, 0))
	checkSplit(t, m(api.EUR, -7), []int64{4}, list(-7))
	checkSplit(t, m(api.EUR, 0), []int64{3, 0, 1}, list(0, 0, 0))
	refuseSplit(t, m(api.EUR, 5), []int64{0, 0}, api.ErrZero)
}

// weightLists: by one, by equal ones, by noughts between, by as many as there may be, by the greatest.
func weightLists() [][]int64 {
	rising := make([]int64, api.MaxWeights)
	for i := range rising {
		rising[i] = int64(i * i)
	}
	falling := slices.Clone(rising)
	slices.Reverse(falling)
	return [][]int64{
		{1}, {7}, {maxWeight}, {1, 1}, {2, 2, 2}, {1, 2, 3}, {3, 2, 1}, {0, 1}, {1, 0}, {0, 0, 5, 0}, {0, 3, 0, 3},
		{maxWeight, maxWeight}, {maxWeight, 1}, {1, maxWeight}, {maxWeight, maxWeight - 1, 0, 1}, {999999937, 999999929, 3},
		times(3, maxWeight), times(api.MaxWeights, 1), times(api.MaxWeights, maxWeight), times(api.MaxWeights-1, 5),
		append(times(api.MaxWeights-1, 0), 1), append([]int64{1}, times(api.MaxWeights-1, maxWeight)...), rising, falling,
	}
}

func TestSplit(t *testing.T) { // P5.2
	for _, cur := range all() {
		for _, weights := range weightLists() {
			for _, minor := range append(minors(), 63, 64, 65, -63, -64, -65) {
				x := m(cur, minor)
				checkSplit(t, x, weights, wantSplit(x, weights))
			}
		}
	}
}

func TestSplitByAnyWeights(t *testing.T) { // P5.2
	source := rand.New(rand.NewSource(1))
	for range 20000 {
		weights := make([]int64, 1+source.Intn(api.MaxWeights))
		bound := int64(1) << source.Intn(30)
		for i := range weights {
			weights[i] = source.Int63n(bound + 1)
		}
		weights[source.Intn(len(weights))]++
		x := m(source.Intn(4), source.Int63n(1<<(1+source.Intn(43)))-source.Int63n(1<<(1+source.Intn(43))))
		checkSplit(t, x, weights, wantSplit(x, weights))
	}
}

// TestSplitOfFewUnits: all lists of three small weights, by all small amounts,
// so that equal remainders come at every place.
func TestSplitOfFewUnits(t *testing.T) { // P5.2
	for minor := int64(-9); minor <= 9; minor++ {
		for n := range int64(6 * 6 * 6 * 6) {
			weights := []int64{n % 6, n / 6 % 6, n / 36 % 6, n / 216}
			if n > 0 {
				checkSplit(t, m(api.JPY, minor), weights, wantSplit(m(api.JPY, minor), weights))
			}
		}
	}
}

func TestSplitErrors(t *testing.T) { // P5.2
	for _, cur := range all() {
		x := m(cur, 100)
		refuseSplit(t, x, nil, api.ErrLong)
		refuseSplit(t, x, []int64{}, api.ErrLong)
		refuseSplit(t, x, times(api.MaxWeights+1, 1), api.ErrLong)
		refuseSplit(t, x, times(1000, maxWeight), api.ErrLong)
		refuseSplit(t, x, []int64{0}, api.ErrZero)
		refuseSplit(t, x, times(api.MaxWeights, 0), api.ErrZero)
		refuseSplit(t, m(cur, 0), []int64{0, 0}, api.ErrZero)
		for _, wrong := range []int64{-1, maxWeight + 1, math.MaxInt64, math.MinInt64} {
			refuseSplit(t, x, []int64{wrong}, api.ErrArg)
			refuseSplit(t, x, []int64{1, wrong, 1}, api.ErrArg)
			refuseSplit(t, x, append(times(api.MaxWeights-1, 1), wrong), api.ErrArg)
		}
		refuseSplit(t, x, []int64{1, -1}, api.ErrArg)
	}
	for _, x := range malformed() {
		refuseSplit(t, x, []int64{1, 2}, api.ErrForm)
	}
}

func TestWhichSplitError(t *testing.T) { // P5.2: the least number of those that apply
	for _, x := range append(malformed(), m(api.EUR, 100)) {
		for _, wrong := range []int64{-1, maxWeight + 1} {
			refuseSplit(t, x, append(times(api.MaxWeights, 0), wrong), api.ErrArg)
			refuseSplit(t, x, append([]int64{wrong}, times(api.MaxWeights, 0)...), api.ErrArg)
			refuseSplit(t, x, []int64{wrong}, api.ErrArg)
		}
		refuseSplit(t, x, nil, api.ErrLong)
		refuseSplit(t, x, times(api.MaxWeights+1, 0), api.ErrLong)
	}
	for _, x := range malformed() {
		refuseSplit(t, x, []int64{0, 0}, api.ErrForm)
	}
}

func TestSplitLeavesWeights(t *testing.T) { // P5.2, and the rules of memory
	room := []int64{5, 1, 3, 1, 9, 9}
	weights := room[:4]
	first, e := money.Split(m(api.EUR, 103), weights)
	if e != api.OK || !slices.Equal(room, []int64{5, 1, 3, 1, 9, 9}) {
		t.Fatal("the weights have changed:", room, e)
	}
	want := slices.Clone(first)
	second, _ := money.Split(m(api.EUR, 103), weights)
	for i := range first[:cap(first)] {
		first[:cap(first)][i] = m(api.KWD, -1)
	}
	weights[0] = 1000
	if !slices.Equal(second, want) {
		t.Fatal("two answers share memory:", second)
	}
}
