package chart_test

import (
	"math/big"
	"math/rand"
	"slices"
	"testing"

	"passbook/api"
	"passbook/chart"
)

func TestTrialTellsTheOrder(t *testing.T) { // P13.2
	l := ledger(t, // the codes and the currencies come falling
		pair(8, 7, 3, "1"), pair(6, 5, 2, "2"), pair(8, 7, 1, "3"), pair(2, 1, 3, "4"), pair(4, 1, 0, "0"), pair(6, 2, 0, "5"),
	)
	want := entry(
		line(1, 3, "-4.000000000000"), line(2, 0, "-5.000000000000"), line(2, 3, "4.000000000000"), line(5, 2, "-2.000000000000"),
		line(6, 0, "5.000000000000"), line(6, 2, "2.000000000000"), line(7, 1, "-3.000000000000"), line(7, 3, "-1.000000000000"),
		line(8, 1, "3.000000000000"), line(8, 3, "1.000000000000"),
	)
	if got := l.Trial(); !slices.Equal(got, want) {
		t.Errorf("Trial = %v; want %v", got, want)
	}
}

func TestTrialLeavesOutWhatIsNought(t *testing.T) { // P13.2
	l := ledger(t, pair(1, 2, 0, "5"), pair(1, 3, 1, "0.000000000001"))
	tells(t, "two pairs", l, map[place]string{{1, 0}: "5", {2, 0}: "-5", {1, 1}: least, {3, 1}: opposite(least)}, 2)
	answers(t, "Post", l.Post(pair(2, 1, 0, "5.00")), api.OK)
	tells(t, "one pair", l, map[place]string{{1, 1}: least, {3, 1}: opposite(least)}, 3)
	answers(t, "Post", l.Post(pair(3, 1, 1, least)), api.OK)
	tells(t, "none", l, nil, 4)
	answers(t, "Post", l.Post(pair(3, 4, 2, "0")), api.OK)
	tells(t, "nought", l, nil, 5)
}

func TestWhatIsHandedInIsLeftAndNotKept(t *testing.T) { // P13.1, and the rules of memory
	for _, room := range []int{0, 1, 4} {
		for _, own := range [][]api.Line{pair(1, 2, 0, "5"), entry(line(1, 0, "5")), entry(line(1, 0, "0.0000000000000")), entry(line(9, 0, "5")), nil} {
			whole := slices.Clone(own)
			for range room {
				whole = append(whole, line(7, 3, "77"))
			}
			whole = slices.Clip(whole)
			before := slices.Clone(whole)
			l := ledger(t, pair(1, 2, 0, "5"))
			e := l.Post(whole[:len(own)])
			if !slices.Equal(whole, before) {
				t.Errorf("the entry, or the room behind it, has changed: %v, and was %v", whole, before)
			}
			s := stateOf(t, l)
			for i := range whole {
				whole[i] = line(8, 3, "99")
			}
			sameState(t, l, s)
			if posted := s.entries == 2; posted != (e == api.OK) {
				t.Errorf("Post answers %d, Entries = %d", e, s.entries)
			}
		}
	}
}

func TestAnswersAreNewMemory(t *testing.T) { // P13.2, and the rules of memory
	l := chart.New()
	for code := 1; code < 8; code++ {
		answers(t, "Post", l.Post(pair(code, 8, code%4, "5")), api.OK)
		before := stateOf(t, l)
		one, other := l.Trial(), l.Trial()
		one = one[:cap(one)]
		for i := range one {
			one[i] = line(1, 1, "77")
		}
		if slices.Contains(other[:cap(other)], line(1, 1, "77")) || !slices.Equal(other, before.trial) {
			t.Fatalf("two answers share memory: %v", other)
		}
		sameState(t, l, before)
		answers(t, "Post", l.Post(pair(1, 2, 0, "1")), api.OK)
		if !slices.Equal(other, before.trial) {
			t.Fatalf("an answer has changed: %v", other)
		}
	}
}

// plain: balances in parts of 10^-12, as numbers without bound.
type plain struct {
	balances map[place]*big.Int
	entries  int
}

func (p *plain) post(lines []api.Line) api.Errno {
	after := map[place]*big.Int{}
	for at, n := range p.balances {
		after[at] = new(big.Int).Set(n)
	}
	totals := [4]*big.Int{new(big.Int), new(big.Int), new(big.Int), new(big.Int)}
	for _, x := range lines {
		at := place{x.Code, x.Cur}
		if after[at] == nil {
			after[at] = new(big.Int)
		}
		after[at].Add(after[at], parts(x.Amount))
		totals[x.Cur].Add(totals[x.Cur], parts(x.Amount))
	}
	for _, n := range after {
		if n.CmpAbs(power(36)) > 0 {
			return api.ErrRange
		}
	}
	for _, n := range totals {
		if n.Sign() != 0 {
			return api.ErrBalance
		}
	}
	p.balances, p.entries = after, p.entries+1
	return api.OK
}

// someEntry: lines of all sizes and scales; most of the time with those that make it balance.
func someEntry(source *rand.Rand, greatest *big.Int) []api.Line {
	var lines []api.Line
	wants := [4]*big.Int{new(big.Int), new(big.Int), new(big.Int), new(big.Int)}
	for range source.Intn(13) {
		scale := source.Intn(13)
		n := new(big.Int).Rand(source, new(big.Int).Mul(greatest, power(scale)))
		n.Rsh(n, uint(source.Intn(2)*source.Intn(n.BitLen()+1)))
		if source.Intn(2) == 0 {
			n.Neg(n)
		}
		x := api.Line{Code: 1 + source.Intn(8), Cur: source.Intn(4), Amount: decOf(n, scale)}
		wants[x.Cur].Sub(wants[x.Cur], parts(x.Amount))
		lines = append(lines, x)
	}
	for cur, n := range wants {
		if n.CmpAbs(power(32)) <= 0 && source.Intn(15) > 0 {
			lines = append(lines, api.Line{Code: 1 + source.Intn(8), Cur: cur, Amount: decOf(n, 12)})
		}
	}
	source.Shuffle(len(lines), func(i, j int) { lines[i], lines[j] = lines[j], lines[i] })
	return lines
}

func TestAgainstPlainNumbers(t *testing.T) { // P13.1, P13.2
	source := rand.New(rand.NewSource(1))
	counts := map[api.Errno]int{}
	for round := range 90 {
		l := chart.New()
		p := &plain{balances: map[place]*big.Int{}}
		if round%3 == 0 { // near the bound, so that some entries pass it
			l = filled(t, "")
			p.balances[place{1, 0}], p.balances[place{2, 0}] = power(36), new(big.Int).Neg(power(36))
			p.entries = 1250
		}
		greatest := power(source.Intn(21))
		for range 60 {
			lines := someEntry(source, greatest)
			want := p.post(lines)
			counts[want]++
			if e := l.Post(lines); e != want {
				t.Fatalf("Post(%v) answers %d; want %d", lines, e, want)
			}
			looksLike(t, "some entries", l, p.balances, p.entries)
			if t.Failed() {
				t.FailNow()
			}
		}
	}
	if counts[api.OK] < 1000 || counts[api.ErrBalance] < 100 || counts[api.ErrRange] < 100 {
		t.Errorf("the entries are too much alike: %v", counts)
	}
}
