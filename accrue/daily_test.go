package accrue_test

import (
	"math"
	"math/rand"
	"testing"

	"passbook/api"
)

func TestDailyExamples(t *testing.T) { // P14.2
	for _, d := range []int{1, 50, someDay, lastDay - 1} {
		asked{1000000, tiers(0, 36500000), api.Act365, api.Down, d, d + 1}.is(t, 100000000, api.OK)
		asked{0, tiers(0, 36500000), api.Act365, api.Up, d, d + 1}.is(t, 0, api.OK)
		asked{1, tiers(0, 1), api.Act360, api.Up, d, d + 1}.is(t, 1, api.OK)
		asked{1, tiers(0, 1), api.Act360, api.Down, d, d + 1}.is(t, 0, api.OK)
	}
	// 1000 at 2 percent and 500 at 4 percent: 40 in a year of 360 days.
	asked{1500, tiers(0, 20000000, 1000, 40000000), api.Act360, api.Down, 1000, 1360}.is(t, 40000000, api.OK)
	asked{1000, tiers(0, 20000000, 1000, 40000000), api.Act360, api.Down, 1000, 1360}.is(t, 20000000, api.OK)
	asked{1001, tiers(0, 20000000, 1000, 40000000), api.Act360, api.Down, 1000, 1360}.is(t, 20040000, api.OK)
	asked{999, tiers(0, 20000000, 1000, 40000000), api.Act360, api.Down, 1000, 1360}.is(t, 19980000, api.OK)
}

func TestDailyByEachWay(t *testing.T) { // P14.2
	// 133590 minor units at 100 percent: a part n / d of a year is 133590 * n / d of them.
	const balance = 133590
	for _, x := range []struct {
		how      int
		from, to string
		want     int64 // millionths
	}{
		{api.Act360, "2024-01-01", "2024-02-01", 11503583333},
		{api.Act365, "2024-01-01", "2024-02-01", 11346000000},
		{api.Thirty, "2024-01-01", "2024-02-01", 11132500000},
		{api.ActAct, "2024-01-01", "2024-02-01", 11315000000},
		{api.Thirty, "2024-01-30", "2024-01-31", 0},
		{api.Act365, "2024-01-30", "2024-01-31", 366000000},
		{api.ActAct, "2023-12-31", "2024-01-02", 731000000}, // 366 in the one year, 365 in the other
		{api.ActAct, "2024-12-31", "2025-01-02", 731000000},
		{api.ActAct, "2023-12-31", "2024-01-01", 366000000},
		{api.ActAct, "2024-01-01", "2024-01-02", 365000000},
		{api.ActAct, "2024-01-01", "2025-01-01", 133590000000}, // each year is one, a leap year too
		{api.ActAct, "2023-01-01", "2024-01-01", 133590000000},
		{api.ActAct, "1900-01-01", "1901-01-01", 133590000000},
		{api.ActAct, "2000-01-01", "2001-01-01", 133590000000},
		{api.Act365, "2024-01-01", "2025-01-01", 133956000000},
		{api.Thirty, "2024-02-29", "2024-03-31", 11503583333},
		{api.Thirty, "2023-12-31", "2024-12-31", 133590000000},
		{api.Act360, "2024-02-28", "2024-03-01", 742166666},
	} {
		from, to := date(t, x.from), date(t, x.to)
		asked{balance, tiers(0, rate), x.how, api.Down, from, to}.is(t, x.want, api.OK)
		asked{balance, tiers(0, rate), x.how, api.Down, from, from}.is(t, 0, api.OK)
		asked{balance, tiers(0, rate), x.how, api.Up, to, to}.is(t, 0, api.OK)
	}
}

// TestDailyRoundsByEachMode: of a day by Act360, at a rate of 1, so many minor units are so many 360000ths of a millionth.
func TestDailyRoundsByEachMode(t *testing.T) { // P14.2
	for _, x := range []struct {
		units int64
		want  [7]int64 // by the modes
	}{
		{0, [7]int64{0, 0, 0, 0, 0, 0, 0}},
		{1, [7]int64{0, 1, 0, 1, 0, 0, 0}},
		{179999, [7]int64{0, 1, 0, 1, 0, 0, 0}},
		{180000, [7]int64{0, 1, 0, 1, 1, 0, 0}}, // a half
		{180001, [7]int64{0, 1, 0, 1, 1, 1, 1}},
		{359999, [7]int64{0, 1, 0, 1, 1, 1, 1}},
		{360000, [7]int64{1, 1, 1, 1, 1, 1, 1}},
		{360001, [7]int64{1, 2, 1, 2, 1, 1, 1}},
		{539999, [7]int64{1, 2, 1, 2, 1, 1, 1}},
		{540000, [7]int64{1, 2, 1, 2, 2, 1, 2}}, // one and a half
		{540001, [7]int64{1, 2, 1, 2, 2, 2, 2}},
		{900000, [7]int64{2, 3, 2, 3, 3, 2, 2}}, // two and a half
	} {
		for mode, want := range x.want {
			asked{x.units, tiers(0, 1), api.Act360, mode, someDay, someDay + 1}.is(t, want, api.OK)
			// It is rounded once, not tier by tier.
			asked{x.units, tiers(0, 1, 100, 1, 90000, 1), api.Act360, mode, someDay, someDay + 1}.is(t, want, api.OK)
			asked{1, tiers(0, x.units), api.Thirty, mode, date(t, "2024-03-01"), date(t, "2024-03-02")}.is(t, want, api.OK)
		}
	}
}

// TestDailyRoundsEachWaysParts: halves, and what lies next to them, by the other numbers below the line.
func TestDailyRoundsEachWaysParts(t *testing.T) { // P14.2
	for how, below := range []int64{360000, 365000, 360000, 133590000} {
		from := date(t, "2024-03-01") // a day of a leap year: 365 by ActAct
		for k := range int64(5) {
			for _, off := range []int64{-1, 0, 1} {
				units := (2*k+1)*below/2 + off
				for mode := range 7 {
					asked{units, tiers(0, 1), how, mode, from, from + 1}.isTrue(t)
					asked{units, tiers(0, 1, units/2, 1), how, mode, from - 61, from + 1}.isTrue(t)
				}
			}
		}
	}
}

func TestDailyAboutTheGreatestAnswer(t *testing.T) { // P14.2
	all := tiers(0, rate)
	for mode := range 7 {
		asked{minor, all, api.Act360, mode, 1, 144}.isTrue(t)
		asked{minor, all, api.Act360, mode, 1, 145}.is(t, greatest, api.OK) // 144 days: 4 * 10^18 itself
		asked{minor, all, api.Act360, mode, 1, 146}.is(t, 0, api.ErrRange)
		asked{minor - 1, all, api.Act360, mode, 1, 145}.is(t, greatest-400000, api.OK)
		asked{5 * minor / 10, all, api.Act360, mode, 7, 7 + 288}.is(t, greatest, api.OK)
		asked{5*minor/10 + 1, all, api.Act360, mode, 7, 7 + 288}.is(t, 0, api.ErrRange)
	}
	// At half the rate, with a billionth more for the last few units, 288 days come to 4 * 10^18 and a part.
	for _, x := range []struct {
		units int64
		fits  [7]bool
	}{
		{1, [7]bool{true, false, true, false, true, true, true}},
		{624, [7]bool{true, false, true, false, true, true, true}},
		{625, [7]bool{true, false, true, false, false, true, true}}, // a half above it
		{626, [7]bool{true, false, true, false, false, false, false}},
		{1250, [7]bool{}},
	} {
		for mode, fits := range x.fits {
			a := asked{minor, tiers(0, rate/2, minor-x.units, rate/2+1), api.Act360, mode, 1, 289}
			if fits {
				a.is(t, greatest, api.OK)
			} else {
				a.is(t, 0, api.ErrRange)
			}
		}
	}
}

// TestDailyOverTheLongestSpans: the true number goes far beyond 64 bits, and is out of range all the way.
func TestDailyOverTheLongestSpans(t *testing.T) { // P14.2
	for how := range 4 {
		for mode := range 7 {
			asked{minor, tiers(0, rate), how, mode, 1, lastDay}.is(t, 0, api.ErrRange)
			asked{minor, tiers(0, 0), how, mode, 1, lastDay}.is(t, 0, api.OK)
			asked{0, tiers(0, rate), how, mode, 1, lastDay}.is(t, 0, api.OK)
			asked{1, tiers(0, 1), how, mode, 1, lastDay}.isTrue(t)
			asked{1, tiers(0, rate), how, mode, 1, lastDay}.isTrue(t)
			asked{minor, tiers(0, 1), how, mode, 1, lastDay}.isTrue(t)
			asked{minor, tiers(0, rate), how, mode, lastDay, lastDay}.is(t, 0, api.OK)
			asked{minor, tiers(0, rate), how, mode, 1, 1}.is(t, 0, api.OK)
		}
		for to := 1; to <= lastDay; to += 1 + to/7 {
			asked{minor, tiers(0, rate), how, api.HalfEven, 1, to}.isTrue(t)
			asked{minor, tiers(0, rate-1, 77, rate), how, api.Up, lastDay - to + 1, lastDay}.isTrue(t)
		}
	}
}

func TestDailyIsTheTrueNumber(t *testing.T) { // P14.2, P3
	source := rand.New(rand.NewSource(142))
	some := func(top int64) int64 { // of all lengths
		return source.Int63n(1 + source.Int63n(1+source.Int63n(top+1)))
	}
	for range 20000 {
		l := tiers(0, some(rate))
		for len(l) < 1+source.Intn(api.MaxTiers) {
			from := l[len(l)-1].From + 1 + some(minor/10)
			l = append(l, api.Tier{From: from, Rate: some(rate)})
		}
		from := 1 + source.Intn(lastDay)
		to := from + source.Intn(1+min(lastDay-from, 1<<source.Intn(22)))
		balance := some(minor)
		if source.Intn(4) == 0 { // about one of the Froms
			balance = max(0, l[source.Intn(len(l))].From+source.Int63n(3)-1)
		}
		asked{balance, l, source.Intn(4), source.Intn(7), from, to}.isTrue(t)
	}
}

// wrongArguments: what is answered by ErrArg, each made from what is right.
func wrongArguments(right asked) []asked {
	var out []asked
	with := func(change func(a *asked)) {
		a := right
		change(&a)
		out = append(out, a)
	}
	for _, n := range notWithin(minor) {
		with(func(a *asked) { a.balance = n })
	}
	for _, n := range []int{-1, -2, 4, 5, 1 << 40, math.MinInt, math.MaxInt} {
		with(func(a *asked) { a.how = n })
	}
	for _, n := range []int{-1, -2, 7, 8, 1 << 40, math.MinInt, math.MaxInt} {
		with(func(a *asked) { a.mode = n })
	}
	for _, n := range []int{0, -1, lastDay + 1, lastDay + 2, 1 << 40, math.MinInt, math.MaxInt} {
		with(func(a *asked) { a.from = n })
		with(func(a *asked) { a.to = n })
		with(func(a *asked) { a.from, a.to = n, n })
	}
	return out
}

func TestDailyErrors(t *testing.T) { // P14.2
	right := asked{350, rising(3), api.Act365, api.HalfEven, 100, 200}
	right.isTrue(t)
	for _, a := range wrongArguments(right) {
		a.is(t, 0, api.ErrArg)
	}
	for _, l := range malformed() {
		asked{350, l, api.Act365, api.HalfEven, 100, 200}.is(t, 0, api.ErrForm)
		asked{0, l, api.Act365, api.HalfEven, 100, 100}.is(t, 0, api.ErrForm)
	}
	for _, l := range tooMany() {
		asked{350, l, api.Act365, api.HalfEven, 100, 200}.is(t, 0, api.ErrLong)
	}
	for how := range 4 {
		for mode := range 7 {
			for _, balance := range []int64{0, 350, minor} {
				asked{balance, rising(3), how, mode, 200, 199}.is(t, 0, api.ErrDate)
				asked{balance, tiers(0, rate), how, mode, lastDay, 1}.is(t, 0, api.ErrDate)
				asked{balance, rising(8), how, mode, 2, 1}.is(t, 0, api.ErrDate)
			}
		}
	}
}

// TestDailyAnswersTheLeastError: numbers go ahead of tiers, these ahead of from behind to.
func TestDailyAnswersTheLeastError(t *testing.T) { // P14.2
	for _, l := range append(append(malformed(), tooMany()...), rising(3), tiers(0, rate)) {
		for _, days := range [][2]int{{100, 200}, {200, 100}, {1, lastDay}} {
			for _, a := range wrongArguments(asked{minor, l, api.Act365, api.HalfEven, days[0], days[1]}) {
				a.is(t, 0, api.ErrArg)
			}
		}
	}
	for _, l := range tooMany() {
		asked{350, l, api.Act365, api.HalfEven, 200, 100}.is(t, 0, api.ErrLong)
	}
	for _, l := range malformed() {
		asked{350, l, api.Act365, api.HalfEven, 200, 100}.is(t, 0, api.ErrForm)
		asked{minor, l, api.Act365, api.HalfEven, 1, lastDay}.is(t, 0, api.ErrForm)
	}
}
