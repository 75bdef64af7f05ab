package chart_test

import (
	"math"
	"slices"
	"testing"

	"passbook/api"
	"passbook/chart"
)

const (
	amountBound = "100000000000000000000"     // 10^20
	manyBound   = "800000000000000000000"     // eight times that: what eight lines of an entry bring at most
	bound       = "1000000000000000000000000" // 10^24
	least       = "0.000000000001"
)

func TestExamples(t *testing.T) { // P13.1, P13.2
	l := chart.New()
	answers(t, "Post", l.Post(entry(line(api.Cash, api.EUR, "5"), line(api.Deposits, api.EUR, "-5"))), api.OK)
	if got, e := l.Balance(api.Cash, api.EUR); got != d("5.000000000000") || e != api.OK {
		t.Errorf("Balance(Cash, EUR) = %v, error %d", got, e)
	}
	answers(t, "Post in two currencies", l.Post(entry(line(api.Cash, api.EUR, "5"), line(api.Deposits, api.USD, "-5"))), api.ErrBalance)
	answers(t, "Post to the code 9", l.Post(entry(line(9, api.EUR, "0"))), api.ErrArg)
	if got := l.Trial(); !slices.Equal(got, entry(line(1, 0, "5.000000000000"), line(2, 0, "-5.000000000000"))) {
		t.Errorf("Trial = %v", got)
	}
	answers(t, "Post(0.5, -0.50)", l.Post(entry(line(api.Position, api.JPY, "0.5"), line(api.Residue, api.JPY, "-0.50"))), api.OK)
	answers(t, "Post(scale 13)", l.Post(entry(line(api.Cash, api.EUR, "0.0000000000000"))), api.ErrForm)
	tells(t, "behind it all", l, map[place]string{{1, 0}: "5", {2, 0}: "-5", {7, 2}: "0.5", {8, 2}: "-0.5"}, 2)
}

func TestNewIsNought(t *testing.T) { // P13.1
	l := chart.New()
	tells(t, "a new one", l, nil, 0)
	ledger(t, pair(1, 2, 0, "5"))
	tells(t, "beside another", l, nil, 0)
}

func TestEveryCodeAndCurrency(t *testing.T) { // P13.1, P13.2
	l := chart.New()
	want := map[place]string{}
	posted := 0
	amounts := []string{"1", "20", "300", "4000", "0.5", "0.06", "0.007", "0.000000000008"}
	for code := 1; code <= 8; code++ {
		for cur := range 4 {
			one := chart.New()
			other := code%8 + 1
			answers(t, "Post", one.Post(pair(code, other, cur, "7")), api.OK)
			tells(t, "one entry", one, map[place]string{{code, cur}: "7", {other, cur}: "-7"}, 1)
			if code < 8 {
				amount := amounts[(code+3*cur)%8]
				answers(t, "Post", l.Post(pair(code, 8, cur, amount)), api.OK)
				want[place{code, cur}] = amount
				posted++
			}
		}
	}
	for cur := range 4 {
		left := parts(d("0"))
		for code := 1; code < 8; code++ {
			left.Sub(left, parts(d(want[place{code, cur}])))
		}
		got, e := l.Balance(8, cur)
		if got != decOf(left, 12) || e != api.OK {
			t.Errorf("Balance(8, %d) = %v, error %d", cur, got, e)
		}
		for code := 1; code < 8; code++ {
			if got, _ := l.Balance(code, cur); got != decOf(parts(d(want[place{code, cur}])), 12) {
				t.Errorf("Balance(%d, %d) = %v", code, cur, got)
			}
		}
	}
	if len(l.Trial()) != 32 || l.Entries() != posted {
		t.Errorf("Trial has %d lines, Entries = %d", len(l.Trial()), l.Entries())
	}
}

// TestEntriesOfEveryLength: none, MaxLines, and more.
func TestEntriesOfEveryLength(t *testing.T) { // P13.1
	for count := range 20 {
		lines := make([]api.Line, 0, count)
		for i := range count {
			lines = append(lines, api.Line{Code: i%8 + 1, Cur: i % 4})
		}
		l := chart.New()
		if count > 16 {
			answers(t, "Post of too many lines", l.Post(lines), api.ErrLong)
			tells(t, "too many lines", l, nil, 0)
			continue
		}
		answers(t, "Post", l.Post(lines), api.OK)
		tells(t, "lines of nought", l, nil, 1)
	}
	l := ledger(t, nil, []api.Line{}, pair(1, 2, 3, "5"), nil)
	tells(t, "entries without lines", l, map[place]string{{1, 3}: "5", {2, 3}: "-5"}, 4)
}

func TestSixteenLines(t *testing.T) { // P13.1
	var lines []api.Line
	for code := 1; code <= 8; code++ {
		lines = append(lines, line(code, api.KWD, "3"))
		lines = append(lines, line(9-code, api.KWD, "-3.0"))
	}
	tells(t, "in and out", ledger(t, lines), nil, 1)
	lines[15] = line(2, api.KWD, "-3") // the last line counts
	tells(t, "but for one", ledger(t, lines), map[place]string{{1, 3}: "3", {2, 3}: "-3"}, 1)
	lines[15] = line(2, api.KWD, "-3.000000000001")
	l := chart.New()
	answers(t, "Post", l.Post(lines), api.ErrBalance)
	tells(t, "unbalanced", l, nil, 0)
}

func TestCodesAndCurrencies(t *testing.T) { // P13.1, P13.2
	l := ledger(t, pair(1, 2, 0, "5"))
	codes := []int{0, -1, 9, 10, 1 << 32, 1<<32 + 1, math.MaxInt, math.MinInt}
	currencies := []int{-1, 4, 5, 1 << 32, 1<<32 + 1, math.MaxInt, math.MinInt}
	wrong := func(code, cur int) {
		t.Helper()
		answers(t, "Post", l.Post(entry(line(code, cur, "0"))), api.ErrArg)
		answers(t, "Post of two", l.Post(entry(line(1, 0, "0"), line(code, cur, "0"))), api.ErrArg)
		if got, e := l.Balance(code, cur); got != (api.Dec{}) || e != api.ErrArg {
			t.Errorf("Balance(%d, %d) = %v, error %d", code, cur, got, e)
		}
	}
	for _, code := range codes {
		wrong(code, 0)
		wrong(code, -1)
	}
	for _, cur := range currencies {
		wrong(1, cur)
		if got, e := l.Total(cur); got != (api.Dec{}) || e != api.ErrArg {
			t.Errorf("Total(%d) = %v, error %d", cur, got, e)
		}
	}
	tells(t, "behind them", l, map[place]string{{1, 0}: "5", {2, 0}: "-5"}, 1)
}

func TestAmounts(t *testing.T) { // P13.1
	for _, text := range []string{
		"0", "0.0", "0.000000000000", "1", least, "0.00000000001", "123.456", "99999999999999999999.999999999999",
		amountBound, amountBound + ".0", amountBound + ".000000000000",
	} {
		for _, sign := range []string{"", "-"} {
			tells(t, sign+text, ledger(t, pair(3, 4, 1, sign+text)), map[place]string{{3, 1}: sign + text, {4, 1}: opposite(sign + text)}, 1)
		}
	}
	malformed := []api.Dec{
		outside, at(outside, 12), at(outside, 18), {Scale: -1}, {Scale: 13}, {Scale: 18}, {Scale: 19}, {Lo: 5, Scale: -1},
		{Lo: 5, Scale: math.MaxInt}, {Lo: 5, Scale: math.MinInt}, {Hi: math.MaxInt64, Lo: math.MaxUint64}, {Hi: math.MinInt64, Lo: 1},
		{Hi: math.MaxInt64, Lo: math.MaxUint64, Scale: 12}, {Hi: math.MinInt64, Lo: 1, Scale: 12}, {Hi: math.MaxInt64, Lo: math.MaxUint64, Scale: 18},
	}
	for _, text := range []string{
		"0.0000000000000", "1.0000000000000", "0.0000000000001", "5.000000000000000000",
		"100000000000000000001", "100000000000000000000.1", amountBound + ".000000000001", "1000000000000000000000", bound,
		"18446744073709551616000", // nought in the low word's upper digits
	} {
		malformed = append(malformed, d(text), d("-"+text))
	}
	for _, x := range malformed {
		l := chart.New()
		answers(t, "Post of one", l.Post(entry(api.Line{Code: 1, Amount: x})), api.ErrForm)
		answers(t, "Post of the last one", l.Post(entry(line(1, 0, "0"), api.Line{Code: 1, Amount: x})), api.ErrForm)
		tells(t, "malformed", l, nil, 0)
	}
}

func TestScalesInOneEntry(t *testing.T) { // P13.1, P13.2: nothing is lost
	l := ledger(t,
		entry(line(1, 0, "1"), line(2, 0, "0.5"), line(3, 0, "0.25"), line(4, 0, "0.000000000001"), line(8, 0, "-1.750000000001")),
		entry(line(1, 0, "-0.1"), line(1, 0, "0.000000000002"), line(1, 0, "3"), line(8, 0, "-2.900000000002")),
	)
	tells(t, "many scales", l, map[place]string{
		{1, 0}: "3.900000000002", {2, 0}: "0.5", {3, 0}: "0.25", {4, 0}: "0.000000000001", {8, 0}: "-4.650000000003",
	}, 2)
	for _, text := range []string{"0.9", "0.99999999999", "0.999999999999", "1.000000000001", "1.1", "-1"} {
		answers(t, "Post(1, -"+text+")", l.Post(entry(line(1, 0, "1"), line(2, 0, opposite(text)))), api.ErrBalance)
	}
}

func TestEachCurrencyBalances(t *testing.T) { // P13.1
	var all []api.Line
	for cur := range 4 {
		all = append(all, pair(1, 2, cur, "5")...)
	}
	answers(t, "Post", chart.New().Post(all), api.OK)
	for i := range all {
		l := ledger(t, all)
		before := stateOf(t, l)
		for _, amount := range []string{"4", "0", "-5", "5.000000000001", "4.999999999999", amountBound} {
			wrong := slices.Clone(all)
			wrong[i].Amount = d(amount)
			if wrong[i] != all[i] && wrong[i].Amount != all[i].Amount {
				answers(t, "Post", l.Post(wrong), api.ErrBalance)
			}
			sameState(t, l, before)
		}
		other := slices.Clone(all)
		other[i].Cur = (other[i].Cur + 1) % 4
		answers(t, "Post in another currency", l.Post(other), api.ErrBalance)
		answers(t, "Post without a line", l.Post(slices.Delete(slices.Clone(all), i, i+1)), api.ErrBalance)
		sameState(t, l, before)
	}
	// Currencies that make up for each other's want do not balance.
	l := chart.New()
	answers(t, "Post", l.Post(entry(line(1, 0, "5"), line(1, 1, "-5"))), api.ErrBalance)
	answers(t, "Post", l.Post(entry(line(1, 0, "5"), line(2, 0, "-4"), line(1, 1, "4"), line(2, 1, "-5"))), api.ErrBalance)
	answers(t, "Post of one line", l.Post(entry(line(1, 0, least))), api.ErrBalance)
	tells(t, "unbalanced", l, nil, 0)
}

// filled: a ledger whose Cash is 10^24 in size, and Deposits its opposite.
func filled(t *testing.T, sign string) *chart.Ledger {
	t.Helper()
	var lines []api.Line
	for range 8 {
		lines = append(lines, pair(api.Cash, api.Deposits, api.EUR, sign+amountBound)...)
	}
	l := chart.New()
	for range 1250 {
		if e := l.Post(lines); e != api.OK {
			t.Fatalf("Post answers %d", e)
		}
	}
	return l
}

func TestRange(t *testing.T) { // P13.1
	for _, sign := range []string{"", "-"} {
		turn := func(amount string) string {
			if sign == "" {
				return amount
			}
			return opposite(amount)
		}
		l := filled(t, sign)
		full := map[place]string{{1, 0}: turn(bound), {2, 0}: turn("-" + bound)}
		tells(t, "filled", l, full, 1250)
		for _, x := range []struct {
			name  string
			entry []api.Line
		}{
			{"a part more", pair(1, 2, 0, turn(least))},
			{"one more", pair(1, 2, 0, turn("1"))},
			{"the greatest amount more", pair(1, 2, 0, turn(amountBound))},
			{"Cash alone", pair(1, 3, 0, turn(least))},
			{"Deposits alone", pair(3, 2, 0, turn(least))},
			{"in many lines", entry(line(1, 0, turn("1")), line(3, 0, "0"), line(1, 0, turn("-2")), line(1, 0, turn("1.000000000001")), line(3, 0, turn("-0.000000000001")))},
			{"unbalanced too", entry(line(1, 0, turn(least)))},
			{"unbalanced in another currency", append(pair(1, 2, 0, turn("1")), line(1, 1, "1"))},
		} {
			answers(t, x.name, l.Post(x.entry), api.ErrRange)
			tells(t, x.name, l, full, 1250)
		}
		answers(t, "not beyond, but unbalanced", l.Post(entry(line(1, 0, turn("-1")))), api.ErrBalance)
		answers(t, "beyond, and malformed", l.Post(append(pair(1, 2, 0, turn("1")), line(1, 1, "0.0000000000000"))), api.ErrForm)
		answers(t, "nought", l.Post(pair(1, 2, 0, "0")), api.OK)
		answers(t, "another currency", l.Post(pair(1, 2, 1, turn("1"))), api.OK)
		answers(t, "another code", l.Post(pair(3, 4, 0, turn("1"))), api.OK)
		answers(t, "beyond on the way", l.Post(entry(line(1, 0, turn(amountBound)), line(1, 0, turn("-"+amountBound)))), api.OK)
		answers(t, "beyond on the way, elsewhere too", l.Post(entry(line(1, 0, turn("7")), line(2, 0, turn("-8")), line(2, 0, turn("8")), line(1, 0, turn("-7")))), api.OK)
		answers(t, "less", l.Post(pair(2, 1, 0, turn(least))), api.OK)
		answers(t, "and the same more", l.Post(pair(1, 2, 0, turn(least))), api.OK)
		full[place{1, 1}], full[place{2, 1}] = turn("1"), turn("-1")
		full[place{3, 0}], full[place{4, 0}] = turn("1"), turn("-1")
		tells(t, "behind them", l, full, 1257)
	}
}

// TestTheLeastError: where several errors apply, in whatever line.
func TestTheLeastError(t *testing.T) { // P13.1
	malformed := line(1, 0, "0.0000000000000")
	foreign, unknown := line(1, 4, "0"), line(0, 0, "0")
	lonely := line(1, 0, "1")
	long := make([]api.Line, 15)
	for i := range long {
		long[i] = line(1, 0, "0")
	}
	for _, x := range []struct {
		name  string
		entry []api.Line
		want  api.Errno
	}{
		{"a wrong code behind all", append(append(slices.Clone(long), lonely, malformed), unknown), api.ErrArg},
		{"a wrong currency behind all", append(append(slices.Clone(long), lonely, malformed), foreign), api.ErrArg},
		{"a wrong code in front", append(entry(unknown, malformed), long...), api.ErrArg},
		{"a wrong code with a malformed amount", entry(api.Line{Code: 9, Amount: outside}), api.ErrArg},
		{"a wrong currency with a malformed amount", entry(api.Line{Code: 1, Cur: -1, Amount: outside}), api.ErrArg},
		{"too long and malformed", append(entry(malformed, malformed), long...), api.ErrLong},
		{"too long and unbalanced", append(entry(lonely, lonely), long...), api.ErrLong},
		{"malformed and unbalanced", entry(lonely, malformed), api.ErrForm},
		{"malformed and unbalanced, the other way", entry(malformed, lonely), api.ErrForm},
		{"unbalanced", entry(lonely), api.ErrBalance},
	} {
		l := chart.New()
		answers(t, x.name, l.Post(x.entry), x.want)
		tells(t, x.name, l, nil, 0)
		var none *chart.Ledger
		answers(t, x.name+", no ledger", none.Post(x.entry), min(x.want, api.ErrNone))
	}
}

func TestNilLedger(t *testing.T) { // P13.1, P13.2
	var l *chart.Ledger
	answers(t, "Post", l.Post(pair(1, 2, 0, "5")), api.ErrNone)
	answers(t, "Post of nothing", l.Post(nil), api.ErrNone)
	for code := -1; code <= 10; code++ {
		for cur := -2; cur <= 5; cur++ {
			want := api.ErrArg
			if code >= 1 && code <= 8 && cur >= 0 && cur <= 3 {
				want = api.ErrNone
			}
			if got, e := l.Balance(code, cur); got != (api.Dec{}) || e != want {
				t.Errorf("Balance(%d, %d) = %v, error %d", code, cur, got, e)
			}
		}
	}
	for cur := -2; cur <= 5; cur++ {
		want := api.ErrArg
		if cur >= 0 && cur <= 3 {
			want = api.ErrNone
		}
		if got, e := l.Total(cur); got != (api.Dec{}) || e != want {
			t.Errorf("Total(%d) = %v, error %d", cur, got, e)
		}
	}
	if len(l.Trial()) != 0 || l.Entries() != 0 {
		t.Errorf("Trial = %v, Entries = %d", l.Trial(), l.Entries())
	}
}
