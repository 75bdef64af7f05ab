package chart_test

import (
	"math"
	"math/big"
	"reflect"
	"slices"
	"strings"
	"testing"

	"passbook/api"
	"passbook/chart"
)

var outside = api.Dec{Hi: math.MinInt64} // the one coefficient without an opposite: no Dec has it

// d reads the documents' way to write Decs: as many digits behind the point as
// their scale.
func d(text string) api.Dec {
	whole, part, _ := strings.Cut(text, ".")
	n, ok := new(big.Int).SetString(whole+part, 10)
	if !ok {
		panic("no number: " + text)
	}
	return decOf(n, len(part))
}

func decOf(n *big.Int, scale int) api.Dec {
	hi := new(big.Int).Rsh(n, 64)
	lo := new(big.Int).And(n, new(big.Int).SetUint64(math.MaxUint64))
	return api.Dec{Hi: hi.Int64(), Lo: lo.Uint64(), Scale: scale}
}

// parts: of a Dec of at most 12 digits behind the point, how many parts of 10^-12 it has.
func parts(x api.Dec) *big.Int {
	n := new(big.Int).Lsh(big.NewInt(x.Hi), 64)
	n.Add(n, new(big.Int).SetUint64(x.Lo))
	return n.Mul(n, power(12-x.Scale))
}

func power(n int) *big.Int { return new(big.Int).Exp(big.NewInt(10), big.NewInt(int64(n)), nil) }

func at(x api.Dec, scale int) api.Dec {
	x.Scale = scale
	return x
}

func line(code, cur int, amount string) api.Line {
	return api.Line{Code: code, Cur: cur, Amount: d(amount)}
}

func entry(lines ...api.Line) []api.Line { return lines }

// pair: an entry that moves an amount from one code to another.
func pair(to, from, cur int, amount string) []api.Line {
	return entry(line(to, cur, amount), line(from, cur, opposite(amount)))
}

func opposite(amount string) string {
	if size, negative := strings.CutPrefix(amount, "-"); negative {
		return size
	}
	return "-" + amount
}

// place: a code in a currency.
type place struct{ code, cur int }

// state: all that a ledger tells.
type state struct {
	balances map[place]api.Dec
	totals   [4]api.Dec
	trial    []api.Line
	entries  int
}

func stateOf(t *testing.T, l *chart.Ledger) state {
	t.Helper()
	s := state{balances: map[place]api.Dec{}, trial: l.Trial(), entries: l.Entries()}
	for cur := range 4 {
		for code := 1; code <= 8; code++ {
			balance, e := l.Balance(code, cur)
			answers(t, "Balance", e, api.OK)
			s.balances[place{code, cur}] = balance
		}
		total, e := l.Total(cur)
		answers(t, "Total", e, api.OK)
		s.totals[cur] = total
	}
	return s
}

// sameState: nothing that the ledger tells has changed.
func sameState(t *testing.T, l *chart.Ledger, before state) {
	t.Helper()
	if after := stateOf(t, l); !reflect.DeepEqual(after, before) {
		t.Errorf("the ledger has changed: %v, and was %v", after, before)
	}
}

func answers(t *testing.T, what string, got, want api.Errno) {
	t.Helper()
	if got != want {
		t.Errorf("%s answers %d; want %d", what, got, want)
	}
}

// looksLike: the ledger has these balances, given in parts of 10^-12, and nought
// else; its totals are nought; and its trial is in order.
func looksLike(t *testing.T, what string, l *chart.Ledger, balances map[place]*big.Int, entries int) {
	t.Helper()
	s := stateOf(t, l)
	var trial []api.Line
	for code := 1; code <= 8; code++ {
		for cur := range 4 {
			want := api.Dec{Scale: 12}
			if n := balances[place{code, cur}]; n != nil && n.Sign() != 0 {
				want = decOf(n, 12)
				trial = append(trial, api.Line{Code: code, Cur: cur, Amount: want})
			}
			if got := s.balances[place{code, cur}]; got != want {
				t.Errorf("%s: Balance(%d, %d) = %v; want %v", what, code, cur, got, want)
			}
		}
	}
	if !slices.Equal(s.trial, trial) {
		t.Errorf("%s: Trial = %v; want %v", what, s.trial, trial)
	}
	if s.totals != [4]api.Dec{{Scale: 12}, {Scale: 12}, {Scale: 12}, {Scale: 12}} {
		t.Errorf("%s: the totals are %v", what, s.totals)
	}
	if s.entries != entries {
		t.Errorf("%s: Entries = %d; want %d", what, s.entries, entries)
	}
}

// tells: as looksLike, of balances as texts.
func tells(t *testing.T, what string, l *chart.Ledger, balances map[place]string, entries int) {
	t.Helper()
	all := map[place]*big.Int{}
	for p, text := range balances {
		all[p] = parts(d(text))
	}
	looksLike(t, what, l, all, entries)
}

// ledger: one to which all these entries were posted.
func ledger(t *testing.T, entries ...[]api.Line) *chart.Ledger {
	t.Helper()
	l := chart.New()
	for _, x := range entries {
		if e := l.Post(x); e != api.OK {
			t.Fatalf("Post(%v) answers %d", x, e)
		}
	}
	return l
}
