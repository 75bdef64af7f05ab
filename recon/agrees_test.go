package recon_test

import (
	"math"
	"math/big"
	"math/rand"
	"slices"
	"testing"

	"passbook/api"
	"passbook/recon"
)

func TestExamples(t *testing.T) { // P21.1, P21.2
	reports(t, 40, small(), recon.Report{Events: 4, Deposits: [4]int64{700}, Cash: [4]int64{700}, Agrees: true})
	trial := []api.Line{line(api.Cash, api.EUR, 7), line(api.Deposits, api.EUR, -7)}
	agrees(t, trial, []api.Account{own(api.EUR, 7)}, true)
	agrees(t, trial, []api.Account{own(api.EUR, 8)}, false)
	agrees(t, trial[1:], []api.Account{own(api.EUR, 7)}, false)
	agrees(t, nil, nil, true)
}

func TestNoLinesAndNoAccounts(t *testing.T) { // P21.1
	agrees(t, []api.Line{}, []api.Account{}, true)
	agrees(t, make([]api.Line, 0, 5), nil, true)
	agrees(t, nil, make([]api.Account, 0, 5), true)
	for cur := range 4 {
		agrees(t, nil, []api.Account{own(cur, 0), owed(cur, 0)}, true)
		agrees(t, nil, []api.Account{own(cur, 5), own(cur, -5), owed(cur, 6), owed(cur, -6)}, true)
		for _, n := range []int64{1, -1, minor, -minor} {
			agrees(t, nil, []api.Account{own(cur, n)}, false)
			agrees(t, nil, []api.Account{owed(cur, n)}, false)
			agrees(t, nil, []api.Account{own(cur, n), owed(cur, n)}, false)
			agrees(t, nil, []api.Account{own(cur, n), owed(cur, -n)}, false)
			agrees(t, []api.Line{line(api.Cash, cur, n), line(api.Deposits, cur, -n)}, nil, false)
			agrees(t, []api.Line{line(api.Loans, cur, n), line(api.Cash, cur, -n)}, nil, false)
			agrees(t, []api.Line{line(api.Loans, cur, n), line(api.Deposits, cur, -n)}, []api.Account{own(cur, n), owed(cur, n)}, true)
		}
		for code := api.Cash; code <= api.Residue; code++ {
			agrees(t, []api.Line{line(code, cur, 0)}, nil, true)
			agrees(t, []api.Line{line(code, cur, 1)}, nil, false)
			for other := code + 1; other <= api.Residue; other++ {
				both := []api.Line{line(code, cur, 5), line(other, cur, -5)}
				agrees(t, both, nil, code != api.Deposits && code != api.Loans && other != api.Deposits && other != api.Loans)
			}
		}
	}
}

// books: lines of every code in every currency, and accounts, that agree.
func books() ([]api.Line, []api.Account) {
	var trial []api.Line
	var accounts []api.Account
	for cur := range 4 {
		n := int64(1000 * (cur + 1))
		trial = append(trial, line(api.Cash, cur, 9*n), line(api.Deposits, cur, -7*n), line(api.Loans, cur, 2*n), line(api.Expense, cur, 3),
			line(api.Income, cur, -3-4*n), line(api.Fees, cur, -1), line(api.Position, cur, 11), line(api.Residue, cur, -10))
		accounts = append(accounts, own(cur, 8*n), own(cur, -n), owed(cur, 2*n-1), owed(cur, 1), own(cur, 0), owed(cur, 0))
	}
	return trial, accounts
}

func TestOneMinorUnitThatIsMoved(t *testing.T) { // P21.1
	trial, accounts := books()
	agrees(t, trial, accounts, true)
	for _, by := range []int64{1, -1} {
		for i := range trial {
			other := slices.Clone(trial)
			n := int64(other[i].Amount.Lo) + by
			other[i].Amount = whole(n)
			agrees(t, other, accounts, false)
			for j := range trial { // from one line to another
				if i == j {
					continue
				}
				pair := slices.Clone(other)
				pair[j].Amount = whole(int64(pair[j].Amount.Lo) - by)
				agrees(t, pair, accounts, plainAgrees(pair, accounts))
			}
		}
		for i := range accounts {
			other := slices.Clone(accounts)
			other[i].Balance += by
			agrees(t, trial, other, false)
			for j := range accounts { // from one account to another: of the same kind and currency that is well
				if i == j {
					continue
				}
				pair := slices.Clone(other)
				pair[j].Balance -= by
				agrees(t, trial, pair, accounts[i].Kind == accounts[j].Kind && accounts[i].Cur == accounts[j].Cur)
			}
		}
	}
	for i := range trial {
		agrees(t, slices.Delete(slices.Clone(trial), i, i+1), accounts, false)
		agrees(t, slices.Insert(slices.Clone(trial), i, trial[i]), accounts, false)
	}
	for i := range accounts {
		agrees(t, trial, slices.Delete(slices.Clone(accounts), i, i+1), accounts[i].Balance == 0)
	}
}

// TestEachCurrencyByItself: what is too much in one isn't made good by another.
func TestEachCurrencyByItself(t *testing.T) { // P21.1
	for cur := range 4 {
		for other := range 4 {
			agrees(t, []api.Line{line(api.Cash, cur, 5), line(api.Fees, other, -5)}, nil, cur == other)
			agrees(t, []api.Line{line(api.Cash, cur, 5), line(api.Deposits, cur, -5)}, []api.Account{own(other, 5)}, cur == other)
			agrees(t, []api.Line{line(api.Cash, cur, -5), line(api.Loans, cur, 5)}, []api.Account{owed(other, 5)}, cur == other)
		}
	}
}

// TestOtherFieldsCountNothing: but the kind, the currency and the balance.
func TestOtherFieldsCountNothing(t *testing.T) { // P21.1
	trial := []api.Line{line(api.Cash, api.USD, 7), line(api.Deposits, api.USD, -7)}
	for _, n := range []int64{0, 1, -1, 10, math.MinInt64, math.MaxInt64} {
		for _, open := range []bool{false, true} {
			a := api.Account{ID: n, Product: n, Cur: api.USD, Kind: api.KindDeposit, Open: open, Balance: 4, Held: n, Accrued: n}
			b := a
			b.Balance = 3
			agrees(t, trial, []api.Account{a, b}, true)
		}
	}
}

func TestALineInSeveralParts(t *testing.T) { // P21.1
	accounts := []api.Account{own(api.KWD, 7), owed(api.KWD, 2)}
	part := func(code int, n int64, scale int) api.Line {
		return api.Line{Code: code, Cur: api.KWD, Amount: scaled(big.NewInt(n), scale)}
	}
	trial := []api.Line{
		part(api.Deposits, -3, 0), part(api.Loans, 1999999999999, 12), part(api.Deposits, -39, 1), part(api.Cash, 501, 2),
		part(api.Deposits, -100000000000, 12), part(api.Loans, 1, 12), part(api.Cash, -1, 2), part(api.Residue, 0, 12),
	}
	agrees(t, trial, accounts, true)
	for i := range trial {
		for _, by := range []int64{1, -1} { // the least part that there is
			more := append(slices.Clone(trial), part(trial[i].Code, by, 12))
			agrees(t, more, accounts, false)
			agrees(t, append(more, part(trial[i].Code, -by, 12)), accounts, true)
		}
	}
	for scale := range 13 {
		agrees(t, []api.Line{part(api.Cash, 7, scale), part(api.Fees, -7, scale)}, nil, true)
		agrees(t, []api.Line{part(api.Cash, 7, scale), part(api.Fees, -7, (scale+1)%13)}, nil, false)
	}
}

func TestHowLongTheListsMayBe(t *testing.T) { // P21.1
	lines := slices.Repeat([]api.Line{line(api.Cash, api.EUR, 1), line(api.Deposits, api.EUR, -1)}, maxLines/2)
	agrees(t, lines, []api.Account{own(api.EUR, maxLines/2)}, true)
	for _, more := range []int{1, 2, maxLines} {
		refuses(t, append(slices.Clone(lines), lines[:more]...), []api.Account{own(api.EUR, maxLines/2)}, api.ErrLong)
		refuses(t, make([]api.Line, maxLines+more), nil, api.ErrLong) // they are not in form, too
	}
	for _, kind := range []int{api.KindDeposit, api.KindLoan} {
		accounts := slices.Repeat([]api.Account{{Kind: kind, Cur: api.JPY, Balance: minor}, {Kind: kind, Cur: api.JPY, Balance: minor - 1}}, maxAccounts/2)
		sum := maxAccounts*int64(minor) - maxAccounts/2
		trial := []api.Line{line(api.Cash, api.JPY, sum), line(api.Deposits, api.JPY, -sum)}
		if kind == api.KindLoan {
			trial = []api.Line{line(api.Cash, api.JPY, -sum), line(api.Loans, api.JPY, sum)}
		}
		agrees(t, trial, accounts, true)
		agrees(t, trial, accounts[1:], false)
		refuses(t, trial, append(slices.Clone(accounts), own(api.EUR, 0)), api.ErrLong)
		refuses(t, trial, append(slices.Clone(accounts), api.Account{}), api.ErrLong)
	}
	refuses(t, nil, make([]api.Account, maxAccounts), api.ErrForm)
	refuses(t, nil, make([]api.Account, maxAccounts+1), api.ErrLong)
	refuses(t, make([]api.Line, maxLines), make([]api.Account, maxAccounts+1), api.ErrLong)
	refuses(t, make([]api.Line, maxLines+1), make([]api.Account, maxAccounts), api.ErrLong)
}

// amongRight: the line, or the account, behind and ahead of right ones.
func amongRight(l api.Line) [][]api.Line {
	right, _ := books()
	return [][]api.Line{{l}, append(slices.Clone(right), l), slices.Insert(slices.Clone(right), 0, l), slices.Insert(slices.Clone(right), 7, l)}
}

func wrongLine(t *testing.T, l api.Line) {
	t.Helper()
	_, accounts := books()
	for _, trial := range amongRight(l) {
		refuses(t, trial, accounts, api.ErrForm)
		refuses(t, trial, nil, api.ErrForm)
	}
}

// rightLine: it is looked at, and doesn't agree unless it is nought.
func rightLine(t *testing.T, l api.Line) {
	t.Helper()
	for _, trial := range amongRight(l) {
		agrees(t, trial, nil, plainAgrees(trial, nil))
	}
}

func TestWrongLines(t *testing.T) { // P21.1
	for _, code := range []int{0, -1, 9, 10, 257, 1 << 32, math.MinInt, math.MaxInt} {
		wrongLine(t, line(code, api.EUR, 0))
	}
	for _, cur := range []int{-1, 4, 5, 256, 1 << 32, math.MinInt, math.MaxInt} {
		wrongLine(t, line(api.Cash, cur, 0))
	}
	for _, scale := range []int{-1, 13, 14, 18, 19, math.MinInt, math.MaxInt} {
		for _, n := range []int64{0, 1, -5} {
			wrongLine(t, api.Line{Code: api.Cash, Amount: scaled(big.NewInt(n), scale)})
		}
	}
	for scale := range 13 {
		least := api.Dec{Hi: math.MinInt64, Scale: scale}
		wrongLine(t, api.Line{Code: api.Cash, Amount: least}) // not in form
		bound := power(24 + scale)
		for _, sign := range []int64{1, -1} {
			for _, more := range []int64{0, 1, 2} {
				n := new(big.Int).Add(bound, big.NewInt(more))
				wrong := api.Line{Code: api.Cash, Amount: scaled(n.Mul(n, big.NewInt(sign)), scale)}
				if more > 0 {
					wrongLine(t, wrong)
				} else {
					rightLine(t, wrong)
				}
			}
			n := new(big.Int).Sub(bound, big.NewInt(1))
			rightLine(t, api.Line{Code: api.Cash, Amount: scaled(n.Mul(n, big.NewInt(sign)), scale)})
			for _, far := range []*big.Int{power(37), power(38), new(big.Int).Sub(new(big.Int).Lsh(big.NewInt(1), 127), big.NewInt(1))} {
				wrongLine(t, api.Line{Code: api.Cash, Amount: scaled(new(big.Int).Mul(far, big.NewInt(sign)), scale)})
			}
		}
	}
	for code := api.Cash; code <= api.Residue; code++ {
		for cur := range 4 {
			rightLine(t, line(code, cur, 0))
			rightLine(t, line(code, cur, 1))
		}
	}
}

func TestWrongAccounts(t *testing.T) { // P21.1
	trial, right := books()
	among := func(a api.Account) [][]api.Account {
		return [][]api.Account{{a}, append(slices.Clone(right), a), slices.Insert(slices.Clone(right), 0, a), slices.Insert(slices.Clone(right), 5, a)}
	}
	wrong := func(a api.Account) {
		t.Helper()
		for _, accounts := range among(a) {
			refuses(t, trial, accounts, api.ErrForm)
			refuses(t, nil, accounts, api.ErrForm)
		}
	}
	for _, kind := range []int{0, -1, 3, 4, 257, 1 << 32, math.MinInt, math.MaxInt} {
		wrong(api.Account{Kind: kind})
	}
	for _, kind := range []int{api.KindDeposit, api.KindLoan} {
		for _, cur := range []int{-1, 4, 5, 256, 1 << 32, math.MinInt, math.MaxInt} {
			wrong(api.Account{Kind: kind, Cur: cur})
		}
		for cur := range 4 {
			for _, n := range []int64{minor + 1, -minor - 1, 2 * minor, 1 << 62, math.MinInt64, math.MinInt64 + 1, math.MaxInt64} {
				wrong(api.Account{Kind: kind, Cur: cur, Balance: n})
			}
			for _, n := range []int64{minor, -minor, minor - 1, -minor + 1, 0, 1} {
				for _, accounts := range among(api.Account{Kind: kind, Cur: cur, Balance: n}) {
					agrees(t, trial, accounts, plainAgrees(trial, accounts))
				}
			}
		}
	}
}

// TestTheGreatestSums: as many lines as there may be, as great as they may be, of one sign first.
func TestTheGreatestSums(t *testing.T) { // P21.1, P3
	for scale := range 13 {
		up, down := scaled(power(24+scale), scale), scaled(new(big.Int).Neg(power(24+scale)), scale)
		for _, codes := range [][2]int{{api.Cash, api.Cash}, {api.Deposits, api.Deposits}, {api.Loans, api.Loans}, {api.Cash, api.Residue}} {
			half := slices.Repeat([]api.Line{{Code: codes[0], Amount: up}}, maxLines/2)
			trial := append(slices.Clone(half), slices.Repeat([]api.Line{{Code: codes[1], Amount: down}}, maxLines/2)...)
			agrees(t, trial, nil, true)
			agrees(t, trial[1:], nil, false)
			trial[0].Amount = scaled(new(big.Int).Sub(power(36), big.NewInt(1)), 12)
			agrees(t, trial, nil, false)
			agrees(t, slices.Concat(half, half), nil, false)
		}
	}
}

// TestAtRandom: few numbers, so that they often agree.
func TestAtRandom(t *testing.T) { // P21.1
	c := rand.New(rand.NewSource(3))
	counts := map[bool]int{}
	for range 60000 {
		var trial []api.Line
		var accounts []api.Account
		for range c.Intn(6) {
			trial = append(trial, api.Line{Code: 1 + c.Intn(3), Cur: c.Intn(2), Amount: scaled(new(big.Int).Mul(big.NewInt(c.Int63n(3)-1), power(3*c.Intn(2))), 3*c.Intn(2))})
		}
		for range c.Intn(4) {
			accounts = append(accounts, api.Account{Kind: 1 + c.Intn(2), Cur: c.Intn(2), Balance: c.Int63n(3) - 1})
		}
		want := plainAgrees(trial, accounts)
		agrees(t, trial, accounts, want)
		counts[want]++
	}
	if min(counts[true], counts[false]) < 1000 {
		t.Errorf("so often they agreed: %v", counts)
	}
}
