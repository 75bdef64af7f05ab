package recon_test

import (
	"fmt"
	"math/big"
	"slices"
	"testing"

	"passbook/api"
	"passbook/model"
	"passbook/recon"
)

const (
	minor       = 10000000000000 // the greatest balance
	maxLines    = 64
	maxAccounts = 4096
	january     = 31         // the last day of a month
	one         = 1000000000 // the rate of one for one
	lastDay     = 3652059
)

func cmd(op byte, numbers ...int64) api.Event {
	e := api.Event{Op: op}
	copy(e.N[:], numbers)
	return e
}

func keyed(key uint64, c api.Event) api.Event {
	c.Key = key
	return c
}

func tiers(c api.Event, l ...api.Tier) api.Event {
	c.Tiers = l
	return c
}

// product: from day 1 on, of 3.65 percent, Act365, Down.
func product(id, kind, cur, fee, limit int64) api.Event {
	return tiers(cmd(api.OpProduct, id, kind, cur, 1, api.Act365, api.Down, fee, limit), api.Tier{From: 0, Rate: 36500000})
}

func open(id, product int64) api.Event              { return cmd(api.OpOpen, id, product) }
func shut(id int64) api.Event                       { return cmd(api.OpClose, id) }
func deposit(id, amount int64) api.Event            { return cmd(api.OpDeposit, id, amount) }
func withdraw(id, amount int64) api.Event           { return cmd(api.OpWithdraw, id, amount) }
func transfer(from, to, amount int64) api.Event     { return cmd(api.OpTransfer, from, to, amount) }
func hold(id, number, amount int64) api.Event       { return cmd(api.OpHold, id, number, amount) }
func free(id, number int64) api.Event               { return cmd(api.OpFree, id, number) }
func lend(loan, id, amount, months int64) api.Event { return cmd(api.OpLend, loan, id, amount, months) }
func repay(loan, id, amount int64) api.Event        { return cmd(api.OpRepay, loan, id, amount) }
func rate(cur, other, rate int64) api.Event         { return cmd(api.OpRate, cur, other, rate) }
func exchange(from, to, amount int64) api.Event     { return cmd(api.OpExchange, from, to, amount) }

// night stands among commands for a whole end of day.
func night() api.Event { return api.Event{Op: api.OpBegin} }

// events: all that the commands, one behind the other, bring.
func events(t *testing.T, start int, commands ...api.Event) []api.Event {
	t.Helper()
	m, e := model.New(start)
	answers(t, "New", e, api.OK)
	var all []api.Event
	for _, c := range commands {
		brings := []api.Event{c}
		if c.Op == api.OpBegin {
			brings, e = m.Due()
		} else {
			brings[0], _, e = m.Plan(c)
		}
		answers(t, fmt.Sprint(c), e, api.OK)
		for _, one := range brings {
			answers(t, fmt.Sprint(one), m.Apply(one), api.OK)
		}
		all = append(all, brings...)
	}
	return all
}

// small: the events of chapter 20's first example, on the day 40.
func small() []api.Event {
	return []api.Event{
		tiers(cmd(api.OpProduct, 1, 1, 0, 1, 1), api.Tier{Rate: 5}),
		open(10, 1), deposit(10, 1000), withdraw(10, 300),
	}
}

// storyDay: the day on which the story begins; its second end of day is that of a month.
const storyDay = january - 1

// story: commands of each kind, in each currency.
func story() []api.Event {
	return []api.Event{
		keyed(1, product(1, api.KindDeposit, api.EUR, 7, 500)), product(2, api.KindDeposit, api.JPY, 0, 0), product(3, api.KindLoan, api.EUR, 0, minor),
		product(4, api.KindDeposit, api.KWD, 3, 0), product(5, api.KindDeposit, api.USD, 1, minor), product(6, api.KindLoan, api.KWD, 0, minor),
		open(10, 1), keyed(2, open(11, 1)), open(13, 1), open(20, 2), open(30, 3), open(40, 4), open(50, 5), open(60, 6),
		keyed(7, deposit(10, 1000000)), transfer(10, 11, 250000), hold(10, 5, 1000), deposit(13, 5), withdraw(50, 777),
		rate(api.EUR, api.JPY, 1605000000), exchange(10, 20, 1001), exchange(10, 20, 1), lend(30, 10, 777777, 12), lend(60, 40, 123456, 1),
		night(),
		withdraw(11, 250500), repay(30, 10, 77), transfer(13, 10, 5), shut(13), deposit(40, 1000), free(10, 5),
		night(),
		night(),
		deposit(11, 600), withdraw(20, 1), rate(api.JPY, api.KWD, 2*one), exchange(20, 40, 3), deposit(20, 12), deposit(50, 7),
		night(),
		repay(30, 10, 100), deposit(40, 1), withdraw(40, 2),
	}
}

func answers(t *testing.T, what string, got, want api.Errno) {
	t.Helper()
	if got != want {
		t.Fatalf("%s: error %d, want %d", what, got, want)
	}
}

// whole: so many minor units, of scale 0.
func whole(n int64) api.Dec { return scaled(big.NewInt(n), 0) }

// power: of ten.
func power(n int) *big.Int { return new(big.Int).Exp(big.NewInt(10), big.NewInt(int64(n)), nil) }

// scaled: the coefficient, whatever its size, as the words of a Dec.
func scaled(n *big.Int, scale int) api.Dec {
	low := new(big.Int).And(n, new(big.Int).SetUint64(^uint64(0)))
	return api.Dec{Hi: new(big.Int).Rsh(n, 64).Int64(), Lo: low.Uint64(), Scale: scale}
}

// finest: the amount in parts of 10^-12 of a minor unit.
func finest(d api.Dec) *big.Int {
	n := new(big.Int).Lsh(big.NewInt(d.Hi), 64)
	n.Add(n, new(big.Int).SetUint64(d.Lo))
	return n.Mul(n, power(12-d.Scale))
}

func line(code, cur int, n int64) api.Line { return api.Line{Code: code, Cur: cur, Amount: whole(n)} }

func own(cur int, balance int64) api.Account {
	return api.Account{Cur: cur, Kind: api.KindDeposit, Balance: balance}
}

func owed(cur int, balance int64) api.Account {
	return api.Account{Cur: cur, Kind: api.KindLoan, Balance: balance}
}

// plainAgrees: by the document's words, with numbers of any size.
func plainAgrees(trial []api.Line, accounts []api.Account) bool {
	for cur := range 4 {
		all, deposits, loans := new(big.Int), new(big.Int), new(big.Int)
		for _, l := range trial {
			if l.Cur != cur {
				continue
			}
			all.Add(all, finest(l.Amount))
			switch l.Code {
			case api.Deposits:
				deposits.Add(deposits, finest(l.Amount))
			case api.Loans:
				loans.Add(loans, finest(l.Amount))
			}
		}
		for _, a := range accounts {
			n := new(big.Int).Mul(big.NewInt(a.Balance), power(12))
			switch {
			case a.Cur != cur:
			case a.Kind == api.KindDeposit:
				deposits.Add(deposits, n)
			default:
				loans.Sub(loans, n)
			}
		}
		if all.Sign() != 0 || deposits.Sign() != 0 || loans.Sign() != 0 {
			return false
		}
	}
	return true
}

// agrees: just that, whatever the order of the lines and of the accounts.
func agrees(t *testing.T, trial []api.Line, accounts []api.Account, want bool) {
	t.Helper()
	for range 2 {
		if got, e := recon.Agrees(trial, accounts); got != want || e != api.OK {
			t.Fatalf("Agrees(%v, %v) = %t, error %d; want %t", trial, accounts, got, e, want)
		}
		trial, accounts = slices.Clone(trial), slices.Clone(accounts)
		slices.Reverse(trial)
		slices.Reverse(accounts)
	}
}

func refuses(t *testing.T, trial []api.Line, accounts []api.Account, want api.Errno) {
	t.Helper()
	if got, e := recon.Agrees(trial, accounts); got || e != want {
		t.Fatalf("Agrees(%.300v, %.300v) = %t, error %d; want error %d", trial, accounts, got, e, want)
	}
}

// reports: just that.
func reports(t *testing.T, start int, events []api.Event, want recon.Report) {
	t.Helper()
	if got, e := recon.Make(start, events); got != want || e != api.OK {
		t.Fatalf("Make(%d, %.300v) = %v, error %d; want %v", start, events, got, e, want)
	}
}

func reportsNone(t *testing.T, start int, events []api.Event, want api.Errno) {
	t.Helper()
	if got, e := recon.Make(start, events); got != (recon.Report{}) || e != want {
		t.Fatalf("Make(%d, %.300v) = %v, error %d; want error %d", start, events, got, e, want)
	}
}
