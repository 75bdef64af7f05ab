package model_test

import (
	"math"
	"math/big"
	"reflect"
	"testing"

	"passbook/api"
	"passbook/model"
	"passbook/prod"
)

func TestNew(t *testing.T) { // P17.1
	for _, day := range []int{1, 2, 40, api.MaxDay - 1, api.MaxDay} {
		m, e := model.New(day)
		if e != api.OK || m.Day() != day {
			t.Fatalf("New(%d): error %d, Day %d", day, e, m.Day())
		}
		if m.Running() || m.Seq() != 0 || len(m.Accounts()) != 0 || len(m.Trial()) != 0 || m.Entries() != 0 {
			t.Errorf("New(%d) has something: %v", day, stateOf(m))
		}
		for i := range 16 {
			if n, e := m.Rate(i/4, i%4); n != 0 || e != api.ErrNone {
				t.Errorf("Rate(%d, %d) of a new model = %d, error %d", i/4, i%4, n, e)
			}
		}
		refuses(t, m, open(10, 1), api.ErrNone)
		happen(t, m, keyed(1, deposits(1, api.EUR, 0)), keyed(2, open(10, 1)))
	}
	for _, day := range []int{0, -1, api.MaxDay + 1, api.MaxDay + 2, math.MinInt, math.MaxInt} {
		if m, e := model.New(day); m != nil || e != api.ErrArg {
			t.Errorf("New(%d) = %v, error %d; want none, ErrArg", day, m, e)
		}
	}
}

func TestTheChaptersExamples(t *testing.T) { // P17.2, P17.3
	m := bank(t, 40, deposits(1, api.EUR, 500), open(10, 1))
	moves(t, m, deposit(10, 1000), 1000)
	refuses(t, m, withdraw(10, 1600), api.ErrFunds)
	moves(t, m, withdraw(10, 1500), 1500)
	balance(t, m, 10, -500, 0)
	refuses(t, m, shut(10), api.ErrBalance)
	refuses(t, m, deposit(11, 5), api.ErrNone)
	moves(t, m, deposit(10, 1000500), 1000500)
	goesOn(t, m, begin(40), step(10, 1, 100000000), roll(41))
	goesOn(t, m, begin(41), step(10, 1, 100000000), roll(42))
	moves(t, m, keyed(7, withdraw(10, 1000500)), 1000500)
	refuses(t, m, keyed(7, withdraw(10, 1000500)), api.ErrSeen)

	m = bank(t, 31, deposits(1, api.EUR, 500), open(10, 1), deposit(10, 1000000))
	goesOn(t, m, begin(31), step(10, 1, 100000000), step(10, 2, 100), step(10, 3, 0), roll(32))
}

func TestProduct(t *testing.T) { // P17.2, P17.3: what prod.Catalogue.Add answers
	c := cmd(api.OpProduct, 7, api.KindLoan, api.KWD, 40, api.Thirty, api.HalfEven, 3, 900)
	c.Tiers = []api.Tier{{From: 0, Rate: 5}, {From: 10, Rate: 1000000000}}
	m := bank(t, 40)
	moves(t, m, c, 0)
	refuses(t, m, c, api.ErrExists)
	refuses(t, m, with(c, 3, 39), api.ErrDate)
	refuses(t, m, with(with(c, 3, 41), 1, api.KindDeposit), api.ErrKind)
	refuses(t, m, with(with(c, 3, 41), 2, api.EUR), api.ErrKind)
	refuses(t, m, tiers(with(c, 0, 8)), api.ErrForm)
	refuses(t, m, tiers(with(c, 0, 8), api.Tier{From: 1}), api.ErrForm)
	refuses(t, m, tiers(with(with(c, 0, 8), 1, 3)), api.ErrArg)
	for place, wrong := range [][]int64{{0, number + 1, -1}, {0, 3, -1}, {-1, 4}, {0, api.MaxDay + 1}, {-1, 4}, {-1, 7}, {-1, minor + 1}, {-1, minor + 1}} {
		for _, n := range append(wrong, math.MinInt64, math.MaxInt64, 1<<60+1) {
			refuses(t, m, with(with(c, 0, 8), place, n), api.ErrArg)
		}
	}
	happen(t, m, open(1, 7))
	if a, e := m.Account(1); e != api.OK || a != (api.Account{ID: 1, Product: 7, Cur: api.KWD, Kind: api.KindLoan, Open: true}) {
		t.Errorf("Account(1) = %v, error %d", a, e)
	}
	for id := int64(100); id < 100+api.MaxProducts-1; id++ {
		moves(t, m, with(c, 0, id), 0)
	}
	refuses(t, m, with(c, 0, 99), api.ErrFull)
	refuses(t, m, with(c, 3, 41), api.ErrFull)
	refuses(t, m, c, api.ErrExists)
	refuses(t, m, with(with(c, 3, 41), 2, api.EUR), api.ErrKind)
}

func TestProductsMeetTheCatalogue(t *testing.T) { // P17.2: the very version that the command tells is added
	m := bank(t, 40)
	catalogue := prod.New()
	for i := range int64(200) {
		c := cmd(api.OpProduct, i%5, 1+i%3/2, i%7%4, 1+i*i%50, i%4, i%7, i*i, i+3)
		c.Tiers = []api.Tier{{From: 0, Rate: i}, {From: 1 + i, Rate: i % 3}, {From: 100, Rate: 1}}[:i%4%3+i%2]
		want := catalogue.Add(productOf(c))
		if want == api.OK {
			moves(t, m, c, 0)
		} else {
			refuses(t, m, c, want)
		}
	}
}

func TestOpen(t *testing.T) { // P17.2, P17.3
	m := bank(t, 40, deposits(1, api.USD, 0), with(deposits(2, api.EUR, 0), 3, 40), with(deposits(3, api.EUR, 0), 3, 41))
	for _, id := range notWithin(number) {
		refuses(t, m, open(id, 1), api.ErrArg)
		refuses(t, m, open(id, 9), api.ErrArg)
	}
	for _, id := range []int64{3, 0, 4, -1, number, number + 1, math.MaxInt64, math.MinInt64} { // 3 holds from tomorrow on
		refuses(t, m, open(10, id), api.ErrNone)
	}
	moves(t, m, open(number, 1), 0)
	moves(t, m, open(1, 2), 0)
	moves(t, m, open(77, 1), 0)
	refuses(t, m, open(1, 1), api.ErrExists)
	refuses(t, m, open(1, 3), api.ErrNone)
	want := []api.Account{
		{ID: 1, Product: 2, Cur: api.EUR, Kind: api.KindDeposit, Open: true},
		{ID: 77, Product: 1, Cur: api.USD, Kind: api.KindDeposit, Open: true},
		{ID: number, Product: 1, Cur: api.USD, Kind: api.KindDeposit, Open: true},
	}
	if got := m.Accounts(); !reflect.DeepEqual(got, want) {
		t.Errorf("Accounts = %v; want %v", got, want)
	}
	posted(t, m, 0, nil)
	happen(t, m, shut(77))
	refuses(t, m, open(77, 1), api.ErrExists)
	goesOn(t, m, begin(40), step(1, 1, 0), step(number, 1, 0), roll(41))
	moves(t, m, open(10, 3), 0)
}

func TestAsManyAccountsAsThereMayBe(t *testing.T) { // P17.2
	m := bank(t, 40, deposits(1, api.EUR, 0))
	for id := int64(api.MaxAccounts); id > 0; id-- {
		happen(t, m, open(id, 1))
	}
	happen(t, m, shut(5)) // a closed account is one, too
	refuses(t, m, open(257, 1), api.ErrFull)
	refuses(t, m, open(257, 2), api.ErrNone)
	refuses(t, m, open(5, 1), api.ErrExists)
	refuses(t, m, open(6, 1), api.ErrExists)
	refuses(t, m, open(0, 1), api.ErrArg)
	for i, a := range m.Accounts() {
		if a.ID != int64(i)+1 || a.Open != (a.ID != 5) {
			t.Errorf("account %d: %v", i, a)
		}
	}
	if due, e := m.Due(); len(due) != 257 || e != api.OK {
		t.Errorf("Due = %d events, error %d", len(due), e)
	}
}

func TestClose(t *testing.T) { // P17.2, P17.3
	m := bank(t, 40, deposits(1, api.EUR, 9), loans(2, api.EUR, 900), open(10, 1), open(11, 1), open(20, 2), deposit(10, 5))
	refuses(t, m, shut(10), api.ErrBalance)
	refuses(t, m, shut(12), api.ErrNone)
	happen(t, m, hold(11, 1, 5))
	refuses(t, m, shut(11), api.ErrBalance) // nothing is there, though something is held
	happen(t, m, free(11, 1), withdraw(10, 6))
	refuses(t, m, shut(10), api.ErrBalance) // overdrawn
	happen(t, m, lend(20, 10, 900, 1))
	refuses(t, m, shut(20), api.ErrBalance)
	goesOn(t, m, begin(40), step(10, 1, 89900), step(11, 1, 0), step(20, 1, 90000), roll(41))
	happen(t, m, deposit(10, 1), repay(20, 10, 900))
	accrued(t, m, 10, 89900)
	accrued(t, m, 20, 90000)
	for _, id := range []int64{10, 11, 20} {
		moves(t, m, shut(id), 0)
		refuses(t, m, shut(id), api.ErrState)
	}
	for _, a := range m.Accounts() {
		if a.Open || a.Accrued != 0 || a.Balance != 0 || a.Held != 0 || a.Cur != api.EUR {
			t.Errorf("closed: %v", a)
		}
	}
	goesOn(t, m, begin(41), roll(42))
}

func TestDeposit(t *testing.T) { // P17.2, P17.3
	m := bank(t, 40, deposits(1, api.USD, 0), loans(2, api.USD, minor), open(10, 1), open(11, 1), open(12, 1), open(20, 2), open(21, 2), shut(12), shut(21))
	for _, amount := range notWithin(minor) {
		for id := range int64(30) {
			refuses(t, m, deposit(id, amount), api.ErrArg)
		}
	}
	moves(t, m, deposit(10, 1), 1)
	moves(t, m, deposit(10, minor-2), minor-2)
	refuses(t, m, deposit(10, 2), api.ErrRange)
	moves(t, m, deposit(10, 1), 1)
	refuses(t, m, deposit(10, 1), api.ErrRange)
	refuses(t, m, deposit(10, minor), api.ErrRange)
	moves(t, m, deposit(11, minor), minor)
	balance(t, m, 10, minor, 0)
	balance(t, m, 11, minor, 0)
	posted(t, m, 4, map[post]*big.Int{{api.Cash, api.USD}: units(2 * minor), {api.Deposits, api.USD}: units(-2 * minor)})
	for _, id := range []int64{0, 9, -10, number, number + 1, math.MaxInt64, math.MinInt64} {
		refuses(t, m, deposit(id, 5), api.ErrNone)
	}
	refuses(t, m, deposit(12, minor), api.ErrState)
	refuses(t, m, deposit(20, minor), api.ErrKind)
	refuses(t, m, deposit(21, minor), api.ErrKind) // closed as well
	happen(t, m, withdraw(10, 7), lend(20, 10, 7, 1))
	refuses(t, m, deposit(20, minor-7), api.ErrKind)
	refuses(t, m, deposit(20, minor-6), api.ErrRange) // of a loan's balance it is asked, too
}

func TestWithdraw(t *testing.T) { // P17.2, P17.3
	m := bank(t, 40, deposits(1, api.JPY, 0), deposits(2, api.JPY, 500), deposits(3, api.JPY, minor), loans(4, api.JPY, 10),
		open(10, 1), open(11, 2), open(12, 3), open(13, 1), open(14, 2), open(15, 4), shut(13), shut(14))
	for _, amount := range notWithin(minor) {
		for id := range int64(20) {
			refuses(t, m, withdraw(id, amount), api.ErrArg)
		}
	}
	refuses(t, m, withdraw(10, 1), api.ErrFunds)
	happen(t, m, deposit(10, 100), deposit(11, 100))
	refuses(t, m, withdraw(10, 101), api.ErrFunds)
	refuses(t, m, withdraw(11, 601), api.ErrFunds)
	refuses(t, m, withdraw(11, minor), api.ErrFunds)
	happen(t, m, hold(10, 1, 30), hold(10, 2, 30), hold(11, 1, 550))
	refuses(t, m, withdraw(10, 41), api.ErrFunds)
	refuses(t, m, withdraw(11, 51), api.ErrFunds)
	moves(t, m, withdraw(10, 40), 40)
	moves(t, m, withdraw(11, 50), 50)
	refuses(t, m, withdraw(10, 1), api.ErrFunds)
	refuses(t, m, withdraw(11, 1), api.ErrFunds)
	happen(t, m, free(11, 1))
	moves(t, m, withdraw(11, 550), 550)
	moves(t, m, withdraw(12, minor), minor)
	refuses(t, m, withdraw(12, 1), api.ErrFunds)
	balance(t, m, 10, 60, 60)
	balance(t, m, 11, -500, 0)
	balance(t, m, 12, -minor, 0)
	posted(t, m, 6, map[post]*big.Int{{api.Cash, api.JPY}: units(60 - 500 - minor), {api.Deposits, api.JPY}: units(minor + 500 - 60)})
	happen(t, m, deposit(12, minor), deposit(12, minor))
	balance(t, m, 12, minor, 0)

	refuses(t, m, withdraw(16, 1), api.ErrNone)
	refuses(t, m, withdraw(13, 1), api.ErrFunds) // closed, but ErrFunds is less
	refuses(t, m, withdraw(14, 500), api.ErrState)
	refuses(t, m, withdraw(14, 501), api.ErrFunds)
	refuses(t, m, withdraw(15, 10), api.ErrKind)
	refuses(t, m, withdraw(15, 11), api.ErrKind)
}

func TestALimitIsThatOfTheVersionThatHolds(t *testing.T) { // P17.2: the version of an account
	m := bank(t, 40, deposits(1, api.EUR, 100), with(deposits(1, api.EUR, 300), 3, 41), with(deposits(1, api.EUR, 50), 3, 43), open(10, 1))
	refuses(t, m, withdraw(10, 101), api.ErrFunds)
	goesOn(t, m, begin(40), step(10, 1, 0), roll(41))
	refuses(t, m, withdraw(10, 301), api.ErrFunds)
	moves(t, m, withdraw(10, 300), 300)
	goesOn(t, m, begin(41), step(10, 1, 0), roll(42))
	goesOn(t, m, begin(42), step(10, 1, 0), roll(43))
	moves(t, m, deposit(10, 250), 250) // below its limit by 250 before
	refuses(t, m, withdraw(10, 1), api.ErrFunds)
	refuses(t, m, hold(10, 1, 1), api.ErrFunds)
	moves(t, m, deposit(10, 1), 1)
	moves(t, m, hold(10, 1, 1), 0)
	happen(t, m, with(deposits(1, api.EUR, 51), 3, 44))
	refuses(t, m, withdraw(10, 1), api.ErrFunds)
	m = bank(t, 44, deposits(1, api.EUR, 0), open(10, 1), with(deposits(1, api.EUR, 9), 3, 43)) // behind the opening, from yesterday on
	moves(t, m, withdraw(10, 9), 9)
}

func TestTransfer(t *testing.T) { // P17.2, P17.3
	m := bank(t, 40, deposits(1, api.EUR, 0), deposits(2, api.USD, 100), deposits(3, api.EUR, 7), loans(4, api.EUR, 10),
		open(10, 1), open(11, 1), open(12, 2), open(13, 3), open(14, 3), open(15, 1), open(20, 4), shut(14), shut(15), deposit(10, 1000))
	for _, amount := range notWithin(minor) {
		refuses(t, m, transfer(10, 11, amount), api.ErrArg)
		refuses(t, m, transfer(10, 12, amount), api.ErrArg)
		refuses(t, m, transfer(98, 99, amount), api.ErrArg)
	}
	refuses(t, m, transfer(10, 10, 5), api.ErrArg)
	refuses(t, m, transfer(99, 99, 5), api.ErrArg)
	refuses(t, m, transfer(20, 20, 5), api.ErrArg)
	refuses(t, m, transfer(10, 12, 5), api.ErrCur)
	refuses(t, m, transfer(10, 12, 1001), api.ErrCur)
	refuses(t, m, transfer(10, 11, 1001), api.ErrFunds)
	refuses(t, m, transfer(10, 99, 5), api.ErrNone)
	refuses(t, m, transfer(99, 10, 5), api.ErrNone)
	refuses(t, m, transfer(98, 99, 5), api.ErrNone)
	refuses(t, m, transfer(10, 14, 5), api.ErrState)
	refuses(t, m, transfer(14, 10, 7), api.ErrState)
	refuses(t, m, transfer(14, 10, 8), api.ErrFunds)
	refuses(t, m, transfer(15, 14, 1), api.ErrFunds)
	refuses(t, m, transfer(10, 20, 5), api.ErrKind)
	refuses(t, m, transfer(20, 10, 5), api.ErrKind)
	refuses(t, m, transfer(20, 12, 5), api.ErrCur)
	moves(t, m, transfer(10, 11, 1), 1)
	moves(t, m, transfer(10, 11, 999), 999)
	moves(t, m, transfer(13, 10, 7), 7)
	refuses(t, m, transfer(13, 10, 1), api.ErrFunds)
	balance(t, m, 10, 7, 0)
	balance(t, m, 11, 1000, 0)
	balance(t, m, 13, -7, 0)
	posted(t, m, 4, map[post]*big.Int{{api.Cash, api.EUR}: units(1000), {api.Deposits, api.EUR}: units(-1000)})
	moves(t, m, deposit(10, minor-500), minor-500)
	moves(t, m, transfer(11, 10, 493), 493)
	refuses(t, m, transfer(11, 10, 1), api.ErrRange)
	refuses(t, m, transfer(11, 10, 508), api.ErrRange) // more than it can spend, too
	refuses(t, m, transfer(99, 10, 1), api.ErrRange)   // there is no 99, but ErrRange is less
	refuses(t, m, transfer(12, 10, 1), api.ErrRange)
	refuses(t, m, transfer(14, 10, 1), api.ErrRange)
	refuses(t, m, transfer(20, 10, 1), api.ErrRange)
}

func TestHolds(t *testing.T) { // P17.2, P17.3
	m := bank(t, 40, deposits(1, api.EUR, 10), loans(2, api.EUR, 100), open(10, 1), open(11, 1), open(12, 1), open(20, 2), shut(12), deposit(10, 100))
	for _, wrong := range notWithin(number) {
		refuses(t, m, hold(10, wrong, 5), api.ErrArg)
		refuses(t, m, hold(99, wrong, 5), api.ErrArg)
		refuses(t, m, free(10, wrong), api.ErrArg)
		refuses(t, m, free(99, wrong), api.ErrArg)
	}
	for _, wrong := range notWithin(minor) {
		refuses(t, m, hold(10, 1, wrong), api.ErrArg)
		refuses(t, m, hold(99, 1, wrong), api.ErrArg)
	}
	refuses(t, m, free(10, 1), api.ErrNone)
	refuses(t, m, hold(10, 1, 111), api.ErrFunds)
	moves(t, m, hold(10, 1, 100), 0)
	moves(t, m, hold(10, number, 1), 0)
	refuses(t, m, hold(10, 1, 5), api.ErrExists)
	refuses(t, m, hold(10, 1, minor), api.ErrExists)
	refuses(t, m, hold(10, 2, 10), api.ErrFunds)
	balance(t, m, 10, 100, 101)
	moves(t, m, hold(11, 1, 10), 0) // the same number on another account
	refuses(t, m, free(11, number), api.ErrNone)
	moves(t, m, free(10, 1), 0)
	refuses(t, m, free(10, 1), api.ErrNone)
	balance(t, m, 10, 100, 1)
	balance(t, m, 11, 0, 10)
	moves(t, m, hold(10, 1, 109), 0)
	balance(t, m, 10, 100, 110)
	refuses(t, m, hold(99, 1, 5), api.ErrNone)
	refuses(t, m, free(99, 1), api.ErrNone)
	refuses(t, m, hold(12, 1, 10), api.ErrState)
	refuses(t, m, hold(12, 1, 11), api.ErrFunds)
	refuses(t, m, free(12, 1), api.ErrNone)
	refuses(t, m, hold(20, 1, 5), api.ErrKind)
	refuses(t, m, hold(20, 1, 101), api.ErrKind)
	refuses(t, m, free(20, 1), api.ErrNone)
	posted(t, m, 1, map[post]*big.Int{{api.Cash, api.EUR}: units(100), {api.Deposits, api.EUR}: units(-100)})
}

func TestAsManyHoldsAsThereMayBe(t *testing.T) { // P17.2
	m := bank(t, 40, deposits(1, api.EUR, 10), open(10, 1), open(11, 1), deposit(10, 55), deposit(11, 1))
	for n := int64(1); n <= api.MaxHolds; n++ {
		happen(t, m, hold(10, n, 1))
	}
	balance(t, m, 10, 55, 64)
	refuses(t, m, hold(10, 65, 1), api.ErrFull)
	refuses(t, m, hold(10, 65, 2), api.ErrFunds)
	refuses(t, m, hold(10, 64, 1), api.ErrExists)
	moves(t, m, hold(11, 65, 1), 0)
	moves(t, m, free(10, 33), 0)
	moves(t, m, hold(10, 65, 2), 0)
	refuses(t, m, hold(10, 33, 1), api.ErrFunds)
	happen(t, m, deposit(10, 1))
	refuses(t, m, hold(10, 33, 1), api.ErrFull)
	balance(t, m, 10, 56, 65)
}

func TestLend(t *testing.T) { // P17.2, P17.3
	m := bank(t, 40, deposits(1, api.KWD, 0), loans(2, api.KWD, 1000), loans(3, api.USD, 5), loans(4, api.KWD, minor), deposits(5, api.USD, 0),
		open(10, 1), open(11, 1), open(12, 5), open(20, 2), open(21, 2), open(22, 3), open(23, 4), open(24, 4), shut(11), shut(24))
	for _, wrong := range notWithin(minor) {
		refuses(t, m, lend(20, 10, wrong, 12), api.ErrArg)
		refuses(t, m, lend(98, 99, wrong, 12), api.ErrArg)
	}
	for _, wrong := range notWithin(api.MaxMonths) {
		refuses(t, m, lend(20, 10, 5, wrong), api.ErrArg)
		refuses(t, m, lend(98, 99, 5, wrong), api.ErrArg)
	}
	refuses(t, m, lend(20, 10, 1001, 12), api.ErrLimit)
	refuses(t, m, lend(20, 99, 1001, 12), api.ErrNone)
	refuses(t, m, lend(99, 10, 1001, 12), api.ErrNone)
	refuses(t, m, lend(20, 12, 1001, 12), api.ErrCur)
	refuses(t, m, lend(22, 10, 5, 12), api.ErrCur)
	refuses(t, m, lend(10, 20, 5, 12), api.ErrKind)
	refuses(t, m, lend(20, 21, 5, 12), api.ErrKind)
	refuses(t, m, lend(20, 20, 5, 12), api.ErrKind)
	refuses(t, m, lend(10, 10, 5, 12), api.ErrKind)
	refuses(t, m, lend(10, 10, minor, 12), api.ErrKind)
	refuses(t, m, lend(20, 11, 5, 12), api.ErrState)
	refuses(t, m, lend(24, 10, 5, 12), api.ErrState)
	refuses(t, m, lend(20, 11, 1001, 12), api.ErrLimit)
	moves(t, m, lend(20, 10, 1000, 1), 1000)
	refuses(t, m, lend(20, 10, 1, 12), api.ErrState)
	refuses(t, m, lend(20, 10, 1001, 12), api.ErrLimit)
	moves(t, m, lend(21, 10, 1, api.MaxMonths), 1)
	balance(t, m, 10, 1001, 0)
	balance(t, m, 20, 1000, 0)
	balance(t, m, 21, 1, 0)
	refuses(t, m, lend(23, 10, minor, 12), api.ErrRange)
	refuses(t, m, lend(23, 10, minor-1000, 12), api.ErrRange)
	refuses(t, m, lend(20, 10, minor-1000, 12), api.ErrRange)
	refuses(t, m, lend(99, 10, minor-1000, 12), api.ErrRange)
	refuses(t, m, lend(22, 10, minor-1000, 12), api.ErrRange)
	refuses(t, m, lend(21, 20, minor, 12), api.ErrRange) // of the account that stands where a deposit must
	moves(t, m, lend(23, 10, minor-1001, 480), minor-1001)
	posted(t, m, 3, map[post]*big.Int{{api.Loans, api.KWD}: units(minor), {api.Deposits, api.KWD}: units(-minor)})
	happen(t, m, repay(20, 10, 1000))
	moves(t, m, lend(20, 10, 5, 1), 5) // a loan may be lent again
}

func TestRepay(t *testing.T) { // P17.2, P17.3
	m := bank(t, 40, deposits(1, api.EUR, 0), deposits(2, api.USD, 0), loans(3, api.EUR, 1000), deposits(4, api.EUR, 600),
		open(10, 1), open(11, 1), open(12, 2), open(13, 4), open(20, 3), open(21, 3), shut(11), shut(13), lend(20, 10, 1000, 12))
	for _, wrong := range notWithin(minor) {
		refuses(t, m, repay(20, 10, wrong), api.ErrArg)
		refuses(t, m, repay(98, 99, wrong), api.ErrArg)
	}
	refuses(t, m, repay(20, 10, 1001), api.ErrLimit)
	refuses(t, m, repay(21, 10, 1), api.ErrLimit)
	happen(t, m, withdraw(10, 400))
	refuses(t, m, repay(20, 10, 601), api.ErrFunds)
	happen(t, m, hold(10, 1, 100))
	refuses(t, m, repay(20, 10, 501), api.ErrFunds)
	refuses(t, m, repay(20, 10, 1001), api.ErrLimit)
	refuses(t, m, repay(20, 12, 1), api.ErrCur)
	refuses(t, m, repay(20, 12, 1001), api.ErrCur)
	refuses(t, m, repay(20, 99, 1001), api.ErrNone)
	refuses(t, m, repay(99, 10, 1001), api.ErrNone)
	refuses(t, m, repay(10, 10, 1), api.ErrKind)
	refuses(t, m, repay(20, 20, 1), api.ErrKind)
	refuses(t, m, repay(10, 20, 1), api.ErrKind)
	refuses(t, m, repay(20, 11, 1), api.ErrFunds)
	refuses(t, m, repay(20, 13, 600), api.ErrState)
	refuses(t, m, repay(20, 13, 601), api.ErrFunds)
	moves(t, m, repay(20, 10, 1), 1)
	moves(t, m, repay(20, 10, 499), 499)
	balance(t, m, 10, 100, 100)
	balance(t, m, 20, 500, 0)
	posted(t, m, 4, map[post]*big.Int{{api.Loans, api.EUR}: units(500), {api.Deposits, api.EUR}: units(-100), {api.Cash, api.EUR}: units(-400)})
	happen(t, m, deposit(10, 500))
	refuses(t, m, repay(20, 10, 501), api.ErrLimit)
	moves(t, m, repay(20, 10, 500), 500)
	moves(t, m, shut(20), 0)
	refuses(t, m, repay(20, 10, 1), api.ErrLimit) // closed, but ErrLimit is less
}

func TestRates(t *testing.T) { // P17.2, P17.3, P17.4
	m := bank(t, 40)
	none := []int64{-1, 4, 5, math.MinInt64, math.MaxInt64, 1 << 32}
	for _, wrong := range none {
		refuses(t, m, rates(wrong, 0, 5), api.ErrArg)
		refuses(t, m, rates(0, wrong, 5), api.ErrArg)
		refuses(t, m, rates(wrong, wrong, 5), api.ErrArg)
		for _, cur := range currencies() {
			for _, pair := range [][2]int{{int(wrong), cur}, {cur, int(wrong)}, {int(wrong), int(wrong)}} {
				if n, e := m.Rate(pair[0], pair[1]); n != 0 || e != api.ErrArg {
					t.Errorf("Rate(%v) = %d, error %d; want ErrArg", pair, n, e)
				}
			}
		}
	}
	for _, wrong := range notWithin(rate) {
		refuses(t, m, rates(0, 1, wrong), api.ErrArg)
		refuses(t, m, rates(2, 2, wrong), api.ErrArg)
	}
	told := map[[2]int64]int64{}
	for round := range int64(3) {
		for i := range int64(16) {
			cur, other := i/4, i%4
			price := []int64{1, rate, 500 + i}[round]
			if cur == other {
				refuses(t, m, rates(cur, other, price), api.ErrCur)
				continue
			}
			moves(t, m, rates(cur, other, price), 0)
			told[[2]int64{cur, other}] = price
			for i := range 16 {
				n, e := m.Rate(i/4, i%4)
				want := told[[2]int64{int64(i / 4), int64(i % 4)}]
				if n != want || (e == api.OK) != (want > 0) || e != api.OK && e != api.ErrNone {
					t.Errorf("Rate(%d, %d) = %d, error %d; want %d", i/4, i%4, n, e, want)
				}
			}
		}
	}
	posted(t, m, 0, nil)
}
