package model_test

import (
	"math/big"
	"testing"

	"passbook/api"
	"passbook/model"
)

// changer: two open deposits in each currency, 10 to 13 with so much and 20 to 23 with nothing, and no limit.
func changer(t *testing.T, amount int64) *model.Model {
	t.Helper()
	m := bank(t, 40)
	for _, cur := range currencies() {
		n := int64(cur)
		happen(t, m, deposits(1+n, n, 0), open(10+n, 1+n), open(20+n, 1+n), deposit(10+n, amount))
	}
	return m
}

func TestExchange(t *testing.T) { // P17.2, P17.3: the examples of chapter 16
	for _, c := range []struct {
		cur, other, rate, amount, got int64
		residue                       int64
	}{
		{api.EUR, api.USD, 1100000000, 333, 366, 300000000000},
		{api.EUR, api.JPY, 160500000000, 101, 162, 105000000000},
		{api.JPY, api.KWD, 2000000, 7, 14, 0},
		{api.USD, api.EUR, one, 1000, 1000, 0},
		{api.KWD, api.JPY, one, 999, 0, 999000000000}, // nothing is got
		{api.KWD, api.JPY, 1, 1, 0, 1},
		{api.EUR, api.JPY, 1, 1000, 0, 10000},
	} {
		m := changer(t, 1000)
		happen(t, m, rates(c.cur, c.other, c.rate))
		entries := m.Entries()
		books := ledger(m)
		moves(t, m, exchange(10+c.cur, 20+c.other, c.amount), c.got)
		balance(t, m, 10+c.cur, 1000-c.amount, 0)
		balance(t, m, 20+c.other, c.got, 0)
		add := func(code, cur int64, amount *big.Int) {
			place := post{int(code), int(cur)}
			if books[place] == nil {
				books[place] = new(big.Int)
			}
			if books[place].Add(books[place], amount).Sign() == 0 {
				delete(books, place)
			}
		}
		add(api.Deposits, c.cur, units(c.amount))
		add(api.Position, c.cur, units(-c.amount))
		add(api.Position, c.other, new(big.Int).Add(units(c.got), big.NewInt(c.residue)))
		add(api.Deposits, c.other, units(-c.got))
		add(api.Residue, c.other, big.NewInt(-c.residue))
		posted(t, m, entries+2, books)
	}
}

func TestExchangeOfGreatAmounts(t *testing.T) { // P17.2: to the last part of a minor unit
	m := changer(t, minor)
	happen(t, m, rates(0, 2, 99999999999))
	moves(t, m, exchange(10, 22, minor-1), 9999999999899)
	posted(t, m, 6, map[post]*big.Int{
		{api.Cash, 0}: units(minor), {api.Cash, 1}: units(minor), {api.Cash, 2}: units(minor), {api.Cash, 3}: units(minor),
		{api.Deposits, 0}: units(-1), {api.Deposits, 1}: units(-minor), {api.Deposits, 2}: units(-minor - 9999999999899), {api.Deposits, 3}: units(-minor),
		{api.Position, 0}: units(1 - minor),
		{api.Position, 2}: new(big.Int).Add(units(9999999999899), big.NewInt(10)),
		{api.Residue, 2}:  big.NewInt(-10),
	})
}

func TestExchangeIsRefused(t *testing.T) { // P17.2, P17.3
	m := changer(t, 1000)
	happen(t, m, rates(0, 1, one), loans(9, api.USD, 100), deposits(8, api.USD, 30), deposits(7, api.EUR, 30),
		open(30, 9), open(31, 8), shut(31), open(32, 7), shut(32), loans(6, api.EUR, 100), open(33, 6))
	for _, wrong := range notWithin(minor) {
		refuses(t, m, exchange(10, 21, wrong), api.ErrArg)
		refuses(t, m, exchange(10, 22, wrong), api.ErrArg)
		refuses(t, m, exchange(98, 99, wrong), api.ErrArg)
	}
	refuses(t, m, exchange(10, 10, 5), api.ErrArg)
	refuses(t, m, exchange(99, 99, 5), api.ErrArg)
	refuses(t, m, exchange(10, 20, 5), api.ErrNone) // one currency, of which there is no rate
	refuses(t, m, exchange(11, 20, 5), api.ErrNone) // the rate is the other way
	refuses(t, m, exchange(10, 22, 5), api.ErrNone)
	refuses(t, m, exchange(10, 22, 1001), api.ErrNone)
	refuses(t, m, exchange(10, 99, 5), api.ErrNone)
	refuses(t, m, exchange(99, 21, 5), api.ErrNone)
	refuses(t, m, exchange(99, 21, 1001), api.ErrNone)
	refuses(t, m, exchange(10, 21, 1001), api.ErrFunds)
	refuses(t, m, exchange(10, 30, 5), api.ErrKind)
	refuses(t, m, exchange(33, 21, 5), api.ErrKind)
	refuses(t, m, exchange(10, 31, 5), api.ErrState)
	refuses(t, m, exchange(32, 21, 30), api.ErrState)
	refuses(t, m, exchange(32, 21, 31), api.ErrFunds)
	happen(t, m, hold(10, 1, 400))
	refuses(t, m, exchange(10, 21, 601), api.ErrFunds)
	moves(t, m, exchange(10, 21, 600), 600)
	happen(t, m, deposit(21, minor-1000), free(10, 1))
	refuses(t, m, exchange(10, 21, 401), api.ErrRange)
	refuses(t, m, exchange(32, 21, 401), api.ErrRange) // closed, and without funds
	moves(t, m, exchange(10, 21, 400), 400)
	happen(t, m, deposit(10, 1))
	refuses(t, m, exchange(10, 21, 1), api.ErrRange)
	for place := 3; place < 8; place++ {
		for _, n := range []int64{1, -1} {
			refuses(t, m, with(exchange(10, 21, 1), place, n), api.ErrForm)
			refuses(t, m, keyed(5, with(exchange(10, 10, 0), place, n)), api.ErrForm)
		}
	}
}

func TestAnExchangeMayGetNoMoreThanTheGreatestAmount(t *testing.T) { // P17.2: ErrRange of fx.Convert
	m := changer(t, 1000)
	happen(t, m, deposits(9, api.KWD, minor), open(30, 9), withdraw(30, minor)) // it owes so much that there would be room
	happen(t, m, rates(api.JPY, api.KWD, rate))
	moves(t, m, exchange(12, 23, 1), 1000000)
	happen(t, m, deposit(12, minor-999))
	refuses(t, m, exchange(12, 30, 10000001), api.ErrRange)
	moves(t, m, exchange(12, 30, 10000000), minor)
	balance(t, m, 30, 0, 0)
	moves(t, m, exchange(12, 30, 10000000), minor)
	refuses(t, m, exchange(12, 30, 1), api.ErrRange)
}

func TestEveryCurrencyWithEveryOther(t *testing.T) { // P17.2
	for i := range int64(16) {
		cur, other := i/4, i%4
		m := changer(t, 1000)
		refuses(t, m, exchange(10+cur, 20+other, 1000), api.ErrNone)
		if cur == other {
			continue
		}
		happen(t, m, rates(cur, other, 2*one))
		refuses(t, m, exchange(10+other, 20+cur, 1000), api.ErrNone)
		size := []int64{100, 100, 1, 1000}
		moves(t, m, exchange(10+cur, 20+other, 1000), 2000*size[other]/size[cur])
		happen(t, m, deposit(10+cur, 1000), rates(cur, other, 3*one))
		moves(t, m, exchange(10+cur, 20+other, 1000), 3000*size[other]/size[cur])
	}
}
