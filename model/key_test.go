package model_test

import (
	"math"
	"testing"

	"passbook/api"
)

func TestAKeyIsUsedOnce(t *testing.T) { // P17.2, P17.3
	for _, key := range []uint64{1, 7, 1 << 63, math.MaxUint64} {
		m := bank(t, 40, deposits(1, api.EUR, 0), open(10, 1))
		refuses(t, m, keyed(key, withdraw(10, 5)), api.ErrFunds) // a refused command uses none
		refuses(t, m, keyed(key, withdraw(10, 5)), api.ErrFunds)
		moves(t, m, keyed(key, deposit(10, 5)), 5)
		refuses(t, m, keyed(key, deposit(10, 5)), api.ErrSeen)
		refuses(t, m, keyed(key, deposit(10, 6)), api.ErrSeen)
		refuses(t, m, keyed(key, deposit(10, 0)), api.ErrSeen) // though its like would be refused
		refuses(t, m, keyed(key, deposit(99, 5)), api.ErrSeen)
		refuses(t, m, keyed(key, shut(10)), api.ErrSeen)
		refuses(t, m, keyed(key, with(shut(10), 1, 5)), api.ErrForm)
		if _, _, e := m.Plan(keyed(key, begin(40))); e != api.ErrArg {
			t.Errorf("Plan(OpBegin with a key): error %d; want ErrArg", e)
		}
		moves(t, m, keyed(key-1, deposit(10, 7)), 7)
		moves(t, m, keyed(0, deposit(10, 7)), 7)
		moves(t, m, keyed(0, deposit(10, 7)), 7)
		goesOn(t, m, begin(40), step(10, 1, 2600), roll(41))
		refuses(t, m, keyed(key, deposit(10, 5)), api.ErrSeen)
	}
}

func TestEveryCommandUsesItsKey(t *testing.T) { // P17.3
	m := bank(t, 40, deposits(1, api.EUR, 0), deposits(3, api.USD, 0))
	for i, c := range []api.Event{
		loans(2, api.EUR, 1000), open(10, 1), open(11, 1), open(12, 3), open(20, 2), deposit(10, 500), withdraw(10, 5), transfer(10, 11, 5), hold(10, 1, 5), free(10, 1),
		lend(20, 10, 50, 12), repay(20, 10, 50), rates(0, 1, one), exchange(10, 12, 5), shut(20),
	} {
		key := uint64(i) + 100
		happen(t, m, keyed(key, c))
		refuses(t, m, keyed(key, c), api.ErrSeen)
		refuses(t, m, keyed(key, deposit(10, 5)), api.ErrSeen)
	}
}
