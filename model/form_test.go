package model_test

import (
	"testing"

	"passbook/api"
)

// sample: of every Op a command that happens, one behind the other.
func sample() []api.Event {
	return []api.Event{
		deposits(1, api.EUR, 0), open(10, 1), open(11, 1), deposit(10, 500), withdraw(10, 5), transfer(10, 11, 5), hold(10, 1, 5), free(10, 1),
		loans(2, api.EUR, 1000), open(20, 2), lend(20, 10, 50, 12), repay(20, 10, 50), deposits(3, api.USD, 0), open(12, 3), rates(0, 1, one), exchange(10, 12, 5), shut(20),
	}
}

func TestWhatIsNotInForm(t *testing.T) { // P17.2, P17.3: ErrForm is ahead of all
	m := bank(t, 40)
	used := []int{0, 8, 2, 1, 2, 2, 3, 3, 2, 4, 3, 3, 3}
	for _, c := range sample() {
		for place := used[c.Op]; place < len(c.N); place++ {
			for _, n := range []int64{1, -1} {
				refuses(t, m, with(c, place, n), api.ErrForm)
			}
		}
		longer := tiers(c, make([]api.Tier, 9)...)
		refuses(t, m, longer, api.ErrForm)
		if c.Op != api.OpProduct {
			refuses(t, m, tiers(c, api.Tier{From: 0, Rate: 5}), api.ErrForm)
		}
		happen(t, m, c)
	}
	for _, op := range []byte{0, 16, 17, 255} {
		refuses(t, m, cmd(op), api.ErrForm)
		refuses(t, m, cmd(op, 10, 5), api.ErrForm)
		refuses(t, m, keyed(5, cmd(op)), api.ErrForm)
	}
	for _, c := range []api.Event{begin(40), cmd(api.OpBegin), begin(0), step(10, 1, 5), cmd(api.OpStep), roll(41), cmd(api.OpRoll), keyed(5, begin(40))} {
		before := m.Seq()
		if e, n, refused := m.Plan(c); e.Op != 0 || n != 0 || refused != api.ErrArg || m.Seq() != before {
			t.Errorf("Plan(%v) = %v, %d, error %d; want ErrArg", c, e, n, refused)
		}
		for _, wrong := range []api.Event{with(c, 5, 1), tiers(c, api.Tier{})} {
			if _, _, refused := m.Plan(wrong); refused != api.ErrForm {
				t.Errorf("Plan(%v): error %d; want ErrForm", wrong, refused)
			}
			rejects(t, m, wrong, api.ErrForm)
		}
	}
}

func TestApplyTakesJustWhatPlanTells(t *testing.T) { // P17.3
	for _, key := range []uint64{0, 9} {
		m := bank(t, 40, deposits(1, api.KWD, 0), deposits(2, api.JPY, 0), open(10, 1), open(11, 2), deposit(10, 10000), rates(api.KWD, api.JPY, 2*one))
		planned := with(keyed(key, exchange(10, 11, 4999)), 3, 9)
		for _, n := range []int64{0, 8, 10, -9, 4999, minor} {
			rejects(t, m, with(planned, 3, n), api.ErrForm)
		}
		for _, e := range []api.Event{with(planned, 2, 10001), with(with(planned, 2, 10001), 3, 20)} {
			rejects(t, m, e, api.ErrFunds) // Plan's error, whatever the fourth number
		}
		rejects(t, m, with(planned, 1, 99), api.ErrNone)
		rejects(t, m, with(planned, 4, 1), api.ErrForm)
		applies(t, m, planned)
		if key != 0 {
			rejects(t, m, planned, api.ErrSeen)
			planned.Key++
		}
		happen(t, m, rates(api.KWD, api.JPY, one))
		rejects(t, m, planned, api.ErrForm) // it would bring another event now
		applies(t, m, with(planned, 3, 4))
		small := with(exchange(10, 11, 1), 3, 1)
		rejects(t, m, small, api.ErrForm)
		applies(t, m, with(small, 3, 0)) // nothing is got
		balance(t, m, 11, 13, 0)
	}
}
