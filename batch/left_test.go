package batch_test

import (
	"testing"

	"passbook/api"
	"passbook/batch"
)

// TestLeftAndDueAtEveryPlace: ahead of an end of day, at each of its steps, and behind it.
func TestLeftAndDueAtEveryPlace(t *testing.T) { // P18.2
	for _, s := range append(settings(t), large(t)) {
		m := s.bank(t)
		events := expected(m)
		for place := range events {
			isDue(t, m, events[place:])
			runs(t, m, 1, events[place:][:1], place == len(events)-1)
		}
		if m.Day() == lastDay {
			dueRefuses(t, m, api.ErrDate)
		} else {
			isDue(t, m, expected(m))
		}
	}
}

// TestLeftAndDueChangeNothing: asked again and again they tell the same, and the model is as one that nobody asked.
func TestLeftAndDueChangeNothing(t *testing.T) { // P18.2
	for _, s := range settings(t) {
		events := expected(s.bank(t))
		for place := range events {
			m := s.after(t, place)
			for range 3 {
				isDue(t, m, events[place:])
			}
			alike(t, m, s.after(t, place))
			runs(t, m, maxSteps, events[place:], true)
			alike(t, m, s.after(t, s.events))
		}
	}
}

// TestWhatIsDueHappens: Run brings, piece by piece, just what Due told ahead.
func TestWhatIsDueHappens(t *testing.T) { // P18.2
	for _, s := range settings(t) {
		for size := range s.events {
			m := s.bank(t)
			told, e := batch.Due(m)
			for e == api.OK && len(told) > 0 {
				n := min(size+1, len(told))
				runs(t, m, size+1, told[:n], n == len(told))
				told = told[n:]
			}
			if e != api.OK || m.Day() != s.day+1 {
				t.Errorf("%s: error %d, Day = %d", s.name, e, m.Day())
			}
		}
	}
}

// TestLeftFollowsTheBank: what commands and days make of it.
func TestLeftFollowsTheBank(t *testing.T) { // P18.2
	m := bank(t, 30, deposits(1, api.EUR, 0), loans(2, api.EUR, minor))
	for _, c := range []struct {
		command api.Event
		left    int
	}{
		{open(10, 1), 3}, {open(20, 2), 4}, {deposit(10, 1000), 4}, {open(5, 1), 5}, {lend(20, 5, 700), 5}, {open(30, 1), 6}, {shut(30), 5}, {withdraw(5, 700), 5}, {shut(5), 4},
	} {
		happen(t, m, c.command)
		if n, e := batch.Left(m); e != api.OK || n != c.left {
			t.Errorf("behind %v: Left = %d, error %d; want %d", c.command, n, e, c.left)
		}
		isDue(t, m, expected(m))
	}
	for _, left := range []int{4, 2 + 3 + 2, 4} { // 30 January, 31 January, 1 February
		isDue(t, m, expected(m))
		runs(t, m, left, expected(m), true)
	}
}
