package batch_test

import (
	"testing"

	"passbook/api"
	"passbook/model"
)

// commands: one of each Op that would be taken, if no end of day were under way; in this order all of them are.
func commands() []api.Event {
	rate := cmd(api.OpRate, api.EUR, api.JPY, 160500000000)
	return []api.Event{
		deposits(9, api.USD, 0), open(99, 9), shut(99), deposit(10, 5), withdraw(10, 5), cmd(api.OpTransfer, 10, 1, 5), hold(10, 2, 5), cmd(api.OpFree, 10, 2),
		lend(50, 10, 700), cmd(api.OpRepay, 50, 10, 700), rate, cmd(api.OpExchange, 10, 40, 101),
	}
}

func refusesCommand(t *testing.T, m *model.Model, c api.Event, want api.Errno) {
	t.Helper()
	if _, _, e := m.Plan(c); e != want {
		t.Errorf("Plan(%v): error %d; want %d", c, e, want)
	}
	if e := m.Apply(c); e != want {
		t.Errorf("Apply(%v): error %d; want %d", c, e, want)
	}
}

// TestCommandsWait: while an end of day is under way none is taken, behind its end all are.
func TestCommandsWait(t *testing.T) { // P18.1, P7
	for _, day := range []int{30, 31} {
		s := setting{day: day, commands: append(allKinds(), keyed(7, deposit(10, 1)))}
		for size := 1; size <= 6; size++ {
			m := s.bank(t)
			events := expected(m)
			for place := 0; place < len(events); place += size {
				end := min(place+size, len(events))
				runs(t, m, size, events[place:end], end == len(events))
				if end == len(events) {
					break
				}
				for _, c := range commands() {
					refusesCommand(t, m, c, api.ErrState)
					refusesCommand(t, m, keyed(8, c), api.ErrState)
					refusesCommand(t, m, keyed(7, c), api.ErrSeen)
				}
				alike(t, m, s.after(t, end))
			}
			happen(t, m, keyed(8, deposit(10, 5))) // the refused ones have not used the key
			happen(t, m, commands()...)
			refusesCommand(t, m, keyed(8, deposit(10, 5)), api.ErrSeen)
			again := expected(m)
			runs(t, m, len(again), again, true)
		}
	}
}

// TestCommandsAheadOfIt: as long as it has not begun they are taken, whatever was asked or refused.
func TestCommandsAheadOfIt(t *testing.T) { // P18.2, P7
	m := bank(t, 31, allKinds()...)
	isDue(t, m, expected(m))
	refuses(t, m, 0, api.ErrArg)
	if m.Running() {
		t.Errorf("an end of day is under way that has not begun")
	}
	happen(t, m, commands()...)
	isDue(t, m, expected(m))
	runs(t, m, maxSteps, expected(m), true)
}
