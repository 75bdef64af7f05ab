package model_test

import (
	"math/big"
	"reflect"
	"slices"
	"testing"

	"passbook/api"
	"passbook/cal"
	"passbook/event"
	"passbook/model"
)

// goesOn: Next tells these events, one behind the other, and Due those that are left; each happens.
func goesOn(t *testing.T, m *model.Model, events ...api.Event) {
	t.Helper()
	for i, want := range events {
		before := stateOf(m)
		next, e := m.Next()
		if e != api.OK || !event.Same(next, want) {
			t.Fatalf("Next = %v, error %d; want %v", next, e, want)
		}
		if due, e := m.Due(); e != api.OK || !slices.EqualFunc(due, events[i:], event.Same) {
			t.Fatalf("Due = %v, error %d; want %v", due, e, events[i:])
		}
		if m.Running() != (want.Op != api.OpBegin) || !reflect.DeepEqual(stateOf(m), before) {
			t.Fatalf("Running = %v ahead of %v; or Next or Due have changed the model", m.Running(), want)
		}
		applies(t, m, next)
	}
	if last := events[len(events)-1]; last.Op == api.OpRoll && (m.Running() || int64(m.Day()) != last.N[0]) {
		t.Errorf("behind %v: Running = %v, Day = %d", last, m.Running(), m.Day())
	}
}

// dayOf: of a text.
func dayOf(t *testing.T, text string) int {
	t.Helper()
	day, e := cal.Parse(text)
	if e != api.OK {
		t.Fatal(text)
	}
	return day
}

func TestAnEndOfDayWithoutAccounts(t *testing.T) { // P17.2
	for _, day := range []int{1, 40, 31, api.MaxDay - 1} {
		m := bank(t, day)
		n := int64(day)
		goesOn(t, m, begin(n), roll(n+1))
		if m.Seq() != 2 || m.Entries() != 0 {
			t.Errorf("Seq = %d, Entries = %d", m.Seq(), m.Entries())
		}
	}
}

func TestTheCalendarsLastDayHasNoEnd(t *testing.T) { // P17.2
	m := bank(t, api.MaxDay-1, deposits(1, api.EUR, 0), open(10, 1), deposit(10, 1000000))
	last := int64(api.MaxDay)
	goesOn(t, m, begin(last-1), step(10, 1, 100000000), roll(last))
	for range 2 {
		if next, e := m.Next(); e != api.ErrDate || !reflect.DeepEqual(next, api.Event{}) {
			t.Errorf("Next = %v, error %d; want ErrDate", next, e)
		}
		if due, e := m.Due(); e != api.ErrDate || len(due) != 0 {
			t.Errorf("Due = %v, error %d; want ErrDate", due, e)
		}
		for _, e := range []api.Event{begin(last), begin(last + 1), begin(0), step(10, 1, 100000000), roll(last + 1), roll(last)} {
			rejects(t, m, e, api.ErrForm)
		}
	}
	moves(t, m, withdraw(10, 5), 5) // commands go on
}

// TestAMonthsLastDay: account by account, rising by number, all stages of one before the next one's.
func TestAMonthsLastDay(t *testing.T) { // P17.2, P17.3
	feb28 := dayOf(t, "2023-02-28")
	m := bank(t, feb28, with(deposits(1, api.EUR, 500), 6, 300), with(loans(2, api.EUR, 5000000), 6, 300),
		open(30, 1), open(20, 2), open(10, 1), open(25, 1), open(15, 1), open(40, 2), open(50, 1), shut(25),
		deposit(10, 1000000), lend(20, 30, 3000000, 12), deposit(15, 5), withdraw(15, 305), hold(50, 1, 60), deposit(50, 100))
	entries := m.Entries()
	day := int64(feb28)
	goesOn(t, m, begin(day),
		step(10, 1, 100000000), step(10, 2, 100), step(10, 3, 300),
		step(15, 1, 0), step(15, 2, 0), step(15, 3, 0), // overdrawn
		step(20, 1, 300000000), step(20, 2, 300), // a loan has no fee
		step(30, 1, 300000000), step(30, 2, 300), step(30, 3, 300),
		step(40, 1, 0), step(40, 2, 0),
		step(50, 1, 10000), step(50, 2, 0), step(50, 3, 40), // but for what is held
		roll(day+1))
	balance(t, m, 10, 999800, 0)
	balance(t, m, 15, -300, 0)
	balance(t, m, 20, 3000300, 0)
	balance(t, m, 30, 3000000, 0)
	balance(t, m, 50, 60, 60)
	accrued(t, m, 10, 0)
	accrued(t, m, 50, 10000)
	posted(t, m, entries+6, map[post]*big.Int{
		{api.Cash, 0}: units(1000000 - 300 + 100), {api.Deposits, 0}: units(-999800 + 300 - 3000000 - 60), {api.Loans, 0}: units(3000300),
		{api.Expense, 0}: units(400), {api.Income, 0}: units(-300), {api.Fees, 0}: units(-640),
	})
	goesOn(t, m, begin(day+1), step(10, 1, 99980000), step(15, 1, 0), step(20, 1, 300030000), step(30, 1, 300000000), step(40, 1, 0), step(50, 1, 6000), roll(day+2))
	accrued(t, m, 50, 16000)
	if m.Entries() != entries+6 {
		t.Errorf("an end of day within a month makes entries: %d", m.Entries()-entries-6)
	}
}

func TestTheLastDaysOfMonths(t *testing.T) { // P17.2
	for text, last := range map[string]bool{
		"2023-02-28": true, "2024-02-28": false, "2024-02-29": true, "1900-02-28": true, "2000-02-28": false, "2024-01-30": false, "2024-01-31": true,
		"2024-04-30": true, "2024-12-31": true, "2024-01-01": false, "0001-01-31": true, "9999-12-30": false, "9999-11-30": true,
	} {
		m := bank(t, dayOf(t, text), deposits(1, api.EUR, 0), loans(2, api.EUR, 0), open(10, 1), open(20, 2))
		want := 4
		if last {
			want = 7
		}
		if due, e := m.Due(); len(due) != want || e != api.OK {
			t.Errorf("%s: Due = %v, error %d; want %d events", text, due, e, want)
		}
	}
}

func TestInterestIsPaidToTheUnit(t *testing.T) { // P17.2, P17.3: what is left of Accrued
	c := tiers(deposits(1, api.USD, 0), api.Tier{From: 0, Rate: 365000000}, api.Tier{From: 1000, Rate: 0})
	m := bank(t, dayOf(t, "2023-03-29"), c, open(10, 1), deposit(10, 1777))
	day := int64(m.Day())
	goesOn(t, m, begin(day), step(10, 1, 1000000), roll(day+1))
	happen(t, m, withdraw(10, 1277))
	goesOn(t, m, begin(day+1), step(10, 1, 500000), roll(day+2))
	accrued(t, m, 10, 1500000)
	happen(t, m, deposit(10, 199))
	goesOn(t, m, begin(day+2), step(10, 1, 699000), step(10, 2, 2), step(10, 3, 0), roll(day+3))
	accrued(t, m, 10, 199000)
	balance(t, m, 10, 701, 0)
}

func TestInterestThatThereIsNoRoomForIsLost(t *testing.T) { // P17.2, P17.3: room is MaxMinor less the balance
	jan31 := dayOf(t, "2024-01-31")
	day := int64(jan31)
	p := tiers(deposits(1, api.EUR, 0), api.Tier{From: 0, Rate: 365})
	for _, c := range []struct{ room, interest, paid, left int64 }{ // 10^13 bring 10000 units a day
		{0, 10000000000, 0, 0}, {1, 9999999999, 1, 999999}, {9998, 9999999990, 9998, 999990}, {9999, 9999999990, 9999, 999990}, {10000, 9999999990, 9999, 999990},
	} {
		m := bank(t, jan31, p, open(10, 1), deposit(10, minor-c.room))
		goesOn(t, m, begin(day), step(10, 1, c.interest), step(10, 2, c.paid), step(10, 3, 0), roll(day+1))
		balance(t, m, 10, minor-c.room+c.paid, 0)
		accrued(t, m, 10, c.left)
		if m.Entries() != 1+int(min(c.paid, 1)) {
			t.Errorf("%d entries where %d is paid", m.Entries(), c.paid)
		}
	}
}

func TestAnOverdrawnAccountIsPaidWhatItHas(t *testing.T) { // P17.2, P17.3
	jan30 := dayOf(t, "2024-01-30")
	day := int64(jan30)
	m := bank(t, jan30, with(deposits(1, api.EUR, minor), 6, 7), open(10, 1), deposit(10, 1000000))
	goesOn(t, m, begin(day), step(10, 1, 100000000), roll(day+1))
	happen(t, m, withdraw(10, minor), withdraw(10, 1000000))
	goesOn(t, m, begin(day+1), step(10, 1, 0), step(10, 2, 100), step(10, 3, 0), roll(day+2))
	balance(t, m, 10, 100-minor, 0)
}

func TestTheWaysToCountAndToRound(t *testing.T) { // P17.2: accrue.Daily by the version's Basis and Mode
	feb29 := dayOf(t, "2024-02-29")
	for _, c := range []struct{ basis, mode, rate, want int64 }{
		{api.Act360, api.Down, 1000000000, 2777777}, {api.Act360, api.Up, 1000000000, 2777778}, {api.Act365, api.Down, 1000000000, 2739726},
		{api.Thirty, api.Down, 1000000000, 5555555}, {api.Thirty, api.HalfEven, 1000000000, 5555556}, // from 29 February to 1 March: two days
		{api.ActAct, api.Down, 1000000000, 2732240}, {api.ActAct, api.Ceil, 1000000000, 2732241},
		{api.Act360, api.HalfUp, 180000, 500}, {api.Act360, api.HalfUp, 900, 3}, {api.Act360, api.HalfDown, 900, 2}, {api.Act360, api.HalfEven, 900, 2}, {api.Act360, api.Floor, 900, 2},
	} {
		p := with(with(deposits(1, api.EUR, 0), 4, c.basis), 5, c.mode)
		p.Tiers = []api.Tier{{From: 0, Rate: c.rate}}
		m := bank(t, feb29, p, open(10, 1), deposit(10, 1000))
		applies(t, m, begin(int64(feb29)))
		if next, e := m.Next(); e != api.OK || !event.Same(next, step(10, 1, c.want)) {
			t.Errorf("%v: Next = %v, error %d", c, next, e)
		}
	}
}

func TestAStepGoesByTheVersionOfTheDay(t *testing.T) { // P17.2: the version of an account
	p := with(deposits(1, api.EUR, 0), 6, 10)
	later := tiers(with(with(p, 3, 41), 6, 20), api.Tier{From: 0, Rate: 73000000})
	m := bank(t, 40, p, later, open(10, 1), deposit(10, 1000000))
	goesOn(t, m, begin(40), step(10, 1, 100000000), roll(41))
	goesOn(t, m, begin(41), step(10, 1, 200000000), roll(42))
}

func TestApplyTakesJustTheNextEvent(t *testing.T) { // P17.3
	m := bank(t, 31, deposits(1, api.EUR, 500), loans(2, api.EUR, 5000), open(10, 1), open(20, 2), lend(20, 10, 5000, 3), deposit(10, 995000))
	for {
		due, _ := m.Due()
		next := due[0]
		wrong := append([]api.Event{
			begin(30), begin(31), begin(32), roll(31), roll(32), roll(33), step(10, 1, 0), step(10, 4, 0), step(10, 0, 0), step(11, 1, 0), step(20, 3, 0), step(0, 0, 0),
			cmd(api.OpBegin), cmd(api.OpStep), cmd(api.OpRoll), keyed(1, next), tiers(next, api.Tier{}),
		}, due[1:]...)
		for place := range next.N {
			wrong = append(wrong, with(next, place, next.N[place]+1), with(next, place, next.N[place]-1))
		}
		for _, e := range wrong {
			if !event.Same(e, next) {
				rejects(t, m, e, api.ErrForm)
			}
		}
		applies(t, m, next)
		if next.Op == api.OpRoll {
			break
		}
	}
	if m.Day() != 32 || m.Seq() != 6+1+3+2+1 {
		t.Errorf("Day = %d, Seq = %d", m.Day(), m.Seq())
	}
}

func TestCommandsWait(t *testing.T) { // P17.2: while a run is under way
	m := bank(t, 31, deposits(1, api.EUR, 500), loans(2, api.EUR, 5000), open(10, 1), open(11, 1), open(20, 2), deposit(10, 1000), hold(10, 1, 5), keyed(7, deposit(10, 1)))
	commands := []api.Event{
		deposits(3, api.EUR, 500), open(12, 1), shut(11), deposit(10, 5), withdraw(10, 5), transfer(10, 11, 5), hold(10, 2, 5), free(10, 1),
		lend(20, 10, 50, 12), repay(20, 10, 50), rates(0, 1, 5), exchange(10, 11, 5), deposit(99, 5), deposit(10, 0), open(0, 0), rates(9, 9, 0), tiers(deposits(4, 9, 9)),
	}
	due, _ := m.Due()
	for i, next := range due {
		for _, c := range commands {
			if i == 0 {
				continue
			}
			refuses(t, m, c, api.ErrState)
			refuses(t, m, keyed(8, c), api.ErrState)
			refuses(t, m, keyed(7, c), api.ErrSeen)
			refuses(t, m, with(c, 7, c.N[7]+1), map[bool]api.Errno{true: api.ErrState, false: api.ErrForm}[c.Op == api.OpProduct])
		}
		for _, e := range []api.Event{begin(31), step(10, 1, 5), roll(32), cmd(api.OpStep), keyed(7, begin(31))} {
			if _, _, refused := m.Plan(e); refused != api.ErrArg {
				t.Errorf("Plan(%v): error %d; want ErrArg", e, refused)
			}
		}
		applies(t, m, next)
	}
	happen(t, m, keyed(8, deposit(10, 5)))
}
