package batch_test

import (
	"math/big"
	"reflect"
	"slices"
	"testing"
	"time"

	"passbook/api"
	"passbook/batch"
	"passbook/cal"
	"passbook/event"
	"passbook/model"
)

const (
	minor    = 10000000000000 // the greatest amount
	number   = 1000000000     // the greatest number of an account
	maxSteps = 4096
	lastDay  = 3652059
)

func cmd(op byte, numbers ...int64) api.Event {
	e := api.Event{Op: op}
	copy(e.N[:], numbers)
	return e
}

func keyed(key uint64, c api.Event) api.Event {
	c.Key = key
	return c
}

// product: of 3.65 percent, Act365, Down, so that a minor unit brings just 100 millionths a day; its fee hangs on its number.
func product(id, kind, cur, limit int64) api.Event {
	c := cmd(api.OpProduct, id, kind, cur, 1, api.Act365, api.Down, feeOf(id), limit)
	c.Tiers = []api.Tier{{From: 0, Rate: 36500000}}
	return c
}

func feeOf(product int64) int64 { return 7 * (product - 1) }

func deposits(id, cur, limit int64) api.Event { return product(id, api.KindDeposit, cur, limit) }
func loans(id, cur, limit int64) api.Event    { return product(id, api.KindLoan, cur, limit) }

func open(id, product int64) api.Event        { return cmd(api.OpOpen, id, product) }
func shut(id int64) api.Event                 { return cmd(api.OpClose, id) }
func deposit(id, amount int64) api.Event      { return cmd(api.OpDeposit, id, amount) }
func withdraw(id, amount int64) api.Event     { return cmd(api.OpWithdraw, id, amount) }
func hold(id, number, amount int64) api.Event { return cmd(api.OpHold, id, number, amount) }
func lend(loan, id, amount int64) api.Event   { return cmd(api.OpLend, loan, id, amount, 12) }
func begin(day int64) api.Event               { return cmd(api.OpBegin, day) }
func step(id, stage, amount int64) api.Event  { return cmd(api.OpStep, id, stage, amount) }
func roll(day int64) api.Event                { return cmd(api.OpRoll, day) }

// bank: a model to which all commands happened.
func bank(t *testing.T, day int, commands ...api.Event) *model.Model {
	t.Helper()
	m, e := model.New(day)
	if e != api.OK {
		t.Fatalf("New(%d): error %d", day, e)
	}
	happen(t, m, commands...)
	return m
}

func happen(t *testing.T, m *model.Model, commands ...api.Event) {
	t.Helper()
	for _, c := range commands {
		planned, _, refused := m.Plan(c)
		if refused == api.OK {
			refused = m.Apply(planned)
		}
		if refused != api.OK {
			t.Fatalf("%v: error %d", c, refused)
		}
	}
}

// setting: a bank ahead of an end of day, and how many events that has.
type setting struct {
	name     string
	day      int
	commands []api.Event
	events   int
}

func (s setting) bank(t *testing.T) *model.Model {
	t.Helper()
	return bank(t, s.day, s.commands...)
}

// after: the setting's bank, of whose end of day so many events happened, one by one.
func (s setting) after(t *testing.T, events int) *model.Model {
	t.Helper()
	m := s.bank(t)
	goOn(t, m, events)
	return m
}

func dayOf(t *testing.T, text string) int {
	t.Helper()
	day, e := cal.Parse(text)
	if e != api.OK {
		t.Fatal(text)
	}
	return day
}

// allKinds: ten open accounts, two of them loans, and two closed ones.
func allKinds() []api.Event {
	return []api.Event{
		deposits(1, api.EUR, 500), deposits(2, api.EUR, minor), deposits(3, api.JPY, 0), loans(4, api.EUR, minor),
		open(number, 1), open(25, 1), open(20, 4), open(1, 2), open(10, 2), open(35, 4), open(40, 3), open(45, 2), open(50, 4), open(55, 2), open(60, 1), open(15, 2),
		shut(25), shut(35),
		deposit(1, 3333), deposit(10, 123456789), withdraw(15, 5000), lend(20, 10, 777777), deposit(40, 1000000), hold(40, 7, 999999),
		deposit(45, minor), deposit(55, 3), withdraw(60, 500), deposit(number, 12345),
	}
}

// fullBank: as many accounts as there may be, all of them deposits.
func fullBank() []api.Event {
	commands := []api.Event{deposits(2, api.KWD, 0)}
	for id := int64(1); id <= api.MaxAccounts; id++ {
		commands = append(commands, open(3*id, 2), deposit(3*id, 10000*id))
	}
	return commands
}

// settings: the events are counted by hand. Of allKinds eight open accounts are deposits and two are loans.
func settings(t *testing.T) []setting {
	t.Helper()
	const within, atMonthsEnd = 1 + 10 + 1, 1 + 8*3 + 2*2 + 1
	one := []api.Event{deposits(2, api.EUR, 0), open(10, 2), deposit(10, 1000000)}
	two := []api.Event{deposits(1, api.EUR, 0), open(1, 1), open(2, 1)}
	owed := []api.Event{deposits(1, api.EUR, 0), loans(2, api.EUR, minor), open(10, 1), open(20, 2), lend(20, 10, 5000000), withdraw(10, 5000000), shut(10)}
	closed := []api.Event{deposits(1, api.EUR, 0), loans(2, api.EUR, 0), open(10, 1), open(20, 2), shut(20), shut(10)}
	return []setting{
		{"no account", 40, nil, 2},
		{"no account, a month's last day", 31, nil, 2},
		{"no account, the calendar's last day but one", lastDay - 1, nil, 2},
		{"closed accounts", 40, closed, 2},
		{"closed accounts, a month's last day", 31, closed, 2},
		{"two deposits", 40, two, 4},
		{"one deposit", 40, one, 3},
		{"one deposit, a month's last day", 31, one, 5},
		{"a loan alone is open", 40, owed, 3},
		{"a loan alone is open, a month's last day", 31, owed, 4},
		{"all kinds, the calendar's first day", 1, allKinds(), within},
		{"all kinds, within a month", dayOf(t, "2024-02-28"), allKinds(), within},
		{"all kinds, a month's last day", dayOf(t, "2024-02-29"), allKinds(), atMonthsEnd},
		{"all kinds, a month's last day in a plain year", dayOf(t, "2023-02-28"), allKinds(), atMonthsEnd},
		{"all kinds, a year's last day but one", dayOf(t, "2024-12-30"), allKinds(), within},
		{"all kinds, a year's last day", dayOf(t, "2024-12-31"), allKinds(), atMonthsEnd},
		{"all kinds, a year's first day", dayOf(t, "2025-01-01"), allKinds(), within},
		{"all kinds, the calendar's last day but one", lastDay - 1, allKinds(), within},
	}
}

// large: too many events for all that the other settings are put through.
func large(t *testing.T) setting {
	t.Helper()
	return setting{"a full bank, a month's last day", dayOf(t, "2024-03-31"), fullBank(), 1 + 3*api.MaxAccounts + 1}
}

// expected: the events of an end of day that has not begun, each amount by its closed formula.
func expected(m *model.Model) []api.Event {
	day := int64(m.Day())
	last := time.Date(1, 1, m.Day()+1, 0, 0, 0, 0, time.UTC).Day() == 1
	events := []api.Event{begin(day)}
	for _, a := range m.Accounts() {
		if !a.Open {
			continue
		}
		interest := 100 * max(a.Balance, 0)
		paid := min((a.Accrued+interest)/1000000, minor-a.Balance)
		fee := max(0, min(feeOf(a.Product), max(a.Balance+paid, 0)-a.Held))
		steps := []api.Event{step(a.ID, 1, interest), step(a.ID, 2, paid), step(a.ID, 3, fee)}
		switch {
		case !last:
			steps = steps[:1]
		case a.Kind == api.KindLoan:
			steps = steps[:2]
		}
		events = append(events, steps...)
	}
	return append(events, roll(day+1))
}

// goOn: by the model alone, event by event.
func goOn(t *testing.T, m *model.Model, events int) {
	t.Helper()
	for range events {
		next, e := m.Next()
		if e == api.OK {
			e = m.Apply(next)
		}
		if e != api.OK {
			t.Fatalf("%v: error %d", next, e)
		}
	}
}

// runs: Run(m, n) brings just these events, and is at its end or not.
func runs(t *testing.T, m *model.Model, n int, want []api.Event, end bool) {
	t.Helper()
	seq := m.Seq()
	got, done, e := batch.Run(m, n)
	if e != api.OK || done != end || !sameEvents(got, want) {
		t.Fatalf("Run(%d) = %v, %v, error %d; want %v, %v", n, got, done, e, want, end)
	}
	if m.Seq() != seq+int64(len(want)) || m.Running() == end {
		t.Fatalf("behind Run(%d): Seq %d behind %d, Running %v; want %d events", n, m.Seq(), seq, m.Running(), len(want))
	}
	balances(t, m)
}

// isDue: Left and Due tell just these events.
func isDue(t *testing.T, m *model.Model, want []api.Event) {
	t.Helper()
	if n, e := batch.Left(m); e != api.OK || n != len(want) {
		t.Fatalf("Left = %d, error %d; want %d", n, e, len(want))
	}
	if due, e := batch.Due(m); e != api.OK || !sameEvents(due, want) {
		t.Fatalf("Due = %v, error %d; want %v", due, e, want)
	}
}

// refuses: Run answers the error and nothing beside it.
func refuses(t *testing.T, m *model.Model, n int, want api.Errno) {
	t.Helper()
	if got, done, e := batch.Run(m, n); e != want || done || len(got) != 0 {
		t.Errorf("Run(%d) = %v, %v, error %d; want error %d", n, got, done, e, want)
	}
}

// dueRefuses: Left and Due answer the error and nothing beside it.
func dueRefuses(t *testing.T, m *model.Model, want api.Errno) {
	t.Helper()
	if n, e := batch.Left(m); e != want || n != 0 {
		t.Errorf("Left = %d, error %d; want error %d", n, e, want)
	}
	if due, e := batch.Due(m); e != want || len(due) != 0 {
		t.Errorf("Due = %v, error %d; want error %d", due, e, want)
	}
}

func sameEvents(a, b []api.Event) bool { return slices.EqualFunc(a, b, event.Same) }

// alike: two models, field by field, those that no call tells too.
func alike(t *testing.T, got, want *model.Model) {
	t.Helper()
	if !reflect.DeepEqual(got, want) {
		t.Fatalf("the model is on day %d, Running %v, Seq %d, %v, %v; want day %d, %v, %d, %v, %v", got.Day(), got.Running(), got.Seq(), got.Accounts(), got.Trial(),
			want.Day(), want.Running(), want.Seq(), want.Accounts(), want.Trial())
	}
}

// balances: debits equal credits in every currency.
func balances(t *testing.T, m *model.Model) {
	t.Helper()
	var totals [4]big.Int
	for _, line := range m.Trial() {
		amount := new(big.Int).Lsh(big.NewInt(line.Amount.Hi), 64)
		totals[line.Cur].Add(&totals[line.Cur], amount.Add(amount, new(big.Int).SetUint64(line.Amount.Lo)))
	}
	for cur := range totals {
		if totals[cur].Sign() != 0 {
			t.Fatalf("the books don't balance in the currency %d: %v", cur, m.Trial())
		}
	}
}
