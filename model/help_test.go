package model_test

import (
	"math"
	"math/big"
	"reflect"
	"testing"

	"passbook/api"
	"passbook/event"
	"passbook/model"
)

const (
	minor  = 10000000000000 // the greatest amount
	number = 1000000000     // the greatest number of an account, and of a hold
	rate   = 1000000000000  // the greatest rate
	one    = 1000000000     // the rate of one for one
)

func currencies() []int { return []int{api.EUR, api.USD, api.JPY, api.KWD} }

func cmd(op byte, numbers ...int64) api.Event {
	e := api.Event{Op: op}
	copy(e.N[:], numbers)
	return e
}

func keyed(key uint64, c api.Event) api.Event {
	c.Key = key
	return c
}

// deposits, loans: a product from day 1 on, of 3.65 percent, Act365, Down, without a fee.
func deposits(id, cur, limit int64) api.Event { return product(id, api.KindDeposit, cur, limit) }

func loans(id, cur, limit int64) api.Event { return product(id, api.KindLoan, cur, limit) }

func product(id, kind, cur, limit int64) api.Event {
	c := cmd(api.OpProduct, id, kind, cur, 1, api.Act365, api.Down, 0, limit)
	c.Tiers = []api.Tier{{From: 0, Rate: 36500000}}
	return c
}

// with: the command with another number at the place.
func with(c api.Event, place int, n int64) api.Event {
	c.N[place] = n
	return c
}

func tiers(c api.Event, l ...api.Tier) api.Event {
	c.Tiers = l
	return c
}

func open(id, product int64) api.Event              { return cmd(api.OpOpen, id, product) }
func shut(id int64) api.Event                       { return cmd(api.OpClose, id) }
func deposit(id, amount int64) api.Event            { return cmd(api.OpDeposit, id, amount) }
func withdraw(id, amount int64) api.Event           { return cmd(api.OpWithdraw, id, amount) }
func transfer(from, to, amount int64) api.Event     { return cmd(api.OpTransfer, from, to, amount) }
func hold(id, number, amount int64) api.Event       { return cmd(api.OpHold, id, number, amount) }
func free(id, number int64) api.Event               { return cmd(api.OpFree, id, number) }
func lend(loan, id, amount, months int64) api.Event { return cmd(api.OpLend, loan, id, amount, months) }
func repay(loan, id, amount int64) api.Event        { return cmd(api.OpRepay, loan, id, amount) }
func rates(cur, other, rate int64) api.Event        { return cmd(api.OpRate, cur, other, rate) }
func exchange(from, to, amount int64) api.Event     { return cmd(api.OpExchange, from, to, amount) }
func begin(day int64) api.Event                     { return cmd(api.OpBegin, day) }
func step(id, stage, amount int64) api.Event        { return cmd(api.OpStep, id, stage, amount) }
func roll(day int64) api.Event                      { return cmd(api.OpRoll, day) }

// bank: a model to which all commands happened.
func bank(t *testing.T, day int, commands ...api.Event) *model.Model {
	t.Helper()
	m, e := model.New(day)
	if e != api.OK || m == nil {
		t.Fatalf("New(%d) = %v, error %d", day, m, e)
	}
	happen(t, m, commands...)
	return m
}

func happen(t *testing.T, m *model.Model, commands ...api.Event) {
	t.Helper()
	for _, c := range commands {
		e, _, refused := m.Plan(c)
		if refused != api.OK {
			t.Fatalf("Plan(%v): error %d", c, refused)
		}
		applies(t, m, e)
	}
}

func applies(t *testing.T, m *model.Model, events ...api.Event) {
	t.Helper()
	for _, e := range events {
		seq := m.Seq()
		if refused := m.Apply(e); refused != api.OK || m.Seq() != seq+1 {
			t.Fatalf("Apply(%v): error %d, Seq %d behind %d", e, refused, m.Seq(), seq)
		}
		balances(t, m)
	}
}

// moves: the command is answered with so much, and happens.
func moves(t *testing.T, m *model.Model, c api.Event, want int64) {
	t.Helper()
	before := stateOf(m)
	e, n, refused := m.Plan(c)
	planned := c
	if c.Op == api.OpExchange {
		planned.N[3] = want
	}
	if refused != api.OK || n != want || !event.Same(e, planned) {
		t.Fatalf("Plan(%v) = %v, %d, error %d; want %v, %d", c, e, n, refused, planned, want)
	}
	if !reflect.DeepEqual(stateOf(m), before) {
		t.Fatalf("Plan(%v) changes the model", c)
	}
	applies(t, m, e)
}

// refuses: the command as a plan and as an event, with nothing beside the error, and nothing changed.
func refuses(t *testing.T, m *model.Model, c api.Event, want api.Errno) {
	t.Helper()
	before := stateOf(m)
	e, n, refused := m.Plan(c)
	if refused != want || n != 0 || !reflect.DeepEqual(e, api.Event{}) {
		t.Errorf("Plan(%v) = %v, %d, error %d; want error %d", c, e, n, refused, want)
	}
	if c.Op != api.OpExchange || c.N[3] == 0 {
		rejects(t, m, c, want)
	}
	if !reflect.DeepEqual(stateOf(m), before) {
		t.Errorf("%v, which is refused, changes the model", c)
	}
}

// rejects: the event doesn't happen, and nothing changes.
func rejects(t *testing.T, m *model.Model, e api.Event, want api.Errno) {
	t.Helper()
	before := stateOf(m)
	if refused := m.Apply(e); refused != want {
		t.Errorf("Apply(%v): error %d; want %d", e, refused, want)
	}
	if !reflect.DeepEqual(stateOf(m), before) {
		t.Errorf("%v, which can't happen, changes the model", e)
	}
}

// state: all that can be asked of a model.
type state struct {
	day, entries int
	running      bool
	seq          int64
	accounts     []api.Account
	single       []api.Account
	rates        [16]int64
	trial        []api.Line
	next         api.Event
	due          []api.Event
	noNext       api.Errno
	noDue        api.Errno
}

func stateOf(m *model.Model) state {
	s := state{day: m.Day(), entries: m.Entries(), running: m.Running(), seq: m.Seq(), accounts: m.Accounts(), trial: m.Trial()}
	for _, a := range s.accounts {
		single, _ := m.Account(a.ID)
		s.single = append(s.single, single)
	}
	for i := range s.rates {
		s.rates[i], _ = m.Rate(i/4, i%4)
	}
	s.next, s.noNext = m.Next()
	s.due, s.noDue = m.Due()
	return s
}

// balance: of an account that is there.
func balance(t *testing.T, m *model.Model, id, want, held int64) {
	t.Helper()
	if a, e := m.Account(id); e != api.OK || a.ID != id || a.Balance != want || a.Held != held {
		t.Errorf("Account(%d) = %v, error %d; want the balance %d, %d held", id, a, e, want, held)
	}
}

func accrued(t *testing.T, m *model.Model, id, want int64) {
	t.Helper()
	if a, e := m.Account(id); e != api.OK || a.Accrued != want {
		t.Errorf("Account(%d) = %v, error %d; want %d accrued", id, a, e, want)
	}
}

// post: a code and a currency of the ledger.
type post struct{ code, cur int }

// parts: of an amount of scale 12, as a whole number.
func parts(d api.Dec) *big.Int {
	n := new(big.Int).Lsh(big.NewInt(d.Hi), 64)
	return n.Add(n, new(big.Int).SetUint64(d.Lo))
}

// units: so many minor units, in parts of 10^-12.
func units(n int64) *big.Int { return new(big.Int).Mul(big.NewInt(n), big.NewInt(1000000000000)) }

func ledger(m *model.Model) map[post]*big.Int {
	books := map[post]*big.Int{}
	for _, line := range m.Trial() {
		books[post{line.Code, line.Cur}] = parts(line.Amount)
	}
	return books
}

// posted: the trial holds just these lines, in parts of 10^-12, and there were so many entries.
func posted(t *testing.T, m *model.Model, entries int, want map[post]*big.Int) {
	t.Helper()
	books := ledger(m)
	if len(books) != len(want) || m.Entries() != entries {
		t.Errorf("the ledger has %v, Entries = %d; want %v, %d", books, m.Entries(), want, entries)
	}
	for place, amount := range want {
		if got := books[place]; got == nil || got.Cmp(amount) != 0 {
			t.Errorf("the ledger has %v on %v; want %v", got, place, amount)
		}
	}
}

// balances is P17.5: the ledger and the accounts agree.
func balances(t *testing.T, m *model.Model) {
	t.Helper()
	want := map[post]*big.Int{}
	for _, cur := range currencies() {
		want[post{api.Deposits, cur}], want[post{api.Loans, cur}] = new(big.Int), new(big.Int)
	}
	for _, a := range m.Accounts() {
		if a.Kind == api.KindDeposit {
			want[post{api.Deposits, a.Cur}].Sub(want[post{api.Deposits, a.Cur}], units(a.Balance))
		} else {
			want[post{api.Loans, a.Cur}].Add(want[post{api.Loans, a.Cur}], units(a.Balance))
		}
	}
	totals := [4]big.Int{}
	books := ledger(m)
	for place, amount := range books {
		totals[place.cur].Add(&totals[place.cur], amount)
	}
	for place, amount := range want {
		got := books[place]
		if got == nil {
			got = new(big.Int)
		}
		if got.Cmp(amount) != 0 || totals[place.cur].Sign() != 0 {
			t.Errorf("the ledger has %v on %v; the accounts have %v; all codes have %v", got, place, amount, &totals[place.cur])
		}
	}
}

// notWithin: numbers outside 1 .. top, next to it and far from it.
func notWithin(top int64) []int64 {
	return []int64{0, -1, -top, math.MinInt64, math.MinInt64 + 1, top + 1, top + 2, 2 * top, 1 << 62, math.MaxInt64 - 1, math.MaxInt64}
}
