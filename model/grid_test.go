package model_test

import (
	"maps"
	"math"
	"reflect"
	"slices"
	"strings"
	"testing"

	"passbook/api"
	"passbook/event"
	"passbook/model"
)

// both: the model, and the plain one beside it.
type both struct {
	m *model.Model
	p *plain
}

func newBoth(t *testing.T, day int) both {
	t.Helper()
	return both{bank(t, day), newPlain(day)}
}

// plans: do they answer alike? The errors that applied are answered.
func (b both) plans(t *testing.T, c api.Event) (api.Event, api.Errno, errors) {
	t.Helper()
	want, all := b.p.refusal(c)
	var planned api.Event
	var amount int64
	if want == api.OK {
		planned, amount = b.p.plan(c)
	}
	e, n, refused := b.m.Plan(c)
	if refused != want || n != amount || !event.Same(e, planned) {
		t.Fatalf("Plan(%v) = %v, %d, error %d; want %v, %d, error %d of %v", c, e, n, refused, planned, amount, want, all)
	}
	return e, refused, all
}

// happens: to both of them.
func (b both) happens(t *testing.T, commands ...api.Event) {
	t.Helper()
	for _, c := range commands {
		e, refused, _ := b.plans(t, c)
		if refused != api.OK || b.m.Apply(e) != api.OK {
			t.Fatalf("%v: error %d", c, refused)
		}
		b.p.apply(e)
	}
}

// agree: do they tell alike?
func (b both) agree(t *testing.T) {
	t.Helper()
	m, p := b.m, b.p
	accounts := []api.Account{}
	for _, id := range slices.Sorted(maps.Keys(p.account)) {
		accounts = append(accounts, p.account[id].Account)
		if a, e := m.Account(id); e != api.OK || a != p.account[id].Account {
			t.Fatalf("Account(%d) = %v, error %d; want %v", id, a, e, p.account[id].Account)
		}
		if a, e := m.Account(-id); e != api.ErrNone || a != (api.Account{}) {
			t.Fatalf("Account(%d) = %v, error %d; want none", -id, a, e)
		}
	}
	if got := m.Accounts(); !slices.Equal(got, accounts) {
		t.Fatalf("Accounts = %v; want %v", got, accounts)
	}
	if m.Day() != p.day || m.Running() != (len(p.left) > 0) || m.Seq() != p.seq {
		t.Fatalf("Day, Running, Seq = %d, %v, %d; want %d, %v, %d", m.Day(), m.Running(), m.Seq(), p.day, len(p.left) > 0, p.seq)
	}
	posted(t, m, p.entries, p.books)
	for i := range 16 {
		if n, _ := m.Rate(i/4, i%4); n != p.rates[post{i / 4, i % 4}] {
			t.Fatalf("Rate(%d, %d) = %d", i/4, i%4, n)
		}
	}
	due, e := m.Due()
	if want := p.due(); e != api.OK || !slices.EqualFunc(due, want, event.Same) {
		t.Fatalf("Due = %v, error %d; want %v", due, e, want)
	}
	if next, e := m.Next(); e != api.OK || !event.Same(next, due[0]) {
		t.Fatalf("Next = %v, error %d; want %v", next, e, due[0])
	}
	balances(t, m)
}

// crowd: accounts of both kinds and several currencies: empty ones, full ones, overdrawn ones, with holds, closed.
func crowd(t *testing.T) both {
	t.Helper()
	b := newBoth(t, 40)
	b.happens(t, deposits(1, api.EUR, 0), deposits(2, api.EUR, 500), deposits(3, api.USD, 0), deposits(4, api.USD, minor), deposits(5, api.JPY, 500),
		loans(6, api.EUR, 1000), loans(7, api.EUR, minor), loans(8, api.USD, 1000), loans(9, api.EUR, 0),
		rates(api.EUR, api.USD, one), rates(api.EUR, api.JPY, rate), rates(api.USD, api.EUR, 1))
	for p := int64(1); p <= 5; p++ {
		id := 10 * p
		b.happens(t, open(id, p), open(id+1, p), open(id+2, p), open(id+3, p), open(id+4, p))
		b.happens(t, deposit(id+1, 1000), deposit(id+2, minor), shut(id+3), deposit(id+4, 1000), hold(id+4, 1, 300))
	}
	b.happens(t, withdraw(20, 200), withdraw(40, minor))
	for n := int64(1); n <= api.MaxHolds; n++ {
		b.happens(t, hold(12, n, 1), hold(52, n, minor/64+1))
	}
	for p := int64(6); p <= 9; p++ {
		id := 10 * p
		b.happens(t, open(id, p), open(id+1, p), open(id+3, p), shut(id+3))
	}
	b.happens(t, lend(61, 11, 700, 1), withdraw(11, 700), withdraw(12, 5), transfer(12, 20, minor-100), lend(71, 11, minor-1000, 1), withdraw(11, minor-1000), lend(81, 31, 1000, 1))
	b.agree(t)
	return b
}

func some(lists ...[]int64) []int64 { return slices.Concat(lists...) }

// asks: all commands of an Op over these numbers.
func asks(op byte, numbers ...[]int64) []api.Event {
	all := []api.Event{cmd(op)}
	for place, list := range numbers {
		var longer []api.Event
		for _, c := range all {
			for _, n := range list {
				longer = append(longer, with(c, place, n))
			}
		}
		all = longer
	}
	return all
}

// TestEveryErrorAloneAndInPairs asks for every Op of the table: of the errors that apply the least is answered, and
// each that can be alone was, and each two that can be together were.
func TestEveryErrorAloneAndInPairs(t *testing.T) { // P17.2: the order of errors, the table
	b := crowd(t)
	ids := []int64{0, 99}
	for id := range b.p.account {
		ids = append(ids, id)
	}
	slices.Sort(ids)
	amounts := []int64{0, 1, 300, 499, 500, 501, 700, 701, 1000, 1001, 1500, minor - 999, minor, minor + 1, math.MaxInt64, math.MinInt64}
	numbers := []int64{0, 1, 2, 64, 65, number, number + 1}
	months := []int64{0, 1, api.MaxMonths, api.MaxMonths + 1}
	curs := []int64{-1, 0, 1, 2, 3, 4}
	for _, c := range []struct {
		commands     []api.Event
		alone, pairs string
	}{
		{asks(api.OpOpen, some(ids, numbers), []int64{0, 1, 6, 10}), "01 07 08", "01+07 07+08"},
		{asks(api.OpClose, some(ids, numbers)), "07 14 15", ""},
		{asks(api.OpDeposit, ids, amounts), "01 04 07 11 14", "01+04 01+07 01+11 01+14 04+11 11+14"},
		{asks(api.OpWithdraw, ids, amounts), "01 07 11 13 14", "01+07 01+11 01+13 01+14 11+13 11+14 13+14"},
		{asks(api.OpTransfer, ids, ids, amounts), "01 04 07 10 11 13 14",
			"01+04 01+07 01+10 01+11 01+13 01+14 04+07 04+10 04+11 04+13 04+14 07+11 07+13 07+14 10+11 10+13 10+14 11+13 11+14 13+14"},
		{asks(api.OpHold, ids, numbers, amounts), "01 07 08 11 13 14 17",
			"01+07 01+08 01+11 01+13 01+14 01+17 08+13 08+17 11+13 11+14 13+14 13+17"},
		{asks(api.OpFree, ids, numbers), "07", "01+07 07+11 07+14"},
		{asks(api.OpLend, ids, ids, amounts, months), "01 04 07 10 11 12 14",
			"01+04 01+07 01+10 01+11 01+12 01+14 04+07 04+10 04+11 04+12 04+14 07+11 07+12 07+14 10+11 10+12 10+14 11+12 11+14 12+14"},
		{asks(api.OpRepay, ids, ids, amounts), "01 07 10 11 12 13 14",
			"01+07 01+10 01+11 01+12 01+14 07+11 07+12 07+13 07+14 10+11 10+12 10+13 10+14 11+12 11+13 11+14 12+13 12+14 13+14"},
		{asks(api.OpRate, curs, curs, []int64{0, 1, rate, rate + 1}), "01 10", "01+10"},
		{asks(api.OpExchange, ids, ids, amounts), "01 04 07 11 13 14",
			"01+07 01+11 01+13 01+14 04+11 04+13 04+14 07+10 07+11 07+13 07+14 11+13 11+14 13+14"},
	} {
		b.meets(t, c.commands, c.alone, c.pairs)
	}
}

func TestEveryErrorOfOpenWhereThereIsNoRoom(t *testing.T) { // P17.2
	b := newBoth(t, 40)
	b.happens(t, deposits(1, api.EUR, 0))
	for id := int64(1); id <= api.MaxAccounts; id++ {
		b.happens(t, open(id, 1))
	}
	b.happens(t, shut(7))
	b.meets(t, asks(api.OpOpen, []int64{0, 1, 7, 256, 257, number, number + 1}, []int64{0, 1, 2}), "17", "01+17 07+17 08+17")
}

// meets: the commands are planned alike, change nothing, and meet just these errors alone, and two at once.
func (b both) meets(t *testing.T, commands []api.Event, alone, pairs string) {
	t.Helper()
	ones, twos := map[string]int{}, map[string]int{}
	before := stateOf(b.m)
	for _, c := range commands {
		switch _, _, all := b.plans(t, c); len(all) {
		case 1:
			ones[nameOf(all)]++
		case 2:
			twos[nameOf(all)]++
		}
	}
	if !reflect.DeepEqual(stateOf(b.m), before) {
		t.Errorf("planning the Op %d changes the model", commands[0].Op)
	}
	if got := namesOf(ones); got != alone {
		t.Errorf("of the Op %d these errors were met alone: %s; want %s", commands[0].Op, got, alone)
	}
	if got := namesOf(twos); got != pairs {
		t.Errorf("of the Op %d these errors were met at once: %s; want %s", commands[0].Op, got, pairs)
	}
}

func namesOf(met map[string]int) string { return strings.Join(slices.Sorted(maps.Keys(met)), " ") }

func nameOf(all errors) string {
	name := ""
	for _, e := range slices.Sorted(maps.Keys(all)) {
		name += "+" + string('0'+rune(e/10)) + string('0'+rune(e%10))
	}
	return name[1:]
}
