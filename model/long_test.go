package model_test

import (
	"math/rand"
	"reflect"
	"testing"

	"passbook/api"
	"passbook/event"
	"passbook/model"
)

// chooser makes commands up, sensible ones and wrong ones.
type chooser struct {
	*rand.Rand
	m *model.Model
}

func (c chooser) of(n ...int64) int64 { return n[c.Intn(len(n))] }

func (c chooser) id() int64 { return 1 + c.Int63n(24) }

// like: an open account of the kind and, mostly, of the currency; at times any number.
func (c chooser) like(kind, cur int) int64 {
	var ids []int64
	for _, a := range c.m.Accounts() {
		if a.Open && a.Kind == kind && (a.Cur == cur || c.Intn(8) == 0) {
			ids = append(ids, a.ID)
		}
	}
	if len(ids) == 0 || c.Intn(8) == 0 {
		return c.id()
	}
	return c.of(ids...)
}

// two: accounts of these kinds, mostly of so many currencies.
func (c chooser) two(kind, other int, currencies int64) (int64, int64) {
	cur := c.Intn(4)
	return c.like(kind, cur), c.like(other, (cur+int(c.Int63n(currencies)))%4)
}

func (c chooser) amount() int64 {
	switch c.Intn(40) {
	case 0:
		return c.of(0, -1, minor, minor+1, minor-1)
	case 1, 2, 3:
		return 1 + c.Int63n(minor)
	}
	return 1 + c.Int63n(1+c.Int63n(1+c.Int63n(100000000)))
}

func (c chooser) product() api.Event {
	id := 1 + c.Int63n(8)
	e := cmd(api.OpProduct, id, 1+id%3/2, id%4, c.of(1, 700000, 738900, 738910, 738920), c.Int63n(4), c.Int63n(7), c.of(0, 5, 100, minor), c.of(0, 1000, 1000000, minor))
	from := int64(0)
	for range 1 + c.Intn(4) {
		e.Tiers = append(e.Tiers, api.Tier{From: from, Rate: c.Int63n(1 + c.Int63n(1000000001))})
		from += 1 + c.Int63n(1+c.Int63n(100000000))
	}
	return e
}

func (c chooser) command() api.Event {
	e := c.plainCommand()
	if c.Intn(4) == 0 {
		e.Key = uint64(1 + c.Intn(400))
	}
	return e
}

func (c chooser) plainCommand() api.Event {
	const own, owed = api.KindDeposit, api.KindLoan
	switch c.Intn(24) {
	case 0:
		return c.product()
	case 1, 2:
		return open(c.id(), 1+c.Int63n(8))
	case 3:
		if c.Intn(4) == 0 {
			return shut(c.id())
		}
		return deposit(c.like(own, c.Intn(4)), c.amount())
	case 4, 5, 6, 7:
		return deposit(c.like(own, c.Intn(4)), c.amount())
	case 8, 9:
		return withdraw(c.like(own, c.Intn(4)), c.amount())
	case 10, 11, 12:
		from, to := c.two(own, own, 1)
		return transfer(from, to, c.amount())
	case 13, 14:
		return hold(c.like(own, c.Intn(4)), 1+c.Int63n(4), c.amount())
	case 15, 16:
		return free(c.like(own, c.Intn(4)), 1+c.Int63n(4))
	case 17, 18:
		loan, to := c.two(owed, own, 1)
		return lend(loan, to, c.amount(), c.Int63n(482))
	case 19, 20:
		loan, from := c.two(owed, own, 1)
		return repay(loan, from, c.amount())
	case 21:
		return rates(c.Int63n(4), c.Int63n(4), c.of(1, one, 1234567890, 160500000000, 987654321, rate, c.Int63n(rate)))
	}
	from, to := c.two(own, own, 4)
	return exchange(from, to, c.amount())
}

// started: a plain bank with products and accounts, ahead of a month's end.
func started(t *testing.T, c *chooser) both {
	t.Helper()
	b := newBoth(t, 738900+c.Intn(70)) // in the first months of 2024
	c.m = b.m
	for id := int64(1); id <= 8; id++ {
		p := with(with(c.product(), 0, id), 3, 1)
		b.happens(t, with(with(p, 1, 1+id%3/2), 2, id%4))
	}
	for id := int64(1); id <= 12; id++ {
		b.happens(t, open(2*id-1, 1+(id-1)%8))
	}
	return b
}

// TestLongRunsMeetThePlainBank compares all that is told behind every event, and P17.5 with it.
func TestLongRunsMeetThePlainBank(t *testing.T) { // P17.2, P17.3, P17.4, P17.5
	const runs, commands = 16, 2500
	ops, paid := map[byte]int{}, map[int64]int{}
	for seed := range int64(runs) {
		c := chooser{Rand: rand.New(rand.NewSource(seed))}
		b := started(t, &c)
		for range commands {
			e := c.command()
			if c.Intn(40) == 0 || b.m.Running() && c.Intn(4) > 0 {
				e, _ = b.m.Next()
				if _, _, refused := b.m.Plan(e); refused != api.ErrArg {
					t.Fatalf("Plan(%v): error %d; want ErrArg", e, refused)
				}
			} else if planned, refused, _ := b.plans(t, e); refused != api.OK {
				if got := b.m.Apply(e); got != refused {
					t.Fatalf("Apply(%v): error %d; want %d", e, got, refused)
				}
				continue
			} else {
				e = planned
			}
			b.happensJust(t, c, e)
			ops[e.Op]++
			if e.Op == api.OpStep && e.N[2] > 0 {
				paid[e.N[1]]++
			}
			b.agree(t)
		}
	}
	for op := api.OpProduct; op <= api.OpRoll; op++ {
		if ops[op] < 40 {
			t.Errorf("the Op %d happened %d times", op, ops[op])
		}
	}
	if min(paid[1], paid[2], paid[3]) < 40 {
		t.Errorf("of the stages so many steps had an amount: %v", paid)
	}
}

// happensJust: the event, and nothing that is nearly so.
func (b both) happensJust(t *testing.T, c chooser, e api.Event) {
	t.Helper()
	if e.Op >= api.OpExchange {
		for place := range e.N {
			if e.Op == api.OpExchange && place < 3 { // another exchange, which may well happen
				continue
			}
			near := with(e, place, e.N[place]+c.of(-1, 1, 7, -e.N[place]-1))
			if got := b.m.Apply(near); got != api.ErrForm {
				t.Fatalf("Apply(%v): error %d; want ErrForm, since %v is due", near, got, e)
			}
		}
	}
	if got := b.m.Apply(e); got != api.OK {
		t.Fatalf("Apply(%v): error %d", e, got)
	}
	b.p.apply(e)
}

func TestTheSameEventsLeadToTheSameModel(t *testing.T) { // P17.3, P2
	start := 738910
	first := bank(t, start)
	c := chooser{rand.New(rand.NewSource(99)), first}
	var happened []api.Event
	for range 4000 {
		e, _, refused := first.Plan(c.command())
		if refused != api.OK && (first.Running() || c.Intn(20) == 0) {
			e, refused = first.Next()
		}
		if refused == api.OK {
			applies(t, first, e)
			happened = append(happened, e)
		}
	}
	again := bank(t, start)
	for i, e := range happened {
		again.Plan(c.command()) // what is asked in between counts nothing
		again.Due()
		p, _ := event.Write(e)
		read, _ := event.Read(p)
		if refused := again.Apply(read); refused != api.OK {
			t.Fatalf("the event %d, %v: error %d", i, e, refused)
		}
	}
	if !reflect.DeepEqual(stateOf(first), stateOf(again)) {
		t.Errorf("the same %d events lead to another model", len(happened))
	}
}
