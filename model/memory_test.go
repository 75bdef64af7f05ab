package model_test

import (
	"reflect"
	"slices"
	"testing"

	"passbook/api"
	"passbook/event"
	"passbook/model"
)

// scribble: all over a list, the spare room behind it too.
func scribble[T any](l []T, with T) {
	l = l[:cap(l)]
	for i := range l {
		l[i] = with
	}
}

func wild() api.Tier { return api.Tier{From: -77, Rate: -77} }

// roomy: the command with its tiers in a longer list.
func roomy(c api.Event, room int) (api.Event, []api.Tier) {
	whole := slices.Clone(c.Tiers)
	for range room {
		whole = append(whole, api.Tier{From: 5, Rate: 55})
	}
	whole = slices.Clip(whole)
	c.Tiers = whole[:len(c.Tiers)]
	return c, whole
}

func TestWhatIsHandedInIsLeftAndNotKept(t *testing.T) { // the rules of memory
	plainProduct := tiers(deposits(1, api.EUR, 0), api.Tier{From: 0, Rate: 36500000}, api.Tier{From: 2000000, Rate: 1})
	for _, room := range []int{0, 1, 4} {
		m := bank(t, 40)
		c, whole := roomy(plainProduct, room)
		before := slices.Clone(whole)
		planned, _, _ := m.Plan(c)
		second, _, _ := m.Plan(c)
		refused := m.Apply(c)
		m.Plan(c) // refused now
		if refused != api.OK || !slices.Equal(whole, before) {
			t.Fatalf("error %d; or the tiers, or the room behind them, have changed: %v", refused, whole)
		}
		scribble(whole, wild())
		if !event.Same(planned, plainProduct) || !event.Same(second, plainProduct) || slices.Contains(planned.Tiers[:cap(planned.Tiers)], wild()) {
			t.Errorf("what was planned shares memory with the command: %v", planned)
		}
		scribble(planned.Tiers, wild())
		if !event.Same(second, plainProduct) || slices.Contains(second.Tiers[:cap(second.Tiers)], wild()) {
			t.Errorf("two plans share memory: %v", second)
		}
		happen(t, m, open(10, 1), deposit(10, 1000000))
		goesOn(t, m, begin(40), step(10, 1, 100000000), roll(41))
	}
	m := bank(t, 40)
	c, _ := roomy(plainProduct, 3)
	planned, _, _ := m.Plan(c)
	applies(t, m, planned)
	scribble(planned.Tiers, wild())
	happen(t, m, open(10, 1), deposit(10, 1000000))
	goesOn(t, m, begin(40), step(10, 1, 100000000), roll(41))
}

func TestAnEmptyListIsNone(t *testing.T) { // nil and empty lists are the same
	m := bank(t, 40, deposits(1, api.EUR, 0), open(10, 1))
	spare := make([]api.Tier, 3)
	c := tiers(deposit(10, 5), spare[:0]...)
	moves(t, m, c, 5)
	e, _, _ := m.Plan(c)
	if len(e.Tiers) != 0 || cap(e.Tiers) != 0 {
		t.Errorf("Plan answers the spare room of what was handed in")
	}
	next, _ := m.Next()
	next.Tiers = spare[:0]
	applies(t, m, next)
}

func TestAnswersAreNewMemory(t *testing.T) { // the rules of memory
	m := bank(t, 31, deposits(1, api.EUR, 500), loans(2, api.EUR, 500), open(10, 1), open(20, 2), deposit(10, 1000000), hold(10, 1, 5), lend(20, 10, 500, 1))
	for {
		before := stateOf(m)
		scribble(m.Accounts(), api.Account{ID: 77, Balance: 77})
		scribble(m.Trial(), api.Line{Code: 77})
		due, _ := m.Due()
		other, _ := m.Due()
		first := slices.Clone(other)
		scribble(due, cmd(77))
		if !slices.EqualFunc(first, other, event.Same) || !reflect.DeepEqual(stateOf(m), before) {
			t.Fatal("an answer shares memory with the model, or with another answer")
		}
		next, _ := m.Next()
		applies(t, m, next)
		if next.Op == api.OpRoll {
			break
		}
	}
}

func TestANilModel(t *testing.T) { // P17.4, and the rule of nil objects
	var m *model.Model
	if m.Day() != 0 || m.Running() || m.Seq() != 0 || len(m.Accounts()) != 0 || len(m.Trial()) != 0 || m.Entries() != 0 {
		t.Errorf("a nil model tells something")
	}
	if a, e := m.Account(10); a != (api.Account{}) || e != api.ErrNone {
		t.Errorf("Account(10) = %v, error %d", a, e)
	}
	if n, e := m.Rate(0, 1); n != 0 || e != api.ErrNone {
		t.Errorf("Rate(0, 1) = %d, error %d", n, e)
	}
	if n, e := m.Rate(0, 4); n != 0 || e != api.ErrArg {
		t.Errorf("Rate(0, 4) = %d, error %d", n, e)
	}
	if next, e := m.Next(); !reflect.DeepEqual(next, api.Event{}) || e != api.ErrNone {
		t.Errorf("Next = %v, error %d", next, e)
	}
	if due, e := m.Due(); len(due) != 0 || e != api.ErrNone {
		t.Errorf("Due = %v, error %d", due, e)
	}
	for _, c := range []api.Event{
		deposits(1, api.EUR, 0), open(10, 1), shut(10), deposit(10, 5), withdraw(10, 5), transfer(10, 11, 5), hold(10, 1, 5), free(10, 1),
		lend(20, 10, 5, 1), repay(20, 10, 5), rates(0, 1, 5), rates(1, 1, 5), exchange(10, 11, 5), keyed(7, shut(10)),
	} {
		refuses(t, m, c, api.ErrNone)
		refuses(t, m, tiers(c, make([]api.Tier, 9)...), api.ErrForm)
	}
	for _, c := range []api.Event{ // what applies with a lesser number
		deposits(0, api.EUR, 0), open(0, 1), deposit(10, 0), withdraw(10, 0), transfer(10, 10, 5), hold(10, 0, 5), free(10, 0), lend(20, 10, 5, 0),
		repay(20, 10, minor+1), rates(0, 4, 5), rates(1, 1, 0), exchange(10, 10, 5),
	} {
		refuses(t, m, c, api.ErrArg)
	}
	refuses(t, m, tiers(deposits(1, api.EUR, 0)), api.ErrForm)
	refuses(t, m, api.Event{}, api.ErrForm)
	refuses(t, m, with(exchange(10, 11, 5), 3, 1), api.ErrForm)
	for _, e := range []api.Event{begin(0), begin(1), step(10, 1, 0), roll(1)} {
		if _, _, refused := m.Plan(e); refused != api.ErrArg {
			t.Errorf("Plan(%v): error %d", e, refused)
		}
		if refused := m.Apply(e); refused != api.ErrForm {
			t.Errorf("Apply(%v): error %d", e, refused)
		}
	}
}
