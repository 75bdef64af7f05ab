package bank_test

import (
	"slices"
	"testing"

	"passbook/api"
	"passbook/bank"
	"passbook/event"
)

// scribble: all over a list, the spare room behind it too.
func scribble[T any](l []T, with T) {
	l = l[:cap(l)]
	for i := range l {
		l[i] = with
	}
}

func wild() api.Tier { return api.Tier{From: -77, Rate: -77} }

// scribbleEvents: and all over the tiers.
func scribbleEvents(l []api.Event) {
	for _, e := range l[:cap(l)] {
		scribble(e.Tiers, wild())
	}
	scribble(l, cmd(77, 7, 7, 7, 7, 7, 7, 7, 7))
}

// TestCommandsAreNotKept: neither the tiers nor the room behind them is changed, or kept.
func TestCommandsAreNotKept(t *testing.T) { // the rules of memory
	plain := tiers(product(1, api.KindDeposit, api.EUR, 0, 0), api.Tier{From: 0, Rate: 36500000}, api.Tier{From: 2000000, Rate: 1})
	for _, room := range []int{0, 1, 5} {
		d := diskOf(t, nil)
		w := twinOf(t, 40)
		b := opened(t, "a new disk", d, 4, 40, w)
		list := append(slices.Clone(plain.Tiers), slices.Repeat([]api.Tier{{From: 5, Rate: 55}}, room)...)
		before := slices.Clone(list)
		c := tiers(plain, list[:2]...)
		replies(t, b, c, api.Reply{Seq: 1})
		replies(t, b, c, api.Reply{E: api.ErrExists, Seq: 1})
		if !slices.Equal(list, before) {
			t.Fatalf("the tiers, or the room behind them, have changed: %v", list)
		}
		scribble(list, wild())
		w.do(t, plain)
		does(t, "behind it", b, w, open(10, 1), deposit(10, 3000000), begin(9))
		answers(t, "Snapshot", b.Snapshot(), api.OK)
		opened(t, "again", d, 4, 40, w)
	}
}

// TestAnswersAreNewMemory: each of them is written over, while the others stand, and the bank goes on.
func TestAnswersAreNewMemory(t *testing.T) { // the rules of memory
	d := diskOf(t, nil)
	w := twinOf(t, storyDay)
	b := opened(t, "a new disk", d, 4, storyDay, w)
	for i, c := range story() {
		does(t, "goes on", b, w, c)
		events, accounts, trial := b.Events(), b.Accounts(), b.Trial()
		scribbleEvents(b.Events())
		scribble(b.Accounts(), api.Account{ID: 77})
		scribble(b.Trial(), api.Line{Code: 77})
		if !slices.EqualFunc(events, w.events, event.Same) || !slices.Equal(accounts, w.m.Accounts()) || !slices.Equal(trial, w.m.Trial()) {
			t.Fatalf("behind %v: an answer shares memory with another one", c)
		}
		scribbleEvents(events)
		scribble(accounts, api.Account{ID: 77})
		scribble(trial, api.Line{Code: 77})
		isLike(t, "written over", b, w)
		if i%5 == 4 {
			answers(t, "Snapshot", b.Snapshot(), api.OK)
		}
		if i%7 == 6 {
			b = opened(t, "again", d, 4, storyDay, w)
		}
	}
	answers(t, "Snapshot", b.Snapshot(), api.OK)
	opened(t, "at last", d, 4, storyDay, w)
}

// TestTiersAreApart: those of one event are not behind those of another.
func TestTiersAreApart(t *testing.T) { // the rules of memory
	d := diskOf(t, nil)
	b, _ := bank.Open(d, 4, 40)
	for id := int64(1); id <= 5; id++ {
		b.Do(product(id, api.KindDeposit, api.EUR, 0, 0))
	}
	events := b.Events()
	for i := range events {
		list := events[i].Tiers
		scribble(list, wild())
		events[i].Tiers = append(list, wild(), wild())
		for _, e := range events[i+1:] {
			if len(e.Tiers) != 1 || e.Tiers[0] != (api.Tier{From: 0, Rate: 36500000}) {
				t.Fatalf("behind the event %d: %v", i, e)
			}
		}
	}
}

// TestAnswersStay: what was answered early is as it was, whatever happens then.
func TestAnswersStay(t *testing.T) { // the rules of memory
	d := diskOf(t, nil)
	w := twinOf(t, storyDay)
	b := opened(t, "a new disk", d, 4, storyDay, w)
	type answer struct {
		events   []api.Event
		accounts []api.Account
		trial    []api.Line
	}
	var got, want []answer
	for i, c := range story() {
		does(t, "goes on", b, w, c)
		got = append(got, answer{b.Events(), b.Accounts(), b.Trial()})
		want = append(want, answer{slices.Clone(w.events), w.m.Accounts(), w.m.Trial()})
		if i%6 == 5 {
			answers(t, "Snapshot", b.Snapshot(), api.OK)
		}
	}
	for i := range got {
		if !slices.EqualFunc(got[i].events, want[i].events, event.Same) || !slices.Equal(got[i].accounts, want[i].accounts) || !slices.Equal(got[i].trial, want[i].trial) {
			t.Fatalf("the answers behind %d commands have changed", i+1)
		}
	}
}
