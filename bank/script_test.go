package bank_test

import (
	"fmt"
	"slices"
	"testing"

	"passbook/api"
	"passbook/bank"
	"passbook/disk"
	"passbook/event"
)

// What a script does beside the commands.
const (
	snapshotNow byte = 200
	endOfDay    byte = 201 // of the day N[0], in pieces of N[1] events
)

// script: the commands have keys, so that they can be asked again; none is refused.
func script() []api.Event {
	day := func(day, piece int64) api.Event { return cmd(endOfDay, day, piece) }
	list := []api.Event{
		product(1, api.KindDeposit, api.EUR, 7, 500), open(10, 1), deposit(10, 1000000), cmd(snapshotNow),
		open(11, 1), transfer(10, 11, 5000), hold(11, 3, 100), day(january-1, 2), cmd(snapshotNow), cmd(snapshotNow),
		product(2, api.KindLoan, api.EUR, 0, minor), open(30, 2), lend(30, 11, 2000000, 3), day(january, 4), cmd(snapshotNow),
		free(11, 3), withdraw(11, 2000000), deposit(10, 5), repay(30, 10, 50), open(12, 1), day(january+1, maxSteps), shut(12), withdraw(10, 1), cmd(snapshotNow), deposit(10, 77),
	}
	for i := range list {
		if list[i].Op < snapshotNow {
			list[i].Key = uint64(100 + i)
		}
	}
	return list
}

// finished: a twin to which the whole script happened.
func finished(t *testing.T) *twin {
	t.Helper()
	w := twinOf(t, storyDay)
	for _, s := range script() {
		switch s.Op {
		case snapshotNow:
		case endOfDay:
			w.do(t, begin(maxSteps))
		default:
			if r := w.do(t, s); r.E != api.OK {
				t.Fatalf("%v: error %d", s, r.E)
			}
		}
	}
	return w
}

// player does the script, whatever crashes: what was under way when the power went is done once more.
type player struct {
	what  string
	d     *disk.Disk
	b     *bank.Bank
	per   int
	acked int // events that were acknowledged
	more  int // so many more may be there
	power int // how often it went
	arms  []int
	fate  disk.Fate
	all   []api.Event
}

// start opens the bank, as often as it takes.
func (p *player) start(t *testing.T) {
	t.Helper()
	for {
		if len(p.arms) > 0 {
			answers(t, "Arm", p.d.Arm(p.arms[0]), api.OK)
			p.arms = p.arms[1:]
		}
		b, e := bank.Open(p.d, p.per, storyDay)
		if e == api.OK {
			p.b = b
			p.look(t)
			return
		}
		answers(t, p.what+": Open", e, api.ErrDown)
		p.again(t)
	}
}

// look: all that was acknowledged is there, and at most the first one of what was under way.
func (p *player) look(t *testing.T) {
	t.Helper()
	events := p.b.Events()
	if n := len(events); n < p.acked || n > p.acked+p.more || !slices.EqualFunc(events, p.all[:n], event.Same) {
		t.Fatalf("%s: there are %d events, %d were acknowledged: %v", p.what, n, p.acked, events)
	}
	p.acked, p.more = len(events), 0
}

func (p *player) again(t *testing.T) {
	t.Helper()
	answers(t, "Restart", p.d.Restart(p.fate), api.OK)
	p.power++
}

// play: all of the script.
func (p *player) play(t *testing.T) {
	t.Helper()
	p.start(t)
	for _, s := range script() {
		for !p.doneWith(t, s) {
			p.again(t)
			p.start(t)
		}
	}
}

// doneWith: false, where the power went.
func (p *player) doneWith(t *testing.T, s api.Event) bool {
	t.Helper()
	switch s.Op {
	case snapshotNow:
		e := p.b.Snapshot()
		if e != api.OK {
			answers(t, p.what+": Snapshot", e, api.ErrDown)
		}
		return e == api.OK
	case endOfDay:
		for int64(p.b.Day()) <= s.N[0] {
			if !p.ask(t, begin(s.N[1])) {
				return false
			}
		}
		return true
	}
	return p.ask(t, s)
}

func (p *player) ask(t *testing.T, c api.Event) bool {
	t.Helper()
	r := p.b.Do(c)
	happened := int(r.Seq) - p.acked
	switch {
	case r.E == api.ErrDown:
		p.more = 1
	case r.E == api.ErrSeen && p.power > 0 && happened == 0:
	case r.E != api.OK:
		t.Fatalf("%s: %v answers %v", p.what, c, r)
	}
	if c.Op == api.OpBegin && int64(happened) != r.N || happened < 0 || c.Op != api.OpBegin && happened > 1 {
		t.Fatalf("%s: %v answers %v, %d events were there", p.what, c, r, p.acked)
	}
	p.acked = int(r.Seq)
	return r.E != api.ErrDown
}

// TestPowerGoesAnywhere: at each operation of the script, with every fate; at the end all events are there, once each.
func TestPowerGoesAnywhere(t *testing.T) { // P19.5, P5, P6
	w := finished(t)
	for _, per := range []int{1, 2, 5} {
		at := 1
		for ; plays(t, w, per, fates(3), at); at++ {
		}
		if at < 100 {
			t.Fatalf("the script has only %d operations", at)
		}
	}
}

// TestPowerGoesAgain: and again, soon behind the opening, and at an operation of the opening itself.
func TestPowerGoesAgain(t *testing.T) { // P19.5, P5, P6
	w := finished(t)
	some := []disk.Fate{{}, {Done: true}, {Keep: []bool{true}}, {Keep: []bool{false, true, true, true}}, {Done: true, Keep: []bool{true, true, true, true, true, true}}}
	for _, per := range []int{1, 3} {
		for second := 1; second <= 5; second++ {
			for at := 1; plays(t, w, per, some, at, second, 1+at%4); at++ {
			}
		}
	}
}

// plays: false, where the power did not go as often as it was told to.
func plays(t *testing.T, w *twin, per int, fates []disk.Fate, arms ...int) bool {
	t.Helper()
	for _, f := range fates {
		p := &player{what: fmt.Sprintf("per %d, at operations %d, %v", per, arms, f), d: diskOf(t, nil), per: per, arms: arms, fate: f, all: w.events}
		if p.play(t); p.power == 0 {
			return false
		}
		answers(t, "Arm", p.d.Arm(0), api.OK)
		isLike(t, p.what, p.b, w)
		opened(t, p.what, p.d, per, storyDay, w)
	}
	return true
}
