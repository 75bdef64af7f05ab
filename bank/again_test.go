package bank_test

import (
	"fmt"
	"math/rand"
	"testing"

	"passbook/api"
	"passbook/bank"
	"passbook/disk"
)

// TestAgain: a bank that is opened as often as one likes is the same, and the disk, too, with snapshots between and without.
func TestAgain(t *testing.T) { // P19.1, P19.4, P2
	for _, per := range []int{1, 3, 8, 1000} {
		for every := 1; every <= 7; every += 2 {
			plain, snapped := diskOf(t, nil), diskOf(t, nil)
			w := twinOf(t, storyDay)
			for i, c := range story() {
				what := fmt.Sprintf("per %d, behind %d commands", per, i)
				a := opened(t, what, plain, per, storyDay, w)
				b := opened(t, what+", with snapshots", snapped, per, storyDay, w)
				if r, s := a.Do(c), b.Do(c); r != w.do(t, c) || r != s {
					t.Fatalf("%s: %v answers %v and, with snapshots, %v", what, c, r, s)
				}
				isLike(t, what, a, w)
				isLike(t, what+", with snapshots", b, w)
				if i%every == 0 {
					answers(t, "Snapshot", b.Snapshot(), api.OK)
				}
			}
			for _, d := range []*disk.Disk{plain, snapped} {
				files, ops := imageOf(t, d), d.Ops()
				for range 3 {
					opened(t, "again", d, per, storyDay, w)
				}
				if looksLike(t, "again", d, files); d.Ops() != ops {
					t.Fatalf("Open of a sound disk does %d operations", d.Ops()-ops)
				}
			}
		}
	}
}

// TestLookingChangesNothing: what only looks does no operation, and may be asked as often as one likes.
func TestLookingChangesNothing(t *testing.T) { // P19.4
	d := diskOf(t, nil)
	w := twinOf(t, storyDay)
	b := opened(t, "a new disk", d, 3, storyDay, w)
	for _, c := range story() {
		does(t, "goes on", b, w, c)
		files, ops := imageOf(t, d), d.Ops()
		for range 3 {
			isLike(t, "looking", b, w)
		}
		if looksLike(t, "looking", d, files); d.Ops() != ops {
			t.Fatalf("looking does %d operations", d.Ops()-ops)
		}
	}
}

// anyCommand: one that is taken or not.
func anyCommand(r *rand.Rand) api.Event {
	id, other := 1+r.Int63n(12), 1+r.Int63n(12)
	amount := 1 + r.Int63n(1+r.Int63n(1+r.Int63n(1000000000)))
	var c api.Event
	switch r.Intn(14) {
	case 0, 1:
		c = open(id, 1+r.Int63n(4))
	case 2:
		c = shut(id)
	case 3, 4, 5:
		c = deposit(id, amount)
	case 6:
		c = withdraw(id, amount)
	case 7:
		c = transfer(id, other, amount)
	case 8:
		c = hold(id, 1+r.Int63n(5), amount)
	case 9:
		c = free(id, 1+r.Int63n(5))
	case 10:
		c = lend(id, other, amount, 12)
	case 11:
		c = repay(id, other, amount)
	case 12:
		c = exchange(id, other, amount)
	case 13:
		return begin(r.Int63n(9))
	}
	if r.Intn(2) == 0 {
		c.Key = uint64(r.Intn(400))
	}
	return c
}

func anyFate(r *rand.Rand) disk.Fate {
	f := disk.Fate{Done: r.Intn(2) == 0}
	kept := r.Intn(3)
	for range r.Intn(30) {
		f.Keep = append(f.Keep, kept == 0 || kept == 1 && r.Intn(2) == 0)
	}
	return f
}

// wanderer is a bank that is told anything, with the power going at any time.
type wanderer struct {
	r   *rand.Rand
	d   *disk.Disk
	b   *bank.Bank
	w   *twin
	per int
	got [20]int // how often each error was answered
}

// reopen: the power comes again, and what was under way may be there.
func (p *wanderer) reopen(t *testing.T, brings []api.Event) {
	t.Helper()
	for !p.d.On() {
		answers(t, "Restart", p.d.Restart(anyFate(p.r)), api.OK)
		if p.r.Intn(4) == 0 {
			answers(t, "Arm", p.d.Arm(1), api.OK) // at the opening, if that does anything
		}
		b, e := bank.Open(p.d, p.per, storyDay)
		if e == api.ErrDown {
			continue
		}
		answers(t, "Open", e, api.OK)
		answers(t, "Arm", p.d.Arm(0), api.OK)
		p.b = b
	}
	if events := p.b.Events(); len(events) > len(p.w.events) && len(brings) > 0 {
		p.w.happen(t, brings[0])
	}
	isLike(t, "opened", p.b, p.w)
}

// tell: a command, at which the power may go.
func (p *wanderer) tell(t *testing.T, c api.Event) {
	t.Helper()
	brings, moved, refused := p.w.brings(c)
	got := p.b.Do(c)
	p.got[got.E]++
	if got.E != api.ErrDown {
		if want := (api.Reply{E: refused, N: moved, Seq: int64(len(p.w.events) + len(brings))}); got != want {
			t.Fatalf("%v answers %v, want %v", c, got, want)
		}
		for _, e := range brings {
			p.w.happen(t, e)
		}
		return
	}
	happened := int(got.Seq) - len(p.w.events)
	if happened < 0 || happened >= len(brings) || c.Op == api.OpBegin && got.N != int64(happened) || c.Op != api.OpBegin && got.N != 0 {
		t.Fatalf("%v answers %v behind %d events; it had to bring %v", c, got, len(p.w.events), brings)
	}
	for _, e := range brings[:happened] {
		p.w.happen(t, e)
	}
	isLike(t, "off", p.b, p.w)
	p.reopen(t, brings[happened:])
}

func (p *wanderer) snapshot(t *testing.T) {
	t.Helper()
	e := p.b.Snapshot()
	if isLike(t, "a snapshot", p.b, p.w); e == api.ErrDown {
		p.reopen(t, nil)
		return
	}
	if len(p.w.events) == 0 {
		answers(t, "Snapshot with no event", e, api.ErrForm)
		return
	}
	answers(t, "Snapshot", e, api.OK)
}

// TestLongRuns: the bank is what was acknowledged, and at most one event more, whatever happens.
func TestLongRuns(t *testing.T) { // P19.2, P19.5, P5, P6, P7
	var got [20]int
	for seed := range int64(40) {
		r := rand.New(rand.NewSource(seed))
		p := &wanderer{r: r, d: diskOf(t, nil), w: twinOf(t, storyDay), per: 1 + r.Intn(9)}
		p.b = opened(t, "a new disk", p.d, p.per, storyDay, p.w)
		for _, c := range []api.Event{product(1, 1, api.EUR, 7, 500), product(2, 1, api.JPY, 0, minor), product(3, 1, api.EUR, 0, 0), product(4, 2, api.EUR, 0, minor), rate(api.EUR, api.JPY, 160500000000), rate(api.JPY, api.EUR, 6000000)} {
			p.tell(t, c)
		}
		for range 400 {
			if r.Intn(8) == 0 {
				answers(t, "Arm", p.d.Arm(1+r.Intn(8)), api.OK)
			}
			switch r.Intn(12) {
			case 0:
				p.snapshot(t)
			case 1:
				answers(t, "Arm", p.d.Arm(0), api.OK)
				p.b = opened(t, "again", p.d, p.per, storyDay, p.w)
			case 2, 3:
				if p.b.Running() {
					p.tell(t, begin(maxSteps))
				}
			default:
				p.tell(t, anyCommand(r))
			}
		}
		isLike(t, "at last", p.b, p.w)
		for e, n := range p.got {
			got[e] += n
		}
	}
	if min(got[api.OK], got[api.ErrArg], got[api.ErrNone], got[api.ErrFunds], got[api.ErrState], got[api.ErrSeen], got[api.ErrDown]) < 100 {
		t.Errorf("so often each error was answered: %v", got)
	}
}
