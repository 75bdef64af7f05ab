package bank_test

import (
	"fmt"
	"testing"

	"passbook/api"
	"passbook/event"
)

// lender: deposits and a loan, open and closed ones.
func lender() []api.Event {
	return []api.Event{
		product(1, api.KindDeposit, api.EUR, 7, 500), product(2, api.KindLoan, api.EUR, 0, minor),
		open(10, 1), open(30, 2), open(5, 1), open(20, 1), deposit(10, 1000000), lend(30, 20, 5000000, 6), withdraw(10, 1000400), shut(5),
	}
}

// TestPieces: an end of day in pieces of every size, with an opening or a snapshot between, makes the same events, once each.
func TestPieces(t *testing.T) { // P19.2, P6
	for _, day := range []int{1, january - 1, january, lastDay - 1} {
		whole := told(t, day, lender()...)
		due, _ := whole.m.Due()
		made := len(whole.events)
		whole.do(t, begin(maxSteps))
		for size := 1; size <= len(due)+1; size++ {
			for _, between := range []string{"nothing", "an opening", "a snapshot", "both"} {
				what := fmt.Sprintf("day %d, pieces of %d, %s between", day, size, between)
				d := diskOf(t, nil)
				w := twinOf(t, day)
				b := opened(t, what, d, 3, day, w)
				does(t, what, b, w, lender()...)
				for left := len(due); left > 0; left -= size {
					n := min(left, size)
					replies(t, b, begin(int64(size)), api.Reply{N: int64(n), Seq: int64(len(w.events) + n)})
					w.do(t, begin(int64(size)))
					isLike(t, what, b, w)
					if between == "a snapshot" || between == "both" {
						answers(t, "Snapshot", b.Snapshot(), api.OK)
					}
					if between == "an opening" || between == "both" {
						b = opened(t, what, d, 3, day, w)
					}
				}
				isLike(t, what, b, whole)
				for i, e := range b.Events()[made:] {
					if !event.Same(e, due[i]) {
						t.Fatalf("%s: %v, want %v", what, e, due[i])
					}
				}
			}
		}
	}
}

// TestUpToRoll: a piece does not go on with the next day.
func TestUpToRoll(t *testing.T) { // P19.2
	for _, n := range []int64{2, 3, 100, maxSteps - 1, maxSteps} {
		d := diskOf(t, nil)
		b := opened(t, "a new disk", d, 4, 40, twinOf(t, 40))
		for day := 41; day < 50; day++ {
			replies(t, b, begin(n), api.Reply{N: 2, Seq: int64(2 * (day - 40))})
			if b.Day() != day || b.Running() {
				t.Fatalf("behind OpRoll it is day %d, running %t, want %d", b.Day(), b.Running(), day)
			}
		}
	}
	d := diskOf(t, nil)
	b := opened(t, "a new disk", d, 4, 40, twinOf(t, 40))
	for seq := int64(1); seq < 20; seq++ {
		replies(t, b, begin(1), api.Reply{N: 1, Seq: seq})
		if b.Running() != (seq%2 == 1) {
			t.Fatalf("behind %d events: running %t", seq, b.Running())
		}
	}
}

// TestLastDay: on it no end of day begins; all else goes on.
func TestLastDay(t *testing.T) { // P19.2, P19.4
	d := diskOf(t, nil)
	w := twinOf(t, lastDay-1)
	b := opened(t, "a new disk", d, 4, lastDay-1, w)
	does(t, "the last day but one", b, w, append(lender(), begin(2), begin(1), begin(maxSteps))...)
	for range 2 {
		if n, e := b.Left(); b.Day() != lastDay || n != 0 || e != api.ErrDate {
			t.Fatalf("day %d, Left = %d, error %d", b.Day(), n, e)
		}
		for _, n := range []int64{1, 2, maxSteps} {
			refuses(t, d, b, w, begin(n), api.ErrDate)
			refuses(t, d, b, w, keyed(5, begin(n)), api.ErrSeen)
			refuses(t, d, b, w, with(begin(n), 1, 1), api.ErrForm)
		}
		for _, n := range []int64{0, -1, maxSteps + 1} {
			refuses(t, d, b, w, begin(n), api.ErrArg)
			refuses(t, d, b, w, keyed(5, begin(n)), api.ErrArg)
		}
		refuses(t, d, b, w, cmd(api.OpStep), api.ErrArg)
		refuses(t, d, b, w, cmd(api.OpRoll), api.ErrArg)
		does(t, "the last day", b, w, deposit(10, 5))
		answers(t, "Snapshot", b.Snapshot(), api.OK)
		b = opened(t, "again", d, 4, lastDay-1, w)
	}
	d = diskOf(t, nil)
	w = twinOf(t, lastDay)
	b = opened(t, "a new bank on the last day", d, 4, lastDay, w)
	refuses(t, d, b, w, begin(1), api.ErrDate)
	does(t, "a new bank on the last day", b, w, lender()...)
	refuses(t, d, b, w, begin(maxSteps), api.ErrDate)
}
