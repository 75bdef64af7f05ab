package bank_test

import (
	"fmt"
	"math"
	"testing"

	"passbook/api"
	"passbook/disk"
)

// TestStory: each kind of command, each with its reply, and each event as the log's next record, behind two operations.
func TestStory(t *testing.T) { // P19.2
	for _, per := range []int{1, 2, 3, 7, 1000} {
		d := diskOf(t, nil)
		w := twinOf(t, storyDay)
		b := opened(t, "a new disk", d, per, storyDay, w)
		for _, c := range story() {
			seq, ops := len(w.events), d.Ops()
			if want := w.do(t, c); want.E != api.OK || want.Seq != int64(len(w.events)) {
				t.Fatalf("%v: %v", c, want)
			} else {
				replies(t, b, c, want)
			}
			what := fmt.Sprintf("per %d, behind %v", per, c)
			isLike(t, what, b, w)
			looksLike(t, what, d, logOf(per, allBytes(w.events)))
			if got, want := d.Ops()-ops, 2*(len(w.events)-seq); got != want {
				t.Fatalf("%s: %d operations, want %d", what, got, want)
			}
			opened(t, what+", again", d, per, storyDay, w)
		}
	}
}

// TestReplies: what moves, by numbers that are written out.
func TestReplies(t *testing.T) { // P19.2
	d := diskOf(t, nil)
	b := opened(t, "a new disk", d, 4, storyDay, twinOf(t, storyDay))
	want := []api.Reply{
		{N: 0, Seq: 1}, {N: 0, Seq: 2}, {N: 0, Seq: 3},
		{N: 0, Seq: 4}, {N: 0, Seq: 5}, {N: 0, Seq: 6}, {N: 0, Seq: 7}, {N: 0, Seq: 8},
		{N: 1000000, Seq: 9}, {N: 250000, Seq: 10}, {N: 0, Seq: 11}, {N: 0, Seq: 12}, {N: 0, Seq: 13},
		{N: 0, Seq: 14}, {N: 1, Seq: 15}, {N: 777777, Seq: 16}, {N: 77, Seq: 17},
		{N: 250500, Seq: 18}, {N: 0, Seq: 19},
		{N: 2, Seq: 21}, {N: 1, Seq: 22}, {N: 3, Seq: 25},
		{N: 500000, Seq: 26}, {N: 0, Seq: 27},
		{N: 5, Seq: 32}, {N: 1, Seq: 33}, {N: 7, Seq: 40},
		{N: 0, Seq: 41}, {N: 5, Seq: 42}, {N: 0, Seq: 43},
	}
	for i, c := range story() {
		replies(t, b, c, want[i])
	}
}

// refused is a command, and with which error.
type refused struct {
	c api.Event
	e api.Errno
}

// notInForm: none of them has a right form; and the form is asked for ahead of all else.
func notInForm() []api.Event {
	list := []api.Event{{}, cmd(16), cmd(255), tiers(product(9, 1, 0, 0, 0), make([]api.Tier, 9)...), tiers(deposit(10, 5), api.Tier{}), tiers(begin(1), api.Tier{}), tiers(begin(0), api.Tier{}), tiers(cmd(api.OpStep), api.Tier{})}
	for op, used := range []int{0, 8, 2, 1, 2, 2, 3, 3, 2, 4, 3, 3, 4, 1, 3, 1} {
		for place := used; place < 8 && op > 0; place++ {
			for _, n := range []int64{1, -1, math.MinInt64, math.MaxInt64} {
				list = append(list, with(cmd(byte(op), 10, 11, 5, 0, 0, 0, 0, 0), place, n))
			}
		}
	}
	for _, got := range []int64{1, -1, 160, math.MaxInt64} {
		list = append(list, with(exchange(10, 20, 100), 3, got))
	}
	return list
}

// wrongs: behind the story, each kind of command, with each kind of error that it can have.
func wrongs() []refused {
	list := []refused{
		{cmd(api.OpStep), api.ErrArg}, {step(10, 1, 0), api.ErrArg}, {cmd(api.OpRoll), api.ErrArg}, {roll(33), api.ErrArg}, {keyed(7, roll(33)), api.ErrArg},
		{begin(0), api.ErrArg}, {begin(-1), api.ErrArg}, {begin(math.MinInt64), api.ErrArg}, {begin(maxSteps + 1), api.ErrArg}, {begin(math.MaxInt64), api.ErrArg}, {begin(1<<32 + 1), api.ErrArg},
		{keyed(7, begin(0)), api.ErrArg}, {keyed(99, begin(maxSteps+1)), api.ErrArg},
		{keyed(7, begin(1)), api.ErrSeen}, {keyed(99, begin(1)), api.ErrSeen}, {keyed(1<<64-1, begin(maxSteps)), api.ErrSeen},
		{product(0, 1, 0, 0, 0), api.ErrArg}, {product(9, 3, 0, 0, 0), api.ErrArg}, {tiers(product(9, 1, 0, 0, 0)), api.ErrForm},
		{with(product(1, 1, 0, 0, 0), 3, 40), api.ErrExists}, {with(product(1, 1, 0, 0, 0), 3, 39), api.ErrDate}, {with(product(1, 1, api.USD, 0, 0), 3, 50), api.ErrKind},
		{open(0, 1), api.ErrArg}, {open(13, 9), api.ErrNone}, {open(10, 1), api.ErrExists}, {open(1000000000, 1), api.ErrExists},
		{shut(99), api.ErrNone}, {shut(1000000000), api.ErrState}, {shut(10), api.ErrBalance}, {shut(30), api.ErrBalance},
		{deposit(10, 0), api.ErrArg}, {deposit(10, minor+1), api.ErrArg}, {deposit(10, minor), api.ErrRange}, {deposit(99, 5), api.ErrNone}, {deposit(30, 5), api.ErrKind}, {deposit(1000000000, 5), api.ErrState},
		{withdraw(10, -5), api.ErrArg}, {withdraw(99, 5), api.ErrNone}, {withdraw(30, 5), api.ErrKind}, {withdraw(10, minor), api.ErrFunds}, {withdraw(1000000000, 5), api.ErrState},
		{transfer(10, 10, 5), api.ErrArg}, {transfer(10, 99, 5), api.ErrNone}, {transfer(10, 20, 5), api.ErrCur}, {transfer(10, 30, 5), api.ErrKind}, {transfer(10, 11, minor/2), api.ErrFunds},
		{hold(10, 0, 5), api.ErrArg}, {hold(99, 1, 5), api.ErrNone}, {hold(10, 5, 5), api.ErrExists}, {hold(10, 1, minor), api.ErrFunds}, {hold(30, 1, 5), api.ErrKind},
		{free(10, 0), api.ErrArg}, {free(10, 6), api.ErrNone}, {free(99, 5), api.ErrNone},
		{lend(30, 10, 5, 0), api.ErrArg}, {lend(99, 10, 5, 1), api.ErrNone}, {lend(30, 20, 5, 1), api.ErrCur}, {lend(10, 11, 5, 1), api.ErrKind}, {lend(30, 10, 5, 1), api.ErrState},
		{repay(30, 10, 0), api.ErrArg}, {repay(30, 99, 5), api.ErrNone}, {repay(30, 20, 5), api.ErrCur}, {repay(30, 10, 2000000), api.ErrLimit}, {repay(30, 12, 5000), api.ErrFunds},
		{rate(4, 0, 5), api.ErrArg}, {rate(0, 1, 0), api.ErrArg}, {rate(0, 0, 5), api.ErrCur},
		{exchange(10, 10, 5), api.ErrArg}, {exchange(10, 99, 5), api.ErrNone}, {exchange(10, 20, minor), api.ErrFunds}, {exchange(10, 30, 5), api.ErrNone},
		{keyed(7, deposit(10, 5)), api.ErrSeen}, {keyed(7, deposit(99, 0)), api.ErrSeen}, {keyed(1, rate(0, 1, 5)), api.ErrSeen}, {keyed(1<<63, open(13, 1)), api.ErrSeen},
		{keyed(99, deposit(99, 5)), api.ErrNone}, {keyed(99, deposit(10, 0)), api.ErrArg},
	}
	for _, c := range notInForm() {
		list = append(list, refused{c, api.ErrForm}, refused{keyed(7, c), api.ErrForm}, refused{keyed(99, c), api.ErrForm})
	}
	return list
}

// TestRefusedIsNothing: a bank that refused all that, each of it twice, is as it was, also when it is opened again; and no key was used.
func TestRefusedIsNothing(t *testing.T) { // P19.2, P7
	d := diskOf(t, nil)
	w := twinOf(t, storyDay)
	b := opened(t, "a new disk", d, 4, storyDay, w)
	does(t, "the story", b, w, story()...)
	for range 2 {
		for _, r := range wrongs() {
			refuses(t, d, b, w, r.c, r.e)
			if want := w.do(t, r.c); want.E != r.e {
				t.Fatalf("%v: the twin answers %d, want %d", r.c, want.E, r.e)
			}
		}
		b = opened(t, "again", d, 4, storyDay, w)
	}
	does(t, "the keys of what was refused", b, w, keyed(99, deposit(10, 5)), keyed(1<<64-1, deposit(10, 6)))
	refuses(t, d, b, w, keyed(99, deposit(10, 5)), api.ErrSeen)
}

// TestRefusedInARun: with an end of day under way no command is taken, but for its going on.
func TestRefusedInARun(t *testing.T) { // P19.2, P7
	d := diskOf(t, nil)
	w := twinOf(t, storyDay)
	b := opened(t, "a new disk", d, 4, storyDay, w)
	does(t, "the story", b, w, story()...)
	due, _ := w.m.Due()
	for range due[1:] {
		does(t, "goes on", b, w, begin(1))
		for _, c := range story() {
			switch {
			case c.Op == api.OpBegin:
			case c.Key != 0:
				refuses(t, d, b, w, c, api.ErrSeen)
			default:
				refuses(t, d, b, w, c, api.ErrState)
			}
		}
		next, _ := w.m.Next() // it is no command
		refuses(t, d, b, w, next, api.ErrArg)
		refuses(t, d, b, w, keyed(5, begin(1)), api.ErrSeen)
		refuses(t, d, b, w, begin(0), api.ErrArg)
		for _, c := range notInForm() {
			refuses(t, d, b, w, c, api.ErrForm)
		}
		b = opened(t, "again", d, 4, storyDay, w)
	}
	if does(t, "its end", b, w, begin(1)); b.Running() {
		t.Fatal("the run is under way still")
	}
	does(t, "the next day", b, w, deposit(10, 5))
}

// TestKeys: new, used, none; used by a command of another kind, ahead of a snapshot, ahead of an opening.
func TestKeys(t *testing.T) { // P19.2, P6
	d := diskOf(t, nil)
	w := twinOf(t, 40)
	b := opened(t, "a new disk", d, 2, 40, w)
	does(t, "three", b, w, first()...)
	keys := []uint64{1, 2, 127, 128, 1<<32 - 1, 1 << 63, 1<<64 - 1}
	for i, key := range keys {
		does(t, "no key", b, w, deposit(10, 1), deposit(10, 1))
		replies(t, b, keyed(key, deposit(10, 5)), api.Reply{N: 5, Seq: int64(len(w.events) + 1)})
		w.do(t, keyed(key, deposit(10, 5)))
		if i%2 == 0 {
			answers(t, "Snapshot", b.Snapshot(), api.OK)
		}
		if i%3 == 0 {
			b = opened(t, "again", d, 2, 40, w)
		}
		for _, used := range keys[:i+1] {
			refuses(t, d, b, w, keyed(used, deposit(10, 5)), api.ErrSeen)
			refuses(t, d, b, w, keyed(used, hold(10, 5, 5)), api.ErrSeen)
		}
	}
}

// TestLongEvents: the longest that there are, of a product with as many tiers as it may have; at the power's going, too.
func TestLongEvents(t *testing.T) { // P19.2, P19.3, P19.5
	widest := func(id int64) api.Event {
		c := keyed(1<<64-1-uint64(id), with(product(1000000000-id, api.KindLoan, api.KWD, minor, minor), 3, lastDay))
		c.Tiers = c.Tiers[:0]
		for i := range int64(api.MaxTiers) {
			c.Tiers = append(c.Tiers, api.Tier{From: i * (minor / 7), Rate: 1000000000 - i})
		}
		return c
	}
	d := diskOf(t, nil)
	w := twinOf(t, 40)
	b := opened(t, "a new disk", d, 2, 40, w)
	for id := int64(1); id <= 5; id++ {
		does(t, "long", b, w, widest(id))
		opened(t, "again", d, 2, 40, w)
		answers(t, "Snapshot", b.Snapshot(), api.OK)
		b = opened(t, "behind a snapshot", d, 2, 40, w)
	}
	if n := len(bytesOf(w.events[0])); n < 128 { // more than one byte tells how many they are
		t.Fatalf("the longest event has %d bytes", n)
	}
	answers(t, "Arm", d.Arm(2), api.OK)
	replies(t, b, widest(6), api.Reply{E: api.ErrDown, Seq: 5})
	answers(t, "Restart", d.Restart(disk.Fate{Done: true}), api.OK)
	w.do(t, widest(6))
	opened(t, "written whole", d, 2, 40, w)
}

// TestFullBank: as many accounts as there may be; the next one is refused by the bank, though the disk has room.
func TestFullBank(t *testing.T) { // P19.2
	d := diskOf(t, nil)
	w := twinOf(t, january)
	b := opened(t, "a new disk", d, 100, january, w)
	does(t, "products", b, w, product(1, api.KindDeposit, api.KWD, 3, 0))
	for id := int64(1); id <= api.MaxAccounts; id++ {
		w.do(t, open(3*id, 1))
		w.do(t, deposit(3*id, 10000*id))
		b.Do(open(3*id, 1))
		b.Do(deposit(3*id, 10000*id))
	}
	isLike(t, "a full bank", b, w)
	refuses(t, d, b, w, open(1, 1), api.ErrFull)
	const events = 1 + 3*api.MaxAccounts + 1
	replies(t, b, begin(events-1), api.Reply{N: events - 1, Seq: 1 + 2*api.MaxAccounts + events - 1})
	if !b.Running() {
		t.Fatal("the run has ended")
	}
	replies(t, b, begin(maxSteps), api.Reply{N: 1, Seq: 1 + 2*api.MaxAccounts + events})
	w.do(t, begin(events))
	isLike(t, "the next day", b, w)
	opened(t, "again", d, 100, january, w)
}
