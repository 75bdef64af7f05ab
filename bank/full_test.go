package bank_test

import (
	"fmt"
	"strings"
	"testing"

	"passbook/api"
	"passbook/bank"
	"passbook/disk"
)

// fitting: the reply that the command must have on a disk with room for so many sectors more, and how many of them it takes.
func (w *twin) fitting(t *testing.T, c api.Event, room int) (api.Reply, int) {
	t.Helper()
	brings, moved, refused := w.brings(c)
	taken := 0
	for i, e := range brings {
		if taken += sectors(e); taken > room {
			r := api.Reply{E: api.ErrFull, Seq: int64(len(w.events))}
			if c.Op == api.OpBegin {
				r.N = int64(i)
			}
			return r, taken - sectors(e)
		}
		w.happen(t, e)
	}
	return api.Reply{E: refused, N: moved, Seq: int64(len(w.events))}, taken
}

// TestNoRoom: the story on disks of every size; what there is no room for is refused, and what is shorter goes on behind it.
func TestNoRoom(t *testing.T) { // P19.2, P7
	all := told(t, storyDay, story()...)
	needed, passed := 0, 0
	for _, e := range all.events {
		needed += sectors(e)
	}
	for room := 1; room <= needed; room++ {
		d := diskWith(t, room, nil)
		w := twinOf(t, storyDay)
		b := opened(t, "a new disk", d, 3, storyDay, w)
		free, refused := room, false
		for _, c := range append(story(), deposit(10, 1), shut(12), begin(maxSteps)) {
			what := fmt.Sprintf("a disk of %d sectors, %v", room, c)
			ops, seq := d.Ops(), len(w.events)
			want, taken := w.fitting(t, c, free)
			replies(t, b, c, want)
			free -= taken
			isLike(t, what, b, w)
			looksLike(t, what, d, logOf(3, allBytes(w.events)))
			if d.Ops()-ops != 2*(len(w.events)-seq) {
				t.Fatalf("%s: %d operations for %d events", what, d.Ops()-ops, len(w.events)-seq)
			}
			if refused && want.E == api.OK {
				passed++
			}
			refused = refused || want.E == api.ErrFull
		}
		opened(t, "again", d, 3, storyDay, w)
		if !refused {
			t.Fatalf("a disk of %d sectors has room for all", room)
		}
	}
	if passed < 5 {
		t.Errorf("behind a command that had no room only %d were taken", passed)
	}
}

// TestRoomForShortOnes: events of three sectors and more are refused, while one of two is taken, and then none.
func TestRoomForShortOnes(t *testing.T) { // P19.2, P7
	w := told(t, 40, first()...)
	log := logOf(4, allBytes(w.events))
	d := diskWith(t, len(log[segment(0)])/32+2, log)
	b := opened(t, "little room", d, 4, 40, w)
	wide := tiers(product(2, 1, 0, minor, minor), api.Tier{From: 0, Rate: 1000000000}, api.Tier{From: minor, Rate: 1000000000})
	for _, c := range []api.Event{wide, keyed(1<<63, deposit(10, 5)), product(2, 1, 0, 0, 0)} {
		refuses(t, d, b, w, c, api.ErrFull)
	}
	refuses(t, d, b, w, keyed(1<<63, deposit(99, 5)), api.ErrNone)
	does(t, "a short one", b, w, deposit(10, 5))
	refuses(t, d, b, w, deposit(10, 5), api.ErrFull)
	refuses(t, d, b, w, begin(1), api.ErrFull)
	b = opened(t, "again", d, 4, 40, w)
	refuses(t, d, b, w, keyed(1<<63, deposit(10, 5)), api.ErrFull) // its key isn't used by that
}

// TestTooManyFiles: with the 64th a disk is full, too, though it has room for sectors.
func TestTooManyFiles(t *testing.T) { // P19.2, P19.3
	for _, others := range []int{0, 1, 5} {
		files := image{}
		for i := range others {
			files[fmt.Sprintf("other%d", i)] = ""
		}
		d := diskOf(t, files)
		w := twinOf(t, 40)
		b := opened(t, "a new disk", d, 1, 40, w)
		does(t, "three", b, w, first()...)
		for len(w.events) < maxFiles-others-1 {
			does(t, "some", b, w, deposit(10, 1))
		}
		early := diskOf(t, imageOf(t, d))
		does(t, "the last one", b, w, deposit(10, 1))
		for range 2 {
			refuses(t, d, b, w, deposit(10, 1), api.ErrFull)
			refuses(t, d, b, w, begin(5), api.ErrFull)
			refuses(t, d, b, w, deposit(99, 1), api.ErrNone)
			before, ops := imageOf(t, d), d.Ops()
			answers(t, "Snapshot", b.Snapshot(), api.ErrFull)
			if looksLike(t, "a snapshot without room", d, before); d.Ops() != ops {
				t.Fatalf("a snapshot without room does %d operations", d.Ops()-ops)
			}
			b = opened(t, "again", d, 1, 40, w)
		}
		// With one file fewer a snapshot makes room.
		w = twinOf(t, 40, w.events[:len(w.events)-1]...)
		b = opened(t, "one file fewer", early, 1, 40, w)
		answers(t, "Snapshot", b.Snapshot(), api.OK)
		for range maxFiles - others - 2 {
			does(t, "behind a snapshot", b, w, deposit(10, 1))
		}
		refuses(t, early, b, w, deposit(10, 1), api.ErrFull)
		opened(t, "at last", early, 1, 40, w)
	}
}

// TestSnapshotMakesRoom: it is refused where it has no room itself; else what was refused is taken behind it.
func TestSnapshotMakesRoom(t *testing.T) { // P19.2, P19.3
	w := told(t, 40, first()...)
	payloads := allBytes(w.events)
	log := logOf(2, payloads)
	draft := len(snapshotOf(payloadOf(payloads))) / 32
	used := (len(log[segment(0)]) + len(log[segment(1)])) / 32
	next := keyed(1<<63, deposit(10, 5)) // of three sectors
	for room := used; room <= used+5; room++ {
		d := diskWith(t, room, log)
		w := w.clone(t, 40)
		b := opened(t, "some", d, 2, 40, w)
		if room < used+sectors(next) {
			refuses(t, d, b, w, next, api.ErrFull)
		}
		if room < used+draft {
			answers(t, "Snapshot", b.Snapshot(), api.ErrFull)
			looksLike(t, "a snapshot without room", d, log)
			isLike(t, "a snapshot without room", b, w)
			continue
		}
		answers(t, "Snapshot", b.Snapshot(), api.OK)
		looksLike(t, "a snapshot", d, log.from(1).snapped(payloads))
		does(t, "behind a snapshot", b, w, next)
		opened(t, "again", d, 2, 40, w)
	}
}

// TestDayWithoutRoom: an end of day that has no room for its next event stays where it is, and goes on when there is some.
func TestDayWithoutRoom(t *testing.T) { // P19.2, P6
	whole := told(t, january, append(lender(), begin(maxSteps))...)
	made := len(lender())
	due := whole.events[made:]
	for happened := range due {
		taken := 0
		for _, e := range whole.events[:made+happened] {
			taken += sectors(e)
		}
		for spare := range sectors(due[happened]) {
			d := diskWith(t, api.MaxSectors, image{"other": strings.Repeat("\x00", 32*(api.MaxSectors-taken-spare))})
			w := twinOf(t, january)
			b := opened(t, "a new disk", d, 7, january, w)
			does(t, "some", b, w, lender()...)
			replies(t, b, begin(maxSteps), api.Reply{E: api.ErrFull, N: int64(happened), Seq: int64(made + happened)})
			for _, e := range due[:happened] {
				w.happen(t, e)
			}
			refuses(t, d, b, w, begin(1), api.ErrFull)
			b = opened(t, "again", d, 7, january, w)
			refuses(t, d, b, w, begin(maxSteps), api.ErrFull)
			answers(t, "Remove", d.Remove("other"), api.OK)
			replies(t, b, begin(maxSteps), api.Reply{N: int64(len(due) - happened), Seq: int64(made + len(due))})
			isLike(t, "at its end", b, whole)
			opened(t, "at its end, again", d, 7, january, whole)
		}
	}
}

// TestFullAndOff: the disk says first that there is no room; that ends no Bank.
func TestFullAndOff(t *testing.T) { // P19.2, P19.3
	w := told(t, 40, first()...)
	log := logOf(4, allBytes(w.events))
	d := diskWith(t, len(log[segment(0)])/32, log)
	b := opened(t, "a full disk", d, 4, 40, w)
	answers(t, "Arm", d.Arm(1), api.OK)
	answers(t, "Append", d.Append("other", nil), api.ErrDown)
	off := func(b *bank.Bank) {
		t.Helper()
		for range 2 {
			replies(t, b, deposit(10, 5), api.Reply{E: api.ErrFull, Seq: 3})
			replies(t, b, begin(5), api.Reply{E: api.ErrFull, Seq: 3})
			answers(t, "Snapshot", b.Snapshot(), api.ErrFull)
		}
		isLike(t, "full and off", b, w)
	}
	off(b)
	answers(t, "Restart", d.Restart(disk.Fate{}), api.OK)
	off(b)
}
