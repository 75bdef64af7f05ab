package log_test

import (
	"testing"

	"passbook/api"
	"passbook/disk"
	"passbook/log"
)

func TestPrune(t *testing.T) { // P10.3
	for _, per := range []int{1, 2, 3, 5} {
		for _, count := range []int{0, 1, 2, 3, 4, 5, 6, 7, 12} {
			all := some(count)
			for n := int64(-2); n <= int64(count)+8; n++ {
				last := int64(max(0, count-1) / per)
				k := min(last, max(0, (n-1)/int64(per))) // so many segments are gone
				d := diskOf(t, fresh(per, all))
				ops := d.Ops()
				l := opened(t, "all", d, per, all)
				answers(t, "Prune", l.Prune(n), api.OK)
				first := k*int64(per) + 1
				numbers(t, "pruned", l, first, int64(count+1))
				var gone []string
				for i := range k {
					gone = append(gone, segment(i))
				}
				looksLike(t, "pruned", d, fresh(per, all).without(gone...))
				if d.Ops() != ops+int(k) {
					t.Fatalf("Prune(%d) does %d operations, want %d", n, d.Ops()-ops, k)
				}
				answers(t, "Prune again", l.Prune(n), api.OK)
				if d.Ops() != ops+int(k) {
					t.Fatalf("Prune(%d) again does %d operations", n, d.Ops()-ops-int(k))
				}
				// The log goes on, and is opened again, as if it had all been there.
				appended(t, "pruned", l, "more", "and more")
				more := append(append([]string{}, all...), "more", "and more")
				looksLike(t, "pruned, with more", d, fresh(per, more).without(gone...))
				l = opened(t, "pruned, with more", d, per, more[first-1:])
				numbers(t, "pruned, with more", l, first, int64(count+3))
			}
		}
	}
}

func TestPruneBitByBit(t *testing.T) { // P10.3
	d := diskOf(t, nil)
	l := opened(t, "a new disk", d, 3, nil)
	for i, p := range some(200) {
		appended(t, "bit by bit", l, p)
		n := int64(i) // but for the newest two
		answers(t, "Prune", l.Prune(n), api.OK)
		first := max(0, (n-1)/3)*3 + 1
		numbers(t, "bit by bit", l, first, int64(i+2))
		want := int64(i)/3 - first/3 + 1
		if got := len(d.Names()); got != int(want) {
			t.Fatalf("behind %d records, with Prune(%d): the files %q, want %d", i+1, n, d.Names(), want)
		}
	}
}

func TestPruneOfFarNumbers(t *testing.T) { // P10.3
	all := some(7)
	for n, first := range map[int64]int64{-1 << 63: 1, -1: 1, 0: 1, 1: 1, 1 << 32: 7, 1<<63 - 1: 7} {
		d := diskOf(t, fresh(2, all))
		l := opened(t, "all", d, 2, all)
		answers(t, "Prune", l.Prune(n), api.OK)
		numbers(t, "far", l, first, 8)
	}
	late := int64(99999998)
	d := diskOf(t, written(1000, late, [32]byte{}, some(1001)))
	l := opened(t, "late", d, 1000, some(1001))
	answers(t, "Prune ahead of its last", l.Prune((late+1)*1000), api.OK)
	numbers(t, "late", l, late*1000+1, late*1000+1002)
	answers(t, "Prune behind its last", l.Prune((late+1)*1000+1), api.OK)
	numbers(t, "late", l, (late+1)*1000+1, late*1000+1002)
}

// TestPruneAheadOfAnEmptyFile: a file that a torn record left empty is the log's last segment; when the others are gone the next record hangs on none.
func TestPruneAheadOfAnEmptyFile(t *testing.T) { // P10.2, P10.3
	all := some(4)
	torn := fresh(2, append(all, "torn"))[segment(2)][:32]
	for _, text := range []string{"", torn} {
		d := diskOf(t, fresh(2, all).with(segment(2), text))
		l := opened(t, "an empty file", d, 2, all)
		looksLike(t, "an empty file", d, fresh(2, all).with(segment(2), ""))
		answers(t, "Prune", l.Prune(4), api.OK)
		numbers(t, "pruned at the last record", l, 3, 5)
		answers(t, "Prune", l.Prune(5), api.OK)
		numbers(t, "pruned", l, 5, 5)
		looksLike(t, "pruned", d, image{segment(2): ""})
		answers(t, "Prune of nothing", l.Prune(1000), api.OK)
		numbers(t, "pruned again", l, 5, 5)
		appended(t, "pruned", l, "x", "y", "z")
		looksLike(t, "pruned, with more", d, written(2, 2, [32]byte{}, []string{"x", "y", "z"}))
		opened(t, "pruned, with more", d, 2, []string{"x", "y", "z"})
	}
	// With none pruned it hangs on the record ahead of it.
	d := diskOf(t, fresh(2, all).with(segment(2), ""))
	l := opened(t, "an empty file", d, 2, all)
	answers(t, "Prune", l.Prune(3), api.OK)
	appended(t, "an empty file", l, "x")
	looksLike(t, "an empty file, with more", d, fresh(2, append(all, "x")).without(segment(0)))
}

func TestPruneOrder(t *testing.T) { // P10.3
	all := some(9)
	whole := fresh(2, all) // five segments
	gone := []string{segment(0), segment(1), segment(2), segment(3)}
	for at := 1; at <= 4; at++ {
		for _, done := range []bool{false, true} {
			d := diskOf(t, whole)
			l := opened(t, "all", d, 2, all)
			answers(t, "Arm", d.Arm(at), api.OK)
			answers(t, "Prune", l.Prune(100), api.ErrDown)
			if l.Next() != 10 || l.First() != int64(2*at-1) {
				t.Fatalf("the power went at segment %d: First = %d, Next = %d", at-1, l.First(), l.Next())
			}
			answers(t, "Prune again", l.Prune(100), api.ErrTerminal)
			answers(t, "Prune of nothing", l.Prune(0), api.ErrTerminal)
			answers(t, "Restart", d.Restart(disk.Fate{Done: done}), api.OK)
			k := at - 1
			if done {
				k = at
			}
			looksLike(t, "the power went", d, whole.without(gone[:k]...))
			answers(t, "Prune with the power on", l.Prune(100), api.ErrTerminal)
			looksLike(t, "an ended log", d, whole.without(gone[:k]...))
			l = opened(t, "the power went", d, 2, all[2*k:])
			numbers(t, "the power went", l, int64(2*k+1), 10)
			answers(t, "Prune", l.Prune(100), api.OK)
			looksLike(t, "pruned at last", d, whole.without(gone...))
		}
	}
}

func TestNilLog(t *testing.T) { // P10.2, P10.3
	var l *log.Log
	numbers(t, "a nil log", l, 0, 0)
	for _, n := range []int64{-1, 0, 1, 1 << 40} {
		answers(t, "Prune", l.Prune(n), api.ErrNone)
	}
	for size, want := range map[int]api.Errno{0: api.ErrForm, 1: api.ErrNone, api.MaxBytes: api.ErrNone, api.MaxBytes + 1: api.ErrLong} {
		if n, e := l.Append(make([]byte, size)); n != 0 || e != want {
			t.Errorf("Append of %d bytes to a nil log answers %d, error %d, want %d", size, n, e, want)
		}
	}
}
