package log_test

import (
	"fmt"
	"maps"
	"slices"
	"strings"
	"testing"

	"passbook/api"
	"passbook/disk"
	"passbook/log"
)

// fates: done and not done, with every way of keeping so many sectors.
func fates(count int) []disk.Fate {
	var out []disk.Fate
	for _, done := range []bool{false, true} {
		for mask := range 1 << count {
			f := disk.Fate{Done: done}
			for i := range count {
				f.Keep = append(f.Keep, mask>>i&1 == 1)
			}
			out = append(out, f)
		}
	}
	return out
}

func TestSecondExample(t *testing.T) { // P10.1, P10.4
	d := diskOf(t, nil)
	l := opened(t, "a new disk", d, 4, nil)
	appended(t, "some", l, "a", "b")
	answers(t, "Arm", d.Arm(1), api.OK)
	if n, e := l.Append([]byte("c")); n != 0 || e != api.ErrDown {
		t.Fatalf("Append answers %d, error %d", n, e)
	}
	answers(t, "Restart", d.Restart(disk.Fate{Keep: []bool{true, false}}), api.OK)
	if n, _ := d.Size(segment(0)); n != 6 {
		t.Fatalf("the file has %d sectors", n)
	}
	opened(t, "torn", d, 4, []string{"a", "b"})
	looksLike(t, "cut", d, fresh(4, []string{"a", "b"}))
}

// TestPowerGoesAtAppend: at both of its operations, for records of two to four sectors, the first, a middle and the last one of a segment.
func TestPowerGoesAtAppend(t *testing.T) { // P10.2, P10.4
	for _, ahead := range []int{0, 1, 2, 3, 4, 5, 6} {
		for _, p := range []string{"x", strings.Repeat("y", 12), strings.Repeat("z", 13), strings.Repeat("v", 60)} {
			count := (len(p) + 36 + 23) / 24
			for at := 1; at <= 2; at++ {
				for _, f := range fates(count) {
					crashAtAppend(t, some(ahead), p, at, f)
				}
			}
		}
	}
}

func crashAtAppend(t *testing.T, ahead []string, p string, at int, f disk.Fate) {
	t.Helper()
	what := fmt.Sprintf("%d records, then %d bytes, at operation %d, %v", len(ahead), len(p), at, f)
	d := diskOf(t, nil)
	l := opened(t, what, d, 3, nil)
	appended(t, what, l, ahead...)
	answers(t, "Arm", d.Arm(at), api.OK)
	if n, e := l.Append([]byte(p)); n != 0 || e != api.ErrDown {
		t.Fatalf("%s: Append answers %d, error %d", what, n, e)
	}
	isEnded(t, what, l, d, 1, int64(len(ahead)+1))
	answers(t, "Restart", d.Restart(f), api.OK)
	before, ops := imageOf(t, d), d.Ops()
	isEnded(t, what, l, d, 1, int64(len(ahead)+1))
	if looksLike(t, what+": an ended log", d, before); d.Ops() != ops {
		t.Fatalf("%s: an ended log does operations", what)
	}
	want := append([]string{}, ahead...)
	whole := !slices.Contains(f.Keep, false) || at == 2 && f.Done
	if whole {
		want = append(want, p)
	}
	l = opened(t, what, d, 3, want)
	numbers(t, what, l, 1, int64(len(want)+1))
	left := fresh(3, want)
	if name := segment(int64(len(ahead) / 3)); !whole && len(ahead)%3 == 0 {
		left[name] = "" // the file was made for good
	}
	looksLike(t, what, d, left)
	appended(t, what, l, "again", "and again")
	want = append(want, "again", "and again")
	looksLike(t, what, d, fresh(3, want))
	opened(t, what, d, 3, want)
}

// isEnded: with the power off and on.
func isEnded(t *testing.T, what string, l *log.Log, d *disk.Disk, first, next int64) {
	t.Helper()
	for size, want := range map[int]api.Errno{0: api.ErrForm, 1: api.ErrTerminal, api.MaxBytes: api.ErrTerminal, api.MaxBytes + 1: api.ErrLong} {
		if n, e := l.Append(make([]byte, size)); n != 0 || e != want {
			t.Fatalf("%s: Append of %d bytes behind ErrDown answers %d, error %d, want %d", what, size, n, e, want)
		}
	}
	for _, n := range []int64{0, 1, 4, 100} {
		answers(t, what+": Prune behind ErrDown", l.Prune(n), api.ErrTerminal)
	}
	numbers(t, what, l, first, next)
}

// TestEndedAndFull: an ended log does not ask the disk any more, whatever that would say.
func TestEndedAndFull(t *testing.T) { // P10.2
	d, _ := disk.New(4)
	l := opened(t, "a new disk", d, 3, nil)
	appended(t, "one", l, "a")
	answers(t, "Arm", d.Arm(1), api.OK)
	if _, e := l.Append([]byte("b")); e != api.ErrDown {
		t.Fatalf("Append answers %d", e)
	}
	if _, e := l.Append([]byte("c")); e != api.ErrTerminal {
		t.Fatalf("Append on a full disk that is off answers %d", e)
	}
	answers(t, "Restart", d.Restart(disk.Fate{Keep: []bool{true, true}}), api.OK)
	if _, e := l.Append([]byte("c")); e != api.ErrTerminal {
		t.Fatalf("Append on a full disk answers %d", e)
	}
	opened(t, "again", d, 3, []string{"a", "b"})
}

// TestPowerOffAlready: the power went at an operation that was none of the log's.
func TestPowerOffAlready(t *testing.T) { // P10.2, P10.3
	all := some(5)
	off := func() (*log.Log, *disk.Disk) {
		d := diskOf(t, fresh(2, all))
		l := opened(t, "all", d, 2, all)
		answers(t, "Arm", d.Arm(1), api.OK)
		answers(t, "Append", d.Append("other", nil), api.ErrDown)
		return l, d
	}
	l, d := off()
	numbers(t, "off", l, 1, 6)
	answers(t, "Prune of nothing, with the power off", l.Prune(2), api.OK)
	if n, e := l.Append(make([]byte, 5)); n != 0 || e != api.ErrDown {
		t.Fatalf("Append with the power off answers %d, error %d", n, e)
	}
	isEnded(t, "off", l, d, 1, 6)
	answers(t, "Restart", d.Restart(disk.Fate{}), api.OK)
	isEnded(t, "on again", l, d, 1, 6)
	looksLike(t, "on again", d, fresh(2, all).with("other", ""))

	l, d = off()
	answers(t, "Prune with the power off", l.Prune(3), api.ErrDown)
	isEnded(t, "off", l, d, 1, 6)
	answers(t, "Restart", d.Restart(disk.Fate{Done: true}), api.OK)
	isEnded(t, "on again", l, d, 1, 6)
	looksLike(t, "on again", d, fresh(2, all).with("other", ""))

	// No call of the log has answered ErrDown: it goes on.
	l, d = off()
	answers(t, "Restart", d.Restart(disk.Fate{}), api.OK)
	appended(t, "on again", l, "x", "y")
	answers(t, "Prune", l.Prune(3), api.OK)
	looksLike(t, "on again", d, fresh(2, append(all, "x", "y")).without(segment(0)).with("other", ""))

	// With no room the disk says so, though it is off; that ends no log.
	small, _ := disk.New(3)
	l = opened(t, "a small disk", small, 2, nil)
	appended(t, "a small disk", l, "a")
	answers(t, "Arm", small.Arm(1), api.OK)
	answers(t, "Append", small.Append("other", nil), api.ErrDown)
	if n, e := l.Append([]byte("b")); n != 0 || e != api.ErrFull {
		t.Fatalf("Append with no room and the power off answers %d, error %d", n, e)
	}
	if n, e := l.Append([]byte("b")); n != 0 || e != api.ErrFull {
		t.Fatalf("Append with no room and the power off answers %d, error %d", n, e)
	}
}

// TestPowerGoesAtOpen: at each operation; what is left tells in which order they come.
func TestPowerGoesAtOpen(t *testing.T) { // P10.1, P10.4
	all := some(12)
	whole := fresh(2, all) // six segments
	files := whole.with(segment(1), whole[segment(1)]+strings.Repeat("\x00", 64), segment(99999999), "").without(segment(3))
	clean := fresh(2, all[:4])
	states := []image{
		files,
		files.with(segment(1), whole[segment(1)]),
		clean.with(segment(2), files[segment(2)], segment(4), files[segment(4)], segment(5), files[segment(5)]),
		clean.with(segment(2), files[segment(2)], segment(4), files[segment(4)]),
		clean.with(segment(2), files[segment(2)]),
		clean,
	}
	for at := 1; at < len(states); at++ {
		for _, f := range fates(2) {
			d := diskOf(t, files)
			answers(t, "Arm", d.Arm(at), api.OK)
			if l, p, e := log.Open(d, 2); l != nil || len(p) != 0 || e != api.ErrDown {
				t.Fatalf("at operation %d: Open answers %v, %q, error %d", at, l, p, e)
			}
			if l, p, e := log.Open(d, 2); l != nil || len(p) != 0 || e != api.ErrDown {
				t.Fatalf("Open with the power off answers %v, %q, error %d", l, p, e)
			}
			answers(t, "Restart", d.Restart(f), api.OK)
			left := states[at-1]
			if f.Done {
				left = states[at]
			}
			looksLike(t, fmt.Sprintf("at operation %d, %v", at, f), d, left)
			if at == 1 && !f.Done { // the cut isn't done: the next Open finds the same
				opened(t, "the next one", d, 2, all[:4])
				looksLike(t, "the next one", d, clean)
			}
		}
	}
	d := diskOf(t, files)
	answers(t, "Arm", d.Arm(len(states)), api.OK)
	opened(t, "all operations", d, 2, all[:4])
	looksLike(t, "all operations", d, clean)
	if !d.On() {
		t.Fatalf("Open does more than %d operations", len(states)-1)
	}
}

// history: what was acknowledged, by numbers; what of it was pruned for certain; and what was under way when the power went.
type history struct {
	acknowledged []string
	pruned       int64 // all numbers below it are gone
	pruning      int64 // all numbers below it may be gone
	underway     string
}

// script does some appends and prunes, until the power goes.
func script(d *disk.Disk, l *log.Log, h *history) {
	for i := range 14 {
		p := strings.Repeat(string(rune('a'+i)), 1+i*5%14)
		if _, e := l.Append([]byte(p)); e != api.OK {
			h.underway = p
			return
		}
		h.acknowledged = append(h.acknowledged, p)
		if i%4 == 3 {
			n := int64(len(h.acknowledged) - 1)
			h.pruning = n
			if e := l.Prune(n); e != api.OK {
				return
			}
			h.pruned = l.First()
		}
	}
}

// holds: are the payloads those that were acknowledged, but for pruned ones, with the one under way or without it?
func (h *history) holds(payloads []string, first int64) error {
	if first < h.pruned || first > max(1, h.pruned, h.pruning) {
		return fmt.Errorf("the first record is %d", first)
	}
	want := h.acknowledged[first-1:]
	if slices.Equal(payloads, want) || h.underway != "" && slices.Equal(payloads, append(slices.Clone(want), h.underway)) {
		return nil
	}
	return fmt.Errorf("the records are %q, acknowledged were %q, under way %q", payloads, want, h.underway)
}

// TestPowerGoesAnywhere: at each operation of a script, with every fate; and once more at each operation of the Open behind it.
func TestPowerGoesAnywhere(t *testing.T) { // P10.4
	for per := 1; per <= 5; per++ {
		at := 1
		for ; crashed(t, per, at); at++ {
		}
		if at < 30 {
			t.Fatalf("the script has only %d operations", at)
		}
	}
}

func crashed(t *testing.T, per, at int) bool {
	for _, f := range fates(3) {
		h := &history{}
		d := diskOf(t, nil)
		l := opened(t, "a new disk", d, per, nil)
		answers(t, "Arm", d.Arm(at), api.OK)
		if script(d, l, h); d.On() {
			return false
		}
		answers(t, "Restart", d.Restart(f), api.OK)
		files := imageOf(t, d)
		l, payloads, e := log.Open(d, per)
		answers(t, "Open", e, api.OK)
		if err := h.holds(texts(payloads), l.First()); err != nil {
			t.Fatalf("per %d, at operation %d, %v: %v", per, at, f, err)
		}
		crashedAgain(t, per, files, texts(payloads), l.First())
	}
	return true
}

func crashedAgain(t *testing.T, per int, files image, want []string, first int64) {
	for at := 1; ; at++ {
		for _, f := range fates(0) {
			d := diskOf(t, files)
			answers(t, "Arm", d.Arm(at), api.OK)
			if _, _, e := log.Open(d, per); e == api.OK {
				return
			}
			answers(t, "Restart", d.Restart(f), api.OK)
			l := opened(t, "behind a crash of Open", d, per, want)
			numbers(t, "behind a crash of Open", l, first, first+int64(len(want)))
		}
	}
}

// TestPowerGoesAtPrune: at each operation, with a log whose last segment is full, short or empty.
func TestPowerGoesAtPrune(t *testing.T) { // P10.3, P10.4
	all := some(8)
	for _, count := range []int{7, 8} {
		for _, more := range []image{nil, {segment(4): ""}} {
			files := fresh(2, all[:count])
			if count == 8 {
				maps.Copy(files, more)
			}
			for at := 1; at <= 3; at++ {
				for _, f := range fates(1) {
					d := diskOf(t, files)
					l := opened(t, "all", d, 2, all[:count])
					answers(t, "Arm", d.Arm(at), api.OK)
					answers(t, "Prune", l.Prune(7), api.ErrDown)
					answers(t, "Restart", d.Restart(f), api.OK)
					gone := at - 1
					if f.Done {
						gone = at
					}
					l = opened(t, "behind a crash of Prune", d, 2, all[2*gone:count])
					numbers(t, "behind a crash of Prune", l, int64(2*gone+1), int64(count+1))
				}
			}
		}
	}
}
