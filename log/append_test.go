package log_test

import (
	"encoding/hex"
	"strings"
	"testing"

	"passbook/api"
	"passbook/disk"
	"passbook/log"
)

func TestFirstExample(t *testing.T) { // P10.1, P10.2, P10.3
	d := diskOf(t, nil)
	l := opened(t, "a new disk", d, 2, nil)
	numbers(t, "a new disk", l, 1, 1)
	appended(t, "per 2", l, "a", "b", "c")
	for name, want := range map[string]int{"l00000000": 4, "l00000001": 2} {
		if n, e := d.Size(name); n != want || e != api.OK {
			t.Fatalf("Size(%s) = %d, %d, want %d", name, n, e, want)
		}
	}
	l = opened(t, "again", d, 2, []string{"a", "b", "c"})
	numbers(t, "again", l, 1, 4)
	answers(t, "Prune", l.Prune(3), api.OK)
	numbers(t, "pruned", l, 3, 4)
	if names := d.Names(); len(names) != 1 || names[0] != "l00000001" {
		t.Fatalf("pruned: Names = %q", names)
	}
}

func TestThirdExample(t *testing.T) { // P10.1, P10.2
	d := diskOf(t, nil)
	if n, e := opened(t, "a new disk", d, 2, nil).Append(nil); n != 0 || e != api.ErrForm {
		t.Fatalf("Append of none answers %d, %d", n, e)
	}
	if l, p, e := log.Open(d, 0); l != nil || len(p) != 0 || e != api.ErrArg {
		t.Fatalf("Open(d, 0) answers %v, %q, %d", l, p, e)
	}
}

// TestBytesOfTwoRecords: as they were worked out by other means than this program's.
func TestBytesOfTwoRecords(t *testing.T) { // P10.2
	want, err := hex.DecodeString(strings.Join(strings.Fields(`
		b118000000010002 61e8b7be4341a0370c3d9f42773a59e8e01651911cf43b1e
		b10d000000010102 3f66944cbb690029debc4eb6470000000000000000000000
		b118000000020002 6271beeff9abccbe9b24d2bbd3aa1360d605147a841dd051
		b10d000000020102 130131c6929d6004e1ae4796e80000000000000000000000`), ""))
	if err != nil {
		t.Fatal(err)
	}
	d := diskOf(t, nil)
	appended(t, "two", opened(t, "a new disk", d, 5, nil), "a", "b")
	looksLike(t, "two", d, image{"l00000000": string(want)})
}

func TestPayloadsOfAllLengths(t *testing.T) { // P10.1, P10.2
	var lengths []int
	for n := 1; n <= 130; n++ {
		lengths = append(lengths, n)
	}
	for n := api.MaxBytes - 30; n <= api.MaxBytes; n++ {
		lengths = append(lengths, n)
	}
	for _, n := range lengths {
		for _, letter := range []string{"\x00", "x", "\xff"} {
			all := []string{"first", strings.Repeat(letter, n), "last"}
			d := diskOf(t, nil)
			appended(t, "all lengths", opened(t, "a new disk", d, 2, nil), all...)
			looksLike(t, "all lengths", d, fresh(2, all))
			opened(t, "all lengths", d, 2, all)
		}
	}
}

func TestPayloadsOfAllBytes(t *testing.T) { // P10.1, P10.2
	var all strings.Builder
	for b := range 256 {
		all.WriteByte(byte(b))
	}
	d := diskOf(t, nil)
	appended(t, "all bytes", opened(t, "a new disk", d, 1, nil), all.String())
	looksLike(t, "all bytes", d, fresh(1, []string{all.String()}))
	opened(t, "all bytes", d, 1, []string{all.String()})
}

func TestSegments(t *testing.T) { // P10.1, P10.2
	for _, c := range []struct{ per, count int }{{1, 1}, {1, 2}, {1, 60}, {2, 1}, {2, 2}, {2, 3}, {2, 4}, {2, 5}, {3, 100}, {7, 70}, {999, 1000}, {1000, 999}, {1000, 1000}, {1000, 1001}} {
		d := diskOf(t, nil)
		all := some(c.count)
		l := opened(t, "a new disk", d, c.per, nil)
		for i, p := range all {
			if i%5 == 3 { // whether it is the same object is not to be seen
				l = opened(t, "in the midst", d, c.per, all[:i])
			}
			numbers(t, "in the midst", l, 1, int64(i+1))
			appended(t, "in the midst", l, p)
		}
		looksLike(t, "all", d, fresh(c.per, all))
		ops := d.Ops()
		l = opened(t, "all", d, c.per, all)
		numbers(t, "all", l, 1, int64(c.count+1))
		looksLike(t, "opened", d, fresh(c.per, all))
		if d.Ops() != ops {
			t.Fatalf("Open of a whole log does %d operations", d.Ops()-ops)
		}
	}
}

// TestAppendIsSafe: it is one Append and one Sync, and nothing of it is lost when the power goes then.
func TestAppendIsSafe(t *testing.T) { // P10.2, P10.4
	d := diskOf(t, nil)
	l := opened(t, "a new disk", d, 2, nil)
	all := some(5)
	for i, p := range all {
		ops := d.Ops()
		appended(t, "one more", l, p)
		if d.Ops() != ops+2 {
			t.Fatalf("Append does %d operations", d.Ops()-ops)
		}
		answers(t, "Arm", d.Arm(1), api.OK)
		answers(t, "Append of another file", d.Append("other", nil), api.ErrDown)
		answers(t, "Restart", d.Restart(disk.Fate{}), api.OK)
		looksLike(t, "behind the power's going", d, fresh(2, all[:i+1]).with("other", ""))
	}
	// The power went and came again with the log looking elsewhere: it goes on.
	numbers(t, "behind it all", l, 1, 6)
}

func TestAppendErrors(t *testing.T) { // P10.2
	d := diskOf(t, nil)
	l := opened(t, "a new disk", d, 2, nil)
	check := func(what string) {
		t.Helper()
		ops := d.Ops()
		before := imageOf(t, d)
		first, next := l.First(), l.Next()
		for _, c := range []struct {
			size int
			want api.Errno
		}{{0, api.ErrForm}, {api.MaxBytes + 1, api.ErrLong}, {api.MaxBytes + 2, api.ErrLong}, {100000, api.ErrLong}} {
			if n, e := l.Append(make([]byte, c.size)); n != 0 || e != c.want {
				t.Fatalf("%s: Append of %d bytes answers %d, error %d, want %d", what, c.size, n, e, c.want)
			}
		}
		if n, e := l.Append(nil); n != 0 || e != api.ErrForm {
			t.Fatalf("%s: Append(nil) answers %d, error %d", what, n, e)
		}
		numbers(t, what, l, first, next)
		looksLike(t, what, d, before)
		if d.Ops() != ops {
			t.Fatalf("%s: what is refused did %d operations", what, d.Ops()-ops)
		}
	}
	check("empty")
	appended(t, "some", l, "a", strings.Repeat("b", api.MaxBytes), "c")
	check("not empty")
	appended(t, "more", l, "d")
	looksLike(t, "more", d, fresh(2, []string{"a", strings.Repeat("b", api.MaxBytes), "c", "d"}))
}

func TestNoMoreRoom(t *testing.T) { // P10.2
	for room := 1; room <= 20; room++ {
		d, _ := disk.New(room)
		l := opened(t, "a new disk", d, 2, nil)
		var all []string
		for l.Next() < 10 {
			p := strings.Repeat("x", 1+int(l.Next())*20)
			before, ops := imageOf(t, d), d.Ops()
			n, e := l.Append([]byte(p))
			if e == api.OK {
				all = append(all, p)
				continue
			}
			if n != 0 || e != api.ErrFull {
				t.Fatalf("room %d: Append answers %d, error %d", room, n, e)
			}
			looksLike(t, "no more room", d, before)
			numbers(t, "no more room", l, 1, int64(len(all)+1))
			if d.Ops() != ops {
				t.Fatalf("room %d: what is refused did %d operations", room, d.Ops()-ops)
			}
			break
		}
		// A shorter one may have room: the log has not come to its end.
		for {
			if _, e := l.Append([]byte{'y'}); e != api.OK {
				answers(t, "Append of a short one", e, api.ErrFull)
				break
			}
			all = append(all, "y")
		}
		looksLike(t, "full", d, fresh(2, all))
		l = opened(t, "full", d, 2, all)
		answers(t, "Prune of all", l.Prune(1000), api.OK)
		if len(all) > 2 {
			appended(t, "behind Prune", l, "z")
		}
	}
}

func TestNoMoreFiles(t *testing.T) { // P10.2
	d := diskOf(t, nil)
	l := opened(t, "a new disk", d, 1, nil)
	all := some(api.MaxFiles)
	appended(t, "all files", l, all...)
	for range 2 {
		if n, e := l.Append([]byte{'x'}); n != 0 || e != api.ErrFull {
			t.Fatalf("Append of one file more answers %d, error %d", n, e)
		}
		numbers(t, "all files", l, 1, api.MaxFiles+1)
		looksLike(t, "all files", d, fresh(1, all))
	}
	answers(t, "Prune", l.Prune(2), api.OK)
	appended(t, "behind Prune", l, "x")
	l = opened(t, "behind Prune", d, 1, append(all[1:], "x"))
	numbers(t, "behind Prune", l, 2, api.MaxFiles+2)
	looksLike(t, "behind Prune", d, fresh(1, append(all, "x")).without(segment(0)))
}

// TestLastSegment: a segment beyond the last one that has a name has no room.
func TestLastSegment(t *testing.T) { // P10.2, P10.4
	for _, per := range []int{1, 3, 1000} {
		all := some(per)
		first := int64(99999999)*int64(per) + 1
		d := diskOf(t, image{"l99999999": ""})
		l := opened(t, "the last file", d, per, nil)
		numbers(t, "the last file", l, first, first)
		appended(t, "the last file", l, all...)
		for range 2 {
			if n, e := l.Append([]byte{'x'}); n != 0 || e != api.ErrFull {
				t.Fatalf("per %d: Append beyond the last file answers %d, error %d", per, n, e)
			}
		}
		looksLike(t, "the last file", d, written(per, 99999999, [32]byte{}, all))
		l = opened(t, "the last file, again", d, per, all)
		numbers(t, "the last file, again", l, first, first+int64(per))
		answers(t, "Prune", l.Prune(1<<62), api.OK)
		looksLike(t, "the last file, pruned", d, written(per, 99999999, [32]byte{}, all))
	}
}
