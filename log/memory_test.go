package log_test

import (
	"bytes"
	"strings"
	"testing"

	"passbook/api"
	"passbook/disk"
	"passbook/log"
)

func TestWhatIsHandedInIsLeftAndNotKept(t *testing.T) { // P10.2, and the rules of memory
	for _, size := range []int{1, 12, 13, 24, 25, 100, api.MaxBytes} {
		for _, room := range []int{0, 1, 4, 36, 200} {
			whole := bytes.Repeat([]byte{'x'}, size+room)
			d := diskOf(t, nil)
			l := opened(t, "a new disk", d, 2, nil)
			for range 2 {
				if _, e := l.Append(whole[:size]); e != api.OK {
					t.Fatalf("Append answers %d", e)
				}
			}
			answers(t, "Arm", d.Arm(2), api.OK)
			if _, e := l.Append(whole[:size]); e != api.ErrDown {
				t.Fatalf("Append answers %d", e)
			}
			if !bytes.Equal(whole, bytes.Repeat([]byte{'x'}, size+room)) {
				t.Fatalf("Append of %d bytes has changed them, or the room behind them", size)
			}
			clear(whole)
			answers(t, "Restart", d.Restart(disk.Fate{Done: true}), api.OK)
			p := strings.Repeat("x", size)
			looksLike(t, "written over", d, fresh(2, []string{p, p, p}))
			opened(t, "written over", d, 2, []string{p, p, p})
		}
	}
}

// TestAnswersAreNewMemory: a caller may write over all of them, and over the room behind them.
func TestAnswersAreNewMemory(t *testing.T) { // P10.1, and the rules of memory
	all := some(7)
	d := diskOf(t, fresh(3, all))
	for i := range all {
		l, payloads, e := log.Open(d, 3)
		answers(t, "Open", e, api.OK)
		p := payloads[i][:cap(payloads[i])]
		for j := range p {
			p[j] = '!'
		}
		for j, other := range payloads {
			if j != i && string(other) != all[j] {
				t.Fatalf("with the payload %d written over, the payload %d is %q", i, j, other)
			}
		}
		list := payloads[:cap(payloads)]
		clear(list)
		looksLike(t, "written over", d, fresh(3, all))
		opened(t, "written over", d, 3, all)
		numbers(t, "written over", l, 1, 8)
	}
	// What is appended and cut later changes no earlier answer, and the link that the log keeps is its own.
	l, payloads, _ := log.Open(d, 3)
	for _, p := range payloads {
		p = p[:cap(p)]
		clear(p)
	}
	appended(t, "written over", l, "x")
	looksLike(t, "written over", d, fresh(3, append(all, "x")))
}

func TestTwoLogsShareNothing(t *testing.T) { // P10.2
	one, two := diskOf(t, nil), diskOf(t, nil)
	a, b := opened(t, "one", one, 2, nil), opened(t, "two", two, 3, nil)
	appended(t, "one", a, "x", "y", "z")
	appended(t, "two", b, "u")
	answers(t, "Prune", a.Prune(3), api.OK)
	answers(t, "Arm", one.Arm(1), api.OK)
	if _, e := a.Append([]byte("v")); e != api.ErrDown {
		t.Fatalf("Append answers %d", e)
	}
	appended(t, "two", b, "v", "w", "x")
	numbers(t, "one", a, 3, 4)
	numbers(t, "two", b, 1, 5)
	looksLike(t, "two", two, fresh(3, []string{"u", "v", "w", "x"}))
}
