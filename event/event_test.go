package event_test

import (
	"math"
	"slices"
	"testing"

	"passbook/api"
	"passbook/event"
)

// used: how many numbers each Op uses, as the document's table has them.
var used = map[byte]int{1: 8, 2: 2, 3: 1, 4: 2, 5: 2, 6: 3, 7: 3, 8: 2, 9: 4, 10: 3, 11: 3, 12: 4, 13: 1, 14: 3, 15: 1}

const lastOp = 15

func tiers(count int) []api.Tier {
	out := make([]api.Tier, count)
	for i := range out {
		out[i] = api.Tier{From: int64(i) * 1000, Rate: int64(i)*7 - 20}
	}
	return out
}

// keys and numbers: of one to ten bytes.
func keys() []uint64 {
	return []uint64{0, 1, 127, 128, 300, 16383, 16384, math.MaxUint32, math.MaxInt64, 1 << 63, math.MaxUint64}
}

func numbers() []int64 {
	return []int64{0, 1, -1, 63, 64, -64, -65, 8191, 8192, api.MaxMinor, -api.MaxMinor, math.MaxInt64, math.MinInt64}
}

// inForm: of each Op, with each key and number, and for products each count of Tiers.
func inForm() []api.Event {
	var out []api.Event
	for op := byte(1); op <= lastOp; op++ {
		for _, key := range keys() {
			e := api.Event{Op: op, Key: key}
			out = append(out, e)
			for i := range used[op] {
				e.N[i] = int64(10*i + 1)
			}
			out = append(out, e)
		}
		for _, n := range numbers() {
			full := api.Event{Op: op, Key: 5}
			for i := range used[op] {
				one := api.Event{Op: op, Key: 5}
				one.N[i], full.N[i] = n, n
				out = append(out, one)
			}
			out = append(out, full)
		}
	}
	for count := range api.MaxTiers + 1 {
		out = append(out, api.Event{Op: api.OpProduct, Key: 2, N: [8]int64{1, 1, 0, 1, 0, 0, 0, 500}, Tiers: tiers(count)})
	}
	for _, n := range numbers() {
		out = append(out, api.Event{Op: api.OpProduct, Tiers: []api.Tier{{From: n}, {Rate: n}, {From: n, Rate: n}}})
	}
	extreme := api.Tier{From: math.MinInt64, Rate: math.MaxInt64}
	longest := api.Event{Op: api.OpProduct, Key: math.MaxUint64, Tiers: slices.Repeat([]api.Tier{extreme}, api.MaxTiers)}
	for i := range longest.N {
		longest.N[i] = math.MinInt64
	}
	return append(out, longest)
}

// outOfForm: no Op, a number that the Op doesn't use, Tiers where there may be none or too many.
func outOfForm() []api.Event {
	var out []api.Event
	for op := range 256 {
		if _, ok := used[byte(op)]; !ok {
			out = append(out, api.Event{Op: byte(op)}, api.Event{Op: byte(op), Key: 9, N: [8]int64{1, 2}}, api.Event{Op: byte(op), Tiers: tiers(1)})
		}
	}
	for op := byte(1); op <= lastOp; op++ {
		for i := used[op]; i < 8; i++ {
			for _, n := range []int64{1, -1, math.MaxInt64, math.MinInt64, 1 << 32} {
				e := api.Event{Op: op, Key: 3}
				e.N[i] = n
				out = append(out, e)
			}
		}
		if op != api.OpProduct {
			out = append(out, api.Event{Op: op, Tiers: tiers(1)}, api.Event{Op: op, Tiers: make([]api.Tier, 1)}, api.Event{Op: op, Tiers: tiers(api.MaxTiers)})
		}
	}
	for _, count := range []int{api.MaxTiers + 1, api.MaxTiers + 2, 256, 257, 5000} {
		out = append(out, api.Event{Op: api.OpProduct, Tiers: tiers(count)}, api.Event{Op: api.OpProduct, Tiers: make([]api.Tier, count)})
	}
	return out
}

func TestCount(t *testing.T) { // P8.1
	if n, e := event.Count(api.OpHold); n != 3 || e != api.OK {
		t.Errorf("Count(OpHold) = %d, error %d", n, e)
	}
	for op := range 256 {
		want, ok := used[byte(op)]
		n, e := event.Count(byte(op))
		if ok && (n != want || e != api.OK) {
			t.Errorf("Count(%d) = %d, error %d; want %d", op, n, e, want)
		}
		if !ok && (n != 0 || e != api.ErrArg) {
			t.Errorf("Count(%d) = %d, error %d; want ErrArg", op, n, e)
		}
	}
}

func TestCheck(t *testing.T) { // P8.1
	for _, x := range inForm() {
		if e := event.Check(x); e != api.OK {
			t.Fatalf("Check(%v) = %d, want OK", x, e)
		}
		x.Tiers = append([]api.Tier{}, x.Tiers...)
		if e := event.Check(x); e != api.OK {
			t.Fatalf("Check(%v) with a list that isn't nil = %d, want OK", x, e)
		}
	}
	for _, x := range outOfForm() {
		if e := event.Check(x); e != api.ErrForm {
			t.Fatalf("Check(%v) = %d, want ErrForm", x, e)
		}
	}
}

func checkSame(t *testing.T, a, b api.Event, want bool) {
	t.Helper()
	if event.Same(a, b) != want || event.Same(b, a) != want {
		t.Fatalf("Same(%v, %v) is not %t", a, b, want)
	}
}

func copyOf(e api.Event) api.Event {
	e.Tiers = slices.Clone(e.Tiers)
	return e
}

func TestSame(t *testing.T) { // P8.1
	for _, a := range append(inForm(), outOfForm()...) {
		checkSame(t, a, copyOf(a), true)
		b := copyOf(a)
		b.Op++
		checkSame(t, a, b, false)
		for shift := range 64 {
			b = copyOf(a)
			b.Key ^= 1 << shift
			checkSame(t, a, b, false)
		}
		for i := range a.N {
			b = copyOf(a)
			b.N[i] ^= 1 << (i * 9)
			checkSame(t, a, b, false)
		}
		for i := range a.Tiers {
			b = copyOf(a)
			b.Tiers[i].From++
			checkSame(t, a, b, false)
			b = copyOf(a)
			b.Tiers[i].Rate ^= math.MinInt64
			checkSame(t, a, b, false)
		}
		b = copyOf(a)
		b.Tiers = append(b.Tiers, api.Tier{})
		checkSame(t, a, b, false)
	}
}

func TestSameOfTiers(t *testing.T) { // P8.1
	none, empty := api.Event{Op: api.OpProduct}, api.Event{Op: api.OpProduct, Tiers: []api.Tier{}}
	checkSame(t, none, empty, true)
	checkSame(t, api.Event{}, api.Event{Tiers: []api.Tier{}}, true)
	roomy := api.Event{Op: api.OpProduct, Tiers: tiers(8)[:3]}
	checkSame(t, roomy, api.Event{Op: api.OpProduct, Tiers: tiers(3)}, true)
	turned := api.Event{Op: api.OpProduct, Tiers: []api.Tier{{From: 1, Rate: 2}, {From: 3, Rate: 4}}}
	other := api.Event{Op: api.OpProduct, Tiers: []api.Tier{{From: 3, Rate: 4}, {From: 1, Rate: 2}}}
	checkSame(t, turned, other, false)
	swapped := api.Event{Op: api.OpProduct, Tiers: []api.Tier{{From: 2, Rate: 1}, {From: 3, Rate: 4}}}
	checkSame(t, turned, swapped, false)
}

// TestAskingKeepsWhatIsHandedIn: and the spare room of the Tiers.
func TestAskingKeepsWhatIsHandedIn(t *testing.T) { // P8.1, P8.2
	room := tiers(api.MaxTiers + 3)
	for count := range len(room) {
		e := api.Event{Op: api.OpProduct, Key: 1, Tiers: room[:count]}
		event.Check(e)
		event.Same(e, e)
		event.Write(e)
		if !slices.Equal(room, tiers(len(room))) {
			t.Fatalf("behind asking for %d Tiers they are %v", count, room)
		}
	}
}
