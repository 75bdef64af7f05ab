package prod_test

import (
	"reflect"
	"slices"
	"testing"

	"passbook/api"
	"passbook/prod"
)

// roomy: so many tiers of a longer list, with something in the spare room behind them.
func roomy(count, room int) []api.Tier { return slices.Clip(rising(count + room))[:count] }

// scribble: all over a list, the spare room behind it too.
func scribble(l []api.Tier) {
	l = l[:cap(l)]
	for i := range l {
		l[i] = api.Tier{From: -77, Rate: -77}
	}
}

// scribbled: has somebody been here, or in the spare room?
func scribbled(l []api.Tier) bool {
	return slices.Contains(l[:cap(l)], api.Tier{From: -77, Rate: -77})
}

func TestWhatIsHandedInIsLeftAndNotKept(t *testing.T) { // P12.1, P12.2, and the rules of memory
	for count := range 11 {
		for _, room := range []int{0, 1, 4} {
			p := version(7, 10)
			p.Tiers = roomy(count, room)
			kept := with(p, func(p *prod.Product) {})
			c := prod.New()
			want := prod.Check(p)
			answers(t, "Tiers", prod.Tiers(p.Tiers), want)
			answers(t, "Add", c.Add(p), want)
			list := c.List()
			if !slices.Equal(p.Tiers[:count+room], rising(count+room)) {
				t.Fatalf("%d tiers, or the room behind them, were changed", count)
			}
			scribble(p.Tiers)
			if want != api.OK {
				lists(t, c)
				continue
			}
			lists(t, c, kept)
			holds(t, c, 7, 10, kept)
			if scribbled(list[0].Tiers) {
				t.Fatal("an answer shares memory with what was handed in")
			}
			scribble(list[0].Tiers)
			got, _ := c.At(7, 10)
			copy(p.Tiers, kept.Tiers)
			scribble(got.Tiers)
			if !slices.Equal(p.Tiers, kept.Tiers) {
				t.Fatal("an answer shares memory with what was handed in")
			}
		}
	}
}

// TestAnswersAreNewMemory: a caller may write over one of them, and over the room behind it, and harms nothing else.
func TestAnswersAreNewMemory(t *testing.T) { // P12.2, and the rules of memory
	var all []prod.Product
	for i := range 8 {
		all = append(all, with(version(int64(1+i%3), 10+i), func(p *prod.Product) { p.Tiers = rising(i + 1) }))
	}
	c := catalogue(t, all...)
	every := func() [][]api.Tier { // the tiers of every answer that can be had
		var out [][]api.Tier
		for range 2 {
			for _, p := range all {
				got, _ := c.At(p.ID, p.Day)
				out = append(out, got.Tiers)
			}
			for _, p := range c.List() {
				out = append(out, p.Tiers)
			}
		}
		return out
	}
	for i := range every() {
		answered := every()
		scribble(answered[i])
		for j, other := range answered {
			if j != i && scribbled(other) {
				t.Fatalf("the answers %d and %d share memory", i, j)
			}
		}
		lists(t, c, all...)
		for _, p := range all {
			holds(t, c, p.ID, p.Day, p)
		}
	}
}

func TestListsAreNewMemory(t *testing.T) { // P12.2, and the rules of memory
	all := full()
	c := prod.New()
	for i, p := range all {
		one, other := c.List(), c.List()
		one = one[:cap(one)]
		clear(one)
		lists(t, c, all[:i]...)
		answers(t, "Add", c.Add(p), api.OK)
		if !slices.EqualFunc(other, all[:i], alike) {
			t.Fatalf("a list of %d versions has changed: %v", i, other)
		}
	}
	lists(t, c, all...)
}

func alike(p, q prod.Product) bool { return reflect.DeepEqual(p, q) }

// TestARefusedVersionLeavesNothing: neither in what is told nor in what is refused later.
func TestARefusedVersionLeavesNothing(t *testing.T) { // P12.2, P7
	c := prod.New()
	refused := with(version(7, 50), func(p *prod.Product) { p.Tiers = nil })
	answers(t, "Add", c.Add(refused), api.ErrForm)
	holdsNone(t, c, 7, 60, api.ErrNone)
	answers(t, "Add of an earlier one", c.Add(version(7, 10)), api.OK)
	answers(t, "Add of another currency", c.Add(with(version(7, 60), func(p *prod.Product) { p.Cur = api.EUR })), api.ErrKind)
	answers(t, "Add behind it", c.Add(version(7, 50)), api.OK)
	answers(t, "Add once more", c.Add(version(7, 50)), api.ErrExists)
	lists(t, c, version(7, 10), version(7, 50))
}
