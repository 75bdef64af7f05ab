package prod_test

import (
	"math"
	"math/rand"
	"testing"

	"passbook/api"
	"passbook/prod"
)

func TestExample(t *testing.T) { // P12.2
	first, second := version(7, 10), version(7, 20)
	c := catalogue(t, first, second)
	holds(t, c, 7, 19, first)
	holds(t, c, 7, 20, second)
	holdsNone(t, c, 7, 9, api.ErrNone)
	answers(t, "Add(7 from 20)", c.Add(version(7, 20)), api.ErrExists)
	answers(t, "Add(7 from 15)", c.Add(version(7, 15)), api.ErrDate)
	answers(t, "Add(7 from 30, another currency)", c.Add(with(version(7, 30), func(p *prod.Product) { p.Cur = api.KWD })), api.ErrKind)
	lists(t, c, first, second)
}

func TestNewHasNoVersions(t *testing.T) { // P12.2
	c := prod.New()
	lists(t, c)
	for _, day := range []int{1, 10, api.MaxDay} {
		holdsNone(t, c, 7, day, api.ErrNone)
	}
	catalogue(t, version(7, 10))
	lists(t, c) // another catalogue is another one
}

func TestAtOnEveryDay(t *testing.T) { // P12.2
	first, middle, last := version(7, 10), version(7, 20), version(7, api.MaxDay)
	c := catalogue(t, first, middle, last)
	for day := 1; day <= 40; day++ {
		switch {
		case day < 10:
			holdsNone(t, c, 7, day, api.ErrNone)
		case day < 20:
			holds(t, c, 7, day, first)
		default:
			holds(t, c, 7, day, middle)
		}
	}
	holds(t, c, 7, api.MaxDay-1, middle)
	holds(t, c, 7, api.MaxDay, last)
	early := version(8, 1)
	holds(t, catalogue(t, early), 8, 1, early)
	holds(t, catalogue(t, early), 8, api.MaxDay, early)
}

func TestAtRefuses(t *testing.T) { // P12.2
	c := catalogue(t, version(7, 1), version(1000000000, 1))
	for _, id := range []int64{7, 8, 0} {
		for _, day := range []int{0, -1, api.MaxDay + 1, 1 << 32, math.MaxInt, math.MinInt} {
			holdsNone(t, c, id, day, api.ErrArg)
		}
	}
	for _, id := range []int64{1, 6, 8, 0, -7, 999999999, 1000000001, 7 + 1<<32, math.MaxInt64, math.MinInt64} {
		holdsNone(t, c, id, 1, api.ErrNone)
		holdsNone(t, c, id, api.MaxDay, api.ErrNone)
	}
}

// TestAddTellsTheLeastError: the errors of one more version, alone and several at once.
func TestAddTellsTheLeastError(t *testing.T) { // P12.2
	kind := func(p *prod.Product) { p.Kind = api.KindLoan }
	cur := func(p *prod.Product) { p.Cur = api.EUR }
	both := func(p *prod.Product) { kind(p); cur(p) }
	same := func(p *prod.Product) {}
	first, second := version(7, 10), version(7, 20)
	c := catalogue(t, first, second)
	for _, x := range []struct {
		name   string
		day    int
		change func(p *prod.Product)
		want   api.Errno
	}{
		{"the last one's day", 20, same, api.ErrExists},
		{"an elder one's day", 10, same, api.ErrExists}, // and there is one with a later day
		{"the last one's day, another kind", 20, kind, api.ErrExists},
		{"an elder one's day, another currency", 10, cur, api.ErrExists},
		{"between two", 15, same, api.ErrDate},
		{"ahead of all", 9, same, api.ErrDate},
		{"the first day", 1, same, api.ErrDate},
		{"a day ahead of the last one", 19, same, api.ErrDate},
		{"between two, another kind", 15, kind, api.ErrDate},
		{"ahead of all, another currency", 1, cur, api.ErrDate},
		{"another kind", 21, kind, api.ErrKind},
		{"another currency", 21, cur, api.ErrKind},
		{"another kind and currency", api.MaxDay, both, api.ErrKind},
	} {
		answers(t, x.name, c.Add(with(version(7, x.day), x.change)), x.want)
		broken := with(version(7, x.day), x.change)
		broken.Tiers = nil
		answers(t, x.name+", without tiers", c.Add(broken), api.ErrForm)
		broken.Tiers = rising(9)
		answers(t, x.name+", too many tiers", c.Add(broken), api.ErrLong)
		broken.Mode = 7
		answers(t, x.name+", a wrong mode", c.Add(broken), api.ErrArg)
		lists(t, c, first, second)
	}
	third := with(version(7, 21), func(p *prod.Product) { p.Basis, p.Mode, p.Fee, p.Limit, p.Tiers = api.Thirty, api.Up, 0, 0, rising(8) })
	answers(t, "all else may change", c.Add(third), api.OK)
	lists(t, c, first, second, third)
	for _, day := range []int{1, 20, 21, 22} {
		p := with(version(8, day), both)
		answers(t, "another product", catalogue(t, first, second, third).Add(p), api.OK)
	}
}

func TestOtherProductsAreLeft(t *testing.T) { // P12.2
	a, b := version(7, 50), with(version(8, 40), func(p *prod.Product) { p.Kind, p.Cur = api.KindLoan, api.JPY })
	c := catalogue(t, a, b)
	for _, day := range []int{39, 40, 49, 50, 60} {
		if day < 50 {
			holdsNone(t, c, 7, day, api.ErrNone)
		} else {
			holds(t, c, 7, day, a)
		}
		if day < 40 {
			holdsNone(t, c, 8, day, api.ErrNone)
		} else {
			holds(t, c, 8, day, b)
		}
	}
	// The days of another product neither exist nor lie later for this one.
	later := with(version(8, 50), func(p *prod.Product) { p.Kind, p.Cur = api.KindLoan, api.JPY })
	answers(t, "Add(8 from 50)", c.Add(later), api.OK)
	answers(t, "Add(9 from 1)", c.Add(version(9, 1)), api.OK)
	lists(t, c, a, b, later, version(9, 1))
	holds(t, c, 7, 60, a)
	holds(t, c, 8, 60, later)
	holds(t, c, 9, 60, version(9, 1))
}

// full: as many versions as there may be: half of them of one product.
func full() []prod.Product {
	var all []prod.Product
	for i := range 32 {
		all = append(all, version(int64(100-i), 1+i), version(7, 10*(i+1)))
	}
	return all
}

func TestFull(t *testing.T) { // P12.2
	all := full()
	for _, p := range []prod.Product{version(7, 1000), version(500, 1), version(100, 2)} {
		c := catalogue(t, all[:63]...)
		if p.ID == 7 {
			c = catalogue(t, all[1:]...)
		}
		answers(t, "the 64th version", c.Add(p), api.OK)
	}
	c := catalogue(t, all...)
	for _, x := range []struct {
		name string
		p    prod.Product
		want api.Errno
	}{
		{"of a product that there is", version(7, 321), api.ErrFull},
		{"of a new product", version(8, 1), api.ErrFull},
		{"that exists", version(7, 320), api.ErrExists},
		{"an earlier one", version(7, 319), api.ErrDate},
		{"of another kind", with(version(7, 321), func(p *prod.Product) { p.Kind = api.KindLoan }), api.ErrKind},
		{"of another currency", with(version(100, 2), func(p *prod.Product) { p.Cur = api.EUR }), api.ErrKind},
		{"without tiers", with(version(8, 1), func(p *prod.Product) { p.Tiers = nil }), api.ErrForm},
		{"with too many tiers", with(version(8, 1), func(p *prod.Product) { p.Tiers = rising(9) }), api.ErrLong},
		{"with a wrong number", version(0, 1), api.ErrArg},
	} {
		answers(t, "Add to a full one "+x.name, c.Add(x.p), x.want)
		lists(t, c, all...)
	}
	for _, p := range all {
		holds(t, c, p.ID, p.Day, p)
	}
}

func TestNilCatalogue(t *testing.T) { // P12.2
	var c *prod.Catalogue
	answers(t, "Add", c.Add(version(7, 10)), api.ErrNone)
	answers(t, "Add(no tiers)", c.Add(with(version(7, 10), func(p *prod.Product) { p.Tiers = nil })), api.ErrForm)
	answers(t, "Add(too many tiers)", c.Add(with(version(7, 10), func(p *prod.Product) { p.Tiers = rising(9) })), api.ErrLong)
	answers(t, "Add(no ID)", c.Add(version(0, 10)), api.ErrArg)
	holdsNone(t, c, 7, 10, api.ErrNone)
	holdsNone(t, c, 7, 0, api.ErrArg)
	holdsNone(t, c, 7, api.MaxDay+1, api.ErrArg)
	if list := c.List(); len(list) != 0 {
		t.Errorf("List = %v", list)
	}
}

// plainAdd: the chapter's words, asked of all versions there are.
func plainAdd(all []prod.Product, p prod.Product) api.Errno {
	errors := map[api.Errno]bool{}
	for _, q := range all {
		if q.ID == p.ID {
			errors[api.ErrExists] = errors[api.ErrExists] || q.Day == p.Day
			errors[api.ErrDate] = errors[api.ErrDate] || q.Day > p.Day
			errors[api.ErrKind] = errors[api.ErrKind] || q.Kind != p.Kind || q.Cur != p.Cur
		}
	}
	errors[api.ErrFull] = len(all) >= 64
	for _, e := range []api.Errno{api.ErrExists, api.ErrDate, api.ErrKind, api.ErrFull} {
		if errors[e] {
			return e
		}
	}
	return api.OK
}

// plainAt: the version with the greatest day among those that have begun.
func plainAt(all []prod.Product, id int64, day int) (prod.Product, bool) {
	var best prod.Product
	for _, q := range all {
		if q.ID == id && q.Day <= day && q.Day > best.Day {
			best = q
		}
	}
	return best, best.Day > 0
}

func TestAgainstAPlainList(t *testing.T) { // P12.2
	source := rand.New(rand.NewSource(1))
	for range 300 {
		c := prod.New()
		var all []prod.Product
		days := 5 + source.Intn(60)
		for range 200 {
			p := version(1+source.Int63n(8), 1+source.Intn(days))
			p.Limit = source.Int63n(1000)
			if source.Intn(20) == 0 {
				p.Kind = api.KindLoan
			}
			if source.Intn(20) == 0 {
				p.Cur = source.Intn(4)
			}
			want := plainAdd(all, p)
			answers(t, "Add", c.Add(p), want)
			if want == api.OK {
				all = append(all, p)
			}
			id, day := source.Int63n(10), 1+source.Intn(days+2)
			if q, there := plainAt(all, id, day); there {
				holds(t, c, id, day, q)
			} else {
				holdsNone(t, c, id, day, api.ErrNone)
			}
		}
		lists(t, c, all...)
		if t.Failed() {
			t.FailNow()
		}
	}
}
