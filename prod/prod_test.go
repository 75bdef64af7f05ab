package prod_test

import (
	"math"
	"testing"

	"passbook/api"
	"passbook/prod"
)

// number: one of a version's numbers, those that it may be and those that it may not.
type number struct {
	name  string
	set   func(p *prod.Product, n int64)
	right []int64
	wrong []int64
}

func numbers() []number {
	far := []int64{math.MinInt64, -1 << 40, 1 << 50, 1<<50 + 1, 1<<50 + 2, math.MaxInt64}
	return []number{
		{"ID", func(p *prod.Product, n int64) { p.ID = n }, []int64{1, 2, 999999999, 1000000000}, append(far, -1, 0, 1000000001)},
		{"Kind", func(p *prod.Product, n int64) { p.Kind = int(n) }, []int64{1, 2}, append(far, -1, 0, 3)},
		{"Cur", func(p *prod.Product, n int64) { p.Cur = int(n) }, []int64{0, 1, 2, 3}, append(far, -1, 4)},
		{"Day", func(p *prod.Product, n int64) { p.Day = int(n) }, []int64{1, 2, 738000, 3652058, 3652059}, append(far, -1, 0, 3652060)},
		{"Basis", func(p *prod.Product, n int64) { p.Basis = int(n) }, []int64{0, 1, 2, 3}, append(far, -1, 4)},
		{"Mode", func(p *prod.Product, n int64) { p.Mode = int(n) }, []int64{0, 1, 2, 3, 4, 5, 6}, append(far, -1, 7)},
		{"Fee", func(p *prod.Product, n int64) { p.Fee = n }, []int64{0, 1, 9999999999999, 10000000000000}, append(far, -1, 10000000000001)},
		{"Limit", func(p *prod.Product, n int64) { p.Limit = n }, []int64{0, 1, 9999999999999, 10000000000000}, append(far, -1, 10000000000001)},
	}
}

func checks(t *testing.T, what string, p prod.Product, want api.Errno) {
	t.Helper()
	if e := prod.Check(p); e != want {
		t.Errorf("%s: Check(%v) = %d; want %d", what, p, e, want)
	}
	if want != api.OK {
		c := prod.New()
		answers(t, what+": Add", c.Add(p), want)
		lists(t, c)
		return
	}
	lists(t, catalogue(t, p), p)
}

func TestCheckOfEachNumber(t *testing.T) { // P12.1
	for _, x := range numbers() {
		for _, n := range x.right {
			checks(t, x.name, with(version(7, 10), func(p *prod.Product) { x.set(p, n) }), api.OK)
		}
		for _, n := range x.wrong {
			checks(t, x.name, with(version(7, 10), func(p *prod.Product) { x.set(p, n) }), api.ErrArg)
		}
	}
	for _, kind := range []int{api.KindDeposit, api.KindLoan} {
		for cur := range 4 {
			for basis := range 4 {
				for mode := range 7 {
					p := version(7, 10)
					p.Kind, p.Cur, p.Basis, p.Mode = kind, cur, basis, mode
					checks(t, "all of them", p, api.OK)
				}
			}
		}
	}
}

func TestCheckOfTiers(t *testing.T) { // P12.1
	for count := range 12 {
		want := api.OK
		switch {
		case count == 0:
			want = api.ErrForm
		case count > api.MaxTiers:
			want = api.ErrLong
		}
		answers(t, "Tiers", prod.Tiers(rising(count)), want)
		checks(t, "so many tiers", with(version(7, 10), func(p *prod.Product) { p.Tiers = rising(count) }), want)
	}
	answers(t, "Tiers(empty)", prod.Tiers([]api.Tier{}), api.ErrForm)
}

// TestTheLeastError: wrong numbers go ahead of too many tiers, and these ahead of wrong ones.
func TestTheLeastError(t *testing.T) { // P12.1
	malformed := rising(9)
	malformed[0].From = 1
	for _, x := range numbers() {
		for _, tiers := range [][]api.Tier{nil, rising(9), malformed, malformed[:3]} {
			checks(t, x.name, with(version(7, 10), func(p *prod.Product) { x.set(p, x.wrong[0]); p.Tiers = tiers }), api.ErrArg)
		}
	}
	checks(t, "too many wrong ones", with(version(7, 10), func(p *prod.Product) { p.Tiers = malformed }), api.ErrLong)
	answers(t, "Tiers(too many wrong ones)", prod.Tiers(malformed), api.ErrLong)
	answers(t, "Tiers(nine noughts)", prod.Tiers(make([]api.Tier, 9)), api.ErrLong)
	checks(t, "none of it", prod.Product{}, api.ErrArg)
}

func TestTiersExamples(t *testing.T) { // P12.1
	for _, x := range []struct {
		tiers []api.Tier
		want  api.Errno
	}{
		{nil, api.ErrForm},
		{tiers(0, 5, 0, 6), api.ErrForm},
		{tiers(1, 5), api.ErrForm},
		{tiers(-1, 5), api.ErrForm},
		{tiers(-1, 5, 0, 5), api.ErrForm},
		{tiers(0, 0), api.OK},
		{tiers(0, 1000000000), api.OK},
		{tiers(0, 1000000001), api.ErrForm},
		{tiers(0, -1), api.ErrForm},
		{tiers(0, math.MinInt64), api.ErrForm},
		{tiers(0, math.MaxInt64), api.ErrForm},
		{tiers(0, 5, 1, 5), api.OK}, // the rates need not rise
		{tiers(0, 6, 1, 5), api.OK},
		{tiers(0, 5, 10000000000000, 6), api.OK},
		{tiers(0, 5, 10000000000001, 6), api.ErrForm},
		{tiers(0, 5, math.MaxInt64, 6), api.ErrForm},
		{tiers(0, 5, 9999999999999, 6, 10000000000000, 7), api.OK},
		{tiers(0, 5, 10000000000000, 6, 10000000000000, 7), api.ErrForm},
		{tiers(0, 5, 1000, 6, 999, 7), api.ErrForm},
		{tiers(0, 5, 1000, 6, 1000, 7), api.ErrForm},
		{tiers(0, 5, 1000, 6, 0, 7), api.ErrForm},
		{tiers(0, 5, 1000, 6, -1, 7), api.ErrForm},
		{tiers(0, 5, 1000, 6, math.MinInt64, 7), api.ErrForm},
		{tiers(0, 5, 10000000000001, 6, 5, 7), api.ErrForm},
	} {
		if e := prod.Tiers(x.tiers); e != x.want {
			t.Errorf("Tiers(%v) = %d; want %d", x.tiers, e, x.want)
		}
		checks(t, "an example", with(version(7, 10), func(p *prod.Product) { p.Tiers = x.tiers }), x.want)
	}
}

// plainTiers: the chapter's words, one behind the other.
func plainTiers(l []api.Tier) api.Errno {
	if len(l) > 8 {
		return api.ErrLong
	}
	fault := len(l) == 0
	for i := range l {
		fault = fault || i == 0 && l[i].From != 0
		fault = fault || i > 0 && !(l[i].From > l[i-1].From)
		fault = fault || l[i].From > 10000000000000
		fault = fault || l[i].Rate < 0 || l[i].Rate > 1000000000
	}
	if fault {
		return api.ErrForm
	}
	return api.OK
}

// TestTiersAtEachPlace: full lists with each tier changed, and all short lists of numbers about the borders.
func TestTiersAtEachPlace(t *testing.T) { // P12.1
	froms := []int64{-1, 0, 1, 2, 3500, 10000000000000, 10000000000001}
	rates := []int64{-1, 0, 5, 1000000000, 1000000001}
	for count := 1; count <= api.MaxTiers; count++ {
		for place := range count {
			for _, from := range froms {
				for _, rate := range rates {
					l := rising(count)
					l[place] = api.Tier{From: from, Rate: rate}
					answers(t, "Tiers", prod.Tiers(l), plainTiers(l))
				}
			}
		}
	}
	for _, a := range froms {
		for _, b := range froms {
			for _, c := range froms {
				l := tiers(a, 5, b, 5, c, 5)
				answers(t, "Tiers", prod.Tiers(l), plainTiers(l))
				answers(t, "Tiers", prod.Tiers(l[:2]), plainTiers(l[:2]))
				answers(t, "Tiers", prod.Tiers(l[:1]), plainTiers(l[:1]))
			}
		}
	}
}
