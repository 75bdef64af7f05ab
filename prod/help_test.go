package prod_test

import (
	"reflect"
	"slices"
	"testing"

	"passbook/api"
	"passbook/prod"
)

// version: an ordinary one; its fee tells it from others of the same product.
func version(id int64, day int) prod.Product {
	return prod.Product{
		ID: id, Kind: api.KindDeposit, Cur: api.USD, Day: day, Basis: api.Act365, Mode: api.HalfEven,
		Fee: 1000 + int64(day), Limit: 500, Tiers: []api.Tier{{From: 0, Rate: 10000000}, {From: 100000, Rate: 20000000}},
	}
}

// with: a version with something else about it.
func with(p prod.Product, change func(p *prod.Product)) prod.Product {
	p.Tiers = slices.Clone(p.Tiers)
	change(&p)
	return p
}

// rising: so many tiers that are in form.
func rising(count int) []api.Tier {
	var out []api.Tier
	for i := range int64(count) {
		out = append(out, api.Tier{From: i * 1000, Rate: 7 * i})
	}
	return out
}

// tiers: told as a From, a Rate, and so on.
func tiers(numbers ...int64) []api.Tier {
	var out []api.Tier
	for pair := range slices.Chunk(numbers, 2) {
		out = append(out, api.Tier{From: pair[0], Rate: pair[1]})
	}
	return out
}

func answers(t *testing.T, what string, got, want api.Errno) {
	t.Helper()
	if got != want {
		t.Errorf("%s answers %d; want %d", what, got, want)
	}
}

// catalogue: one that took all these versions.
func catalogue(t *testing.T, versions ...prod.Product) *prod.Catalogue {
	t.Helper()
	c := prod.New()
	for _, p := range versions {
		if e := c.Add(p); e != api.OK {
			t.Fatalf("Add(%v) answers %d", p, e)
		}
	}
	return c
}

func holds(t *testing.T, c *prod.Catalogue, id int64, day int, want prod.Product) {
	t.Helper()
	if got, e := c.At(id, day); e != api.OK || !reflect.DeepEqual(got, want) {
		t.Errorf("At(%d, %d) = %v, error %d; want %v", id, day, got, e, want)
	}
}

func holdsNone(t *testing.T, c *prod.Catalogue, id int64, day int, want api.Errno) {
	t.Helper()
	if got, e := c.At(id, day); e != want || !reflect.DeepEqual(got, prod.Product{}) {
		t.Errorf("At(%d, %d) = %v, error %d; want error %d", id, day, got, e, want)
	}
}

func lists(t *testing.T, c *prod.Catalogue, want ...prod.Product) {
	t.Helper()
	got := c.List()
	if len(got) == 0 && len(want) == 0 {
		return
	}
	if !reflect.DeepEqual(got, want) {
		t.Errorf("List = %v; want %v", got, want)
	}
}
