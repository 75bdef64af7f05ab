package model

import (
	"slices"

	"passbook/api"
	"passbook/event"
	"passbook/fx"
	"passbook/prod"
)

// gotPlace: which number of OpExchange is worked out.
const gotPlace = 3

// Plan: the event that a command brings, and how much moves.
func (m *Model) Plan(c api.Event) (api.Event, int64, api.Errno) {
	if e := m.refuses(c); e != api.OK {
		return api.Event{}, 0, e
	}
	c.Tiers = slices.Clone(c.Tiers)
	if c.Op == api.OpExchange {
		c.N[gotPlace], _, _ = m.convert(m.find(c.N[0]), m.find(c.N[1]), c.N[2])
	}
	return c, moves(c), api.OK
}

func (m *Model) refuses(c api.Event) api.Errno {
	switch {
	case event.Check(c) != api.OK || c.Op == api.OpExchange && c.N[gotPlace] != 0:
		return api.ErrForm
	case isOfDay(c.Op):
		return api.ErrArg
	case m == nil:
		return noneRefuses(c)
	case m.used(c.Key):
		return api.ErrSeen
	case m.run.underWay:
		return api.ErrState
	}
	r := refusal{m: m}
	r.ask(c)
	return r.least
}

// noneRefuses: without a model a command has the errors that it has with an empty one, and ErrNone.
func noneRefuses(c api.Event) api.Errno {
	empty, _ := New(1)
	if e := empty.refuses(c); e != api.OK && e < api.ErrNone {
		return e
	}
	return api.ErrNone
}

func (m *Model) used(key uint64) bool {
	_, used := m.keys[key] // never 0: an event without a key uses none
	return used
}

// convert: ErrNone, where there is no rate.
func (m *Model) convert(from, to *account, amount int64) (int64, api.Dec, api.Errno) {
	rate, e := m.Rate(from.Cur, to.Cur)
	if e != api.OK {
		return 0, api.Dec{}, e
	}
	return fx.Convert(from.Cur, to.Cur, rate, amount)
}

// adding: the error of a version that is to be added. It is added to a copy of the catalogue, since a plan changes nothing.
func (m *Model) adding(p prod.Product) api.Errno {
	copied := prod.New()
	for _, version := range m.products.List() {
		copied.Add(version)
	}
	return copied.Add(p)
}

// moves: how many minor units, of an exchange those that are got.
func moves(e api.Event) int64 {
	switch e.Op {
	case api.OpDeposit, api.OpWithdraw:
		return e.N[1]
	case api.OpTransfer, api.OpLend, api.OpRepay:
		return e.N[2]
	case api.OpExchange:
		return e.N[gotPlace]
	}
	return 0
}

func versionOf(e api.Event) prod.Product {
	return prod.Product{
		ID:    e.N[0],
		Kind:  int(e.N[1]),
		Cur:   int(e.N[2]),
		Day:   int(e.N[3]),
		Basis: int(e.N[4]),
		Mode:  int(e.N[5]),
		Fee:   e.N[6],
		Limit: e.N[7],
		Tiers: e.Tiers,
	}
}

// isOfDay: is it an event of the end of day, which no command brings?
func isOfDay(op byte) bool { return op == api.OpBegin || op == api.OpStep || op == api.OpRoll }
