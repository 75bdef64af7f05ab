package model

import (
	"math/bits"
	"slices"

	"passbook/api"
	"passbook/event"
)

// trillion: the parts of a minor unit, of which Residue and Position are told.
const (
	trillion   = 1000000000000
	partDigits = 12
)

// Apply: an event happens.
func (m *Model) Apply(e api.Event) api.Errno {
	if isOfDay(e.Op) {
		return m.goOn(e)
	}
	c := e
	if c.Op == api.OpExchange {
		c.N[gotPlace] = 0
	}
	planned, _, refused := m.Plan(c)
	if refused != api.OK {
		return refused
	}
	if !event.Same(planned, e) {
		return api.ErrForm
	}
	m.change(e)
	m.use(e.Key)
	m.seq++
	return api.OK
}

// change: of an event that Plan tells, so that nothing of it can fail.
func (m *Model) change(e api.Event) {
	n := e.N
	switch e.Op {
	case api.OpProduct:
		m.products.Add(versionOf(e))
	case api.OpOpen:
		m.open(n[0], n[1])
	case api.OpClose:
		a := m.find(n[0])
		a.Open, a.Accrued = false, 0
	case api.OpDeposit:
		m.cash(m.find(n[0]), n[1])
	case api.OpWithdraw:
		m.cash(m.find(n[0]), -n[1])
	case api.OpTransfer:
		m.transfer(m.find(n[0]), m.find(n[1]), n[2])
	case api.OpHold:
		m.find(n[0]).hold(n[1], n[2])
	case api.OpFree:
		m.find(n[0]).free(n[1])
	case api.OpLend:
		m.lend(m.find(n[0]), m.find(n[1]), n[2])
	case api.OpRepay:
		m.lend(m.find(n[0]), m.find(n[1]), -n[2])
	case api.OpRate:
		m.rates[[2]int{int(n[0]), int(n[1])}] = n[2]
	case api.OpExchange:
		m.exchange(m.find(n[0]), m.find(n[1]), n[2])
	}
}

func (m *Model) use(key uint64) {
	if key != 0 {
		m.keys[key] = struct{}{}
	}
}

func (m *Model) open(id, product int64) {
	version, _ := m.products.At(product, m.day)
	a := &account{
		Account: api.Account{ID: id, Product: product, Cur: version.Cur, Kind: version.Kind, Open: true},
		holds:   make(map[int64]int64),
	}
	place, _ := m.place(id)
	m.accounts = slices.Insert(m.accounts, place, a)
}

// cash: paid in or, below 0, out.
func (m *Model) cash(a *account, amount int64) {
	a.Balance += amount
	m.post(a.Cur, api.Cash, api.Deposits, amount)
}

func (m *Model) transfer(from, to *account, amount int64) {
	from.Balance -= amount
	to.Balance += amount
	m.post(from.Cur, api.Deposits, api.Deposits, amount)
}

// lend: below 0 it is repaid.
func (m *Model) lend(loan, deposit *account, amount int64) {
	loan.Balance += amount
	deposit.Balance += amount
	m.post(loan.Cur, api.Loans, api.Deposits, amount)
}

func (m *Model) exchange(from, to *account, amount int64) {
	got, residue, _ := m.convert(from, to, amount)
	from.Balance -= amount
	to.Balance += got
	m.ledger.Post([]api.Line{
		{Code: api.Deposits, Cur: from.Cur, Amount: whole(amount)},
		{Code: api.Position, Cur: from.Cur, Amount: inParts(-amount)},
	})
	m.ledger.Post([]api.Line{
		{Code: api.Position, Cur: to.Cur, Amount: inParts(got)},
		{Code: api.Position, Cur: to.Cur, Amount: residue},
		{Code: api.Deposits, Cur: to.Cur, Amount: whole(-got)},
		{Code: api.Residue, Cur: to.Cur, Amount: opposite(residue)},
	})
}

// post: one entry, or, of nothing, none.
func (m *Model) post(cur, debit, credit int, amount int64) {
	if amount == 0 {
		return
	}
	m.ledger.Post([]api.Line{
		{Code: debit, Cur: cur, Amount: whole(amount)},
		{Code: credit, Cur: cur, Amount: whole(-amount)},
	})
}

func (a *account) hold(number, amount int64) {
	a.holds[number] = amount
	a.Held += amount
}

func (a *account) free(number int64) {
	a.Held -= a.holds[number]
	delete(a.holds, number)
}

// whole: so many minor units, of scale 0.
func whole(n int64) api.Dec { return api.Dec{Hi: n >> 63, Lo: uint64(n)} }

// inParts: so many minor units, of scale 12.
func inParts(n int64) api.Dec {
	hi, lo := bits.Mul64(uint64(n), trillion)
	if n < 0 {
		hi -= trillion // n was taken for n + 2^64
	}
	return api.Dec{Hi: int64(hi), Lo: lo, Scale: partDigits}
}

func opposite(d api.Dec) api.Dec {
	lo, borrow := bits.Sub64(0, d.Lo, 0)
	hi, _ := bits.Sub64(0, uint64(d.Hi), borrow)
	return api.Dec{Hi: int64(hi), Lo: lo, Scale: d.Scale}
}
