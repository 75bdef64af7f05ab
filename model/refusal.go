package model

import "passbook/api"

const (
	maxNumber = 1000000000 // of accounts and of holds
	anyKind   = 0
)

// refusal: of the errors of a command the least.
type refusal struct {
	m     *Model
	least api.Errno
}

// ask goes through all that a command may be refused for, in any order, since the least error is answered.
func (r *refusal) ask(c api.Event) {
	n := c.N
	switch c.Op {
	case api.OpProduct:
		r.with(r.m.adding(versionOf(c)))
	case api.OpOpen:
		r.open(n[0], n[1])
	case api.OpClose:
		r.empty(r.named(n[0], anyKind))
	case api.OpDeposit:
		r.amount(n[1])
		r.room(r.named(n[0], api.KindDeposit), n[1])
	case api.OpWithdraw:
		r.amount(n[1])
		r.funds(r.named(n[0], api.KindDeposit), n[1])
	case api.OpTransfer:
		r.transfer(n[0], n[1], n[2])
	case api.OpHold:
		r.hold(n[0], n[1], n[2])
	case api.OpFree:
		r.free(n[0], n[1])
	case api.OpLend:
		r.lend(n[0], n[1], n[2], n[3])
	case api.OpRepay:
		r.repay(n[0], n[1], n[2])
	case api.OpRate:
		r.rate(int(n[0]), int(n[1]), n[2])
	case api.OpExchange:
		r.exchange(n[0], n[1], n[2])
	}
}

func (r *refusal) open(id, product int64) {
	r.within(id, maxNumber)
	_, none := r.m.products.At(product, r.m.day)
	r.with(none)
	r.when(r.m.find(id) != nil, api.ErrExists)
	r.when(len(r.m.accounts) >= api.MaxAccounts, api.ErrFull)
}

func (r *refusal) transfer(from, to, amount int64) {
	r.amount(amount)
	r.when(from == to, api.ErrArg)
	giver, taker := r.named(from, api.KindDeposit), r.named(to, api.KindDeposit)
	r.funds(giver, amount)
	r.room(taker, amount)
	r.oneCurrency(giver, taker)
}

func (r *refusal) hold(id, number, amount int64) {
	r.amount(amount)
	r.within(number, maxNumber)
	a := r.named(id, api.KindDeposit)
	r.funds(a, amount)
	r.when(a != nil && a.holds[number] != 0, api.ErrExists)
	r.when(a != nil && len(a.holds) >= api.MaxHolds, api.ErrFull)
}

func (r *refusal) free(id, number int64) {
	r.within(number, maxNumber)
	a := r.named(id, api.KindDeposit)
	r.when(a != nil && a.holds[number] == 0, api.ErrNone)
}

func (r *refusal) lend(loan, deposit, amount, months int64) {
	r.amount(amount)
	r.within(months, api.MaxMonths)
	owing, taker := r.named(loan, api.KindLoan), r.named(deposit, api.KindDeposit)
	r.room(taker, amount)
	r.oneCurrency(owing, taker)
	r.when(owing != nil && amount > r.m.version(owing.Account).Limit, api.ErrLimit)
	r.when(owing != nil && owing.Balance != 0, api.ErrState)
}

func (r *refusal) repay(loan, deposit, amount int64) {
	r.amount(amount)
	owing, giver := r.named(loan, api.KindLoan), r.named(deposit, api.KindDeposit)
	r.oneCurrency(owing, giver)
	r.when(owing != nil && amount > owing.Balance, api.ErrLimit)
	r.funds(giver, amount)
}

func (r *refusal) rate(cur, other int, rate int64) {
	r.when(!isCurrency(cur) || !isCurrency(other), api.ErrArg)
	r.within(rate, api.MaxRate)
	r.when(cur == other, api.ErrCur)
}

// exchange: ErrCur need not be asked for, since from a currency to itself there is no rate, and ErrNone is less.
func (r *refusal) exchange(from, to, amount int64) {
	r.amount(amount)
	r.when(from == to, api.ErrArg)
	giver, taker := r.named(from, api.KindDeposit), r.named(to, api.KindDeposit)
	r.funds(giver, amount)
	if giver == nil || taker == nil {
		return
	}
	got, _, e := r.m.convert(giver, taker, amount)
	r.with(e)
	r.room(taker, got)
}

// named: the account, or nil, which has no other error than ErrNone.
func (r *refusal) named(id int64, kind int) *account {
	a := r.m.find(id)
	if a == nil {
		r.with(api.ErrNone)
		return nil
	}
	r.when(!a.Open, api.ErrState)
	r.when(kind != anyKind && a.Kind != kind, api.ErrKind)
	return a
}

func (r *refusal) empty(a *account) {
	r.when(a != nil && (a.Balance != 0 || a.Held != 0), api.ErrBalance)
}

// room, funds: of amounts out of range they may say anything, since ErrArg is less.
func (r *refusal) room(a *account, amount int64) {
	r.when(a != nil && a.Balance+amount > api.MaxMinor, api.ErrRange)
}

func (r *refusal) funds(a *account, amount int64) {
	r.when(a != nil && amount > r.m.spendable(a.Account), api.ErrFunds)
}

func (r *refusal) oneCurrency(a, b *account) {
	r.when(a != nil && b != nil && a.Cur != b.Cur, api.ErrCur)
}

func (r *refusal) amount(amount int64) { r.within(amount, api.MaxMinor) }

func (r *refusal) within(n, greatest int64) { r.when(n < 1 || n > greatest, api.ErrArg) }

func (r *refusal) when(applies bool, e api.Errno) {
	if applies {
		r.with(e)
	}
}

func (r *refusal) with(e api.Errno) {
	if e != api.OK && (r.least == api.OK || e < r.least) {
		r.least = e
	}
}
