package model

import (
	"slices"

	"passbook/accrue"
	"passbook/api"
	"passbook/cal"
	"passbook/event"
)

// run: is an end of day under way, and which step of it was done last?
type run struct {
	underWay bool
	account  int64 // 0: no step was done yet
	stage    int
}

// Next: how the end of day goes on. Due: all that is still to come of it.
func (m *Model) Next() (api.Event, api.Errno) {
	if e := m.atEnd(); e != api.OK {
		return api.Event{}, e
	}
	var next api.Event
	for next = range m.coming {
		break
	}
	return next, api.OK
}

func (m *Model) Due() ([]api.Event, api.Errno) {
	if e := m.atEnd(); e != api.OK {
		return nil, e
	}
	return slices.Collect(m.coming), api.OK
}

// atEnd: is there no end of day? On the calendar's last day no run can be under way, since none begins.
func (m *Model) atEnd() api.Errno {
	switch {
	case m == nil:
		return api.ErrNone
	case m.day == api.MaxDay:
		return api.ErrDate
	}
	return api.OK
}

// coming goes through the events up to OpRoll. It steps on copies of the accounts, since an amount hangs on the
// steps ahead of it of the same account, though on no other account's.
func (m *Model) coming(yield func(api.Event) bool) {
	if !m.run.underWay && !yield(told(api.OpBegin, int64(m.day))) {
		return
	}
	first, _ := m.place(m.run.account)
	for _, a := range m.accounts[first:] {
		copied := a.Account
		for _, stage := range m.stages(copied) {
			if m.run.did(a.ID, stage) {
				continue
			}
			if !yield(told(api.OpStep, a.ID, int64(stage), m.step(&copied, stage))) {
				return
			}
		}
	}
	yield(told(api.OpRoll, int64(m.day+1)))
}

func (r run) did(account int64, stage int) bool { return account == r.account && stage <= r.stage }

// stages: those that an account goes through on the model's day.
func (m *Model) stages(a api.Account) []int {
	last, _ := cal.MonthEnd(m.day)
	switch {
	case !a.Open:
		return nil
	case !last:
		return []int{api.StageAccrue}
	case a.Kind == api.KindLoan:
		return []int{api.StageAccrue, api.StagePay}
	}
	return []int{api.StageAccrue, api.StagePay, api.StageFee}
}

// step changes the account, and answers the amount. No bound of layer 14 is passed: a balance lies within MaxMinor
// on either side, what is held within two times that, and the interest of a month is below 10^18 millionths.
func (m *Model) step(a *api.Account, stage int) int64 {
	version := m.version(*a)
	balance := max(a.Balance, 0)
	switch stage {
	case api.StageAccrue:
		interest, _ := accrue.Daily(balance, version.Tiers, version.Basis, version.Mode, m.day, m.day+1)
		a.Accrued += interest
		return interest
	case api.StagePay:
		paid, left, _ := accrue.Pay(a.Accrued, api.MaxMinor-a.Balance)
		a.Balance += paid
		a.Accrued = left
		return paid
	}
	fee, _ := accrue.Fee(balance, a.Held, version.Fee)
	a.Balance -= fee
	return fee
}

// goOn: an event of the end of day happens, if it is the next one.
func (m *Model) goOn(e api.Event) api.Errno {
	next, none := m.Next()
	if none != api.OK || !event.Same(next, e) {
		return api.ErrForm
	}
	switch e.Op {
	case api.OpBegin:
		m.run = run{underWay: true}
	case api.OpStep:
		m.run.account, m.run.stage = e.N[0], int(e.N[1])
		m.settle(m.find(e.N[0]), int(e.N[1]))
	case api.OpRoll:
		m.run = run{}
		m.day++
	}
	m.seq++
	return api.OK
}

// settle: a step, and its entry. Interest that is accrued is posted when it is paid.
func (m *Model) settle(a *account, stage int) {
	amount := m.step(&a.Account, stage)
	switch {
	case stage == api.StageFee:
		m.post(a.Cur, api.Deposits, api.Fees, amount)
	case stage == api.StagePay && a.Kind == api.KindLoan:
		m.post(a.Cur, api.Loans, api.Income, amount)
	case stage == api.StagePay:
		m.post(a.Cur, api.Expense, api.Deposits, amount)
	}
}

func told(op byte, numbers ...int64) api.Event {
	e := api.Event{Op: op}
	copy(e.N[:], numbers)
	return e
}
