package chart

import (
	"passbook/api"
	"passbook/dec"
	"passbook/money"
)

// check: of an entry by itself, whatever the ledger holds. Each error has a pass of its own, since the least one is answered, wherever its line stands.
func check(entry []api.Line) api.Errno {
	for _, line := range entry {
		if !isCode(line.Code) || !isCurrency(line.Cur) {
			return api.ErrArg
		}
	}
	if len(entry) > api.MaxLines {
		return api.ErrLong
	}
	for _, line := range entry {
		if !isAmount(line.Amount) {
			return api.ErrForm
		}
	}
	return api.OK
}

func balanced(entry []api.Line) bool {
	totals := make(map[int]api.Dec) // by currency
	for _, line := range entry {
		totals[line.Cur] = plus(totals[line.Cur], line.Amount)
	}
	for _, total := range totals {
		if !isNought(total) {
			return false
		}
	}
	return true
}

func isCode(code int) bool { return code >= api.Cash && code <= api.Residue }

func isCurrency(cur int) bool { return money.Check(api.Money{Cur: cur}) == api.OK }

func isAmount(d api.Dec) bool {
	return dec.Check(d) == api.OK && d.Scale <= scale && !beyond(d, maxAmount)
}

func nought() api.Dec { return api.Dec{Scale: scale} }

func isNought(d api.Dec) bool {
	sign, _ := dec.Sign(d)
	return sign == 0
}

// plus: never out of range, since even eight balances, or a balance and sixteen amounts, stay below 10^25, and a Dec of scale 12 goes beyond that.
func plus(a, b api.Dec) api.Dec {
	sum, _ := dec.Add(a, b)
	return sum
}

// beyond: is d, in size, greater than the bound?
func beyond(d, bound api.Dec) bool {
	opposite, _ := dec.Neg(bound)
	above, _ := dec.Cmp(d, bound)
	below, _ := dec.Cmp(d, opposite)
	return above > 0 || below < 0
}
