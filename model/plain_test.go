package model_test

import (
	"maps"
	"math/big"
	"slices"
	"time"

	"passbook/api"
	"passbook/prod"
)

// plain is the chapter's bank once more, word by word: every error that applies is gathered, amounts are numbers
// without bound, and an end of day is worked out whole when it begins.
type plain struct {
	day     int
	prods   []prod.Product
	account map[int64]*plainAccount
	rates   map[post]int64 // two currencies
	books   map[post]*big.Int
	entries int
	keys    map[uint64]bool
	left    []api.Event // of the run that is under way
	seq     int64
}

type plainAccount struct {
	api.Account
	holds map[int64]int64
}

func newPlain(day int) *plain {
	return &plain{day: day, account: map[int64]*plainAccount{}, rates: map[post]int64{}, books: map[post]*big.Int{}, keys: map[uint64]bool{}}
}

func (p *plain) date() time.Time { return time.Date(1, 1, p.day, 0, 0, 0, 0, time.UTC) }

// version: the one with the greatest Day up to today.
func (p *plain) version(id int64) *prod.Product {
	var found *prod.Product
	for i, v := range p.prods {
		if v.ID == id && v.Day <= p.day && (found == nil || v.Day > found.Day) {
			found = &p.prods[i]
		}
	}
	return found
}

func big64(n int64) *big.Int { return big.NewInt(n) }

func outside(n, top int64) bool { return n < 1 || n > top }

// sumAbove: is a + b above top, whatever an int64 can hold?
func sumAbove(a, b, top int64) bool { return new(big.Int).Add(big64(a), big64(b)).Cmp(big64(top)) > 0 }

// spends: is the amount at most what the account can spend?
func (p *plain) spends(a *plainAccount, amount int64) bool {
	can := new(big.Int).Add(big64(a.Balance), big64(p.version(a.Product).Limit))
	return big64(amount).Cmp(can.Sub(can, big64(a.Held))) <= 0
}

type errors map[api.Errno]bool

func (e errors) add(applies bool, n api.Errno) {
	if applies {
		e[n] = true
	}
}

func (e errors) least() api.Errno {
	return slices.Min(append(slices.Collect(maps.Keys(e)), 99))
}

// refusal: the error, and, where the least one of several is answered, these.
func (p *plain) refusal(c api.Event) (api.Errno, errors) {
	used := []int{0, 8, 2, 1, 2, 2, 3, 3, 2, 4, 3, 3, 3, 1, 3, 1}
	switch {
	case c.Op < 1 || c.Op > 15 || c.Op != api.OpProduct && len(c.Tiers) > 0 || len(c.Tiers) > 8:
		return api.ErrForm, nil
	}
	for _, n := range c.N[used[c.Op]:] {
		if n != 0 {
			return api.ErrForm, nil
		}
	}
	switch {
	case c.Op >= 13:
		return api.ErrArg, nil
	case c.Key != 0 && p.keys[c.Key]:
		return api.ErrSeen, nil
	case len(p.left) > 0:
		return api.ErrState, nil
	}
	all := errors{}
	switch c.Op {
	case api.OpProduct:
		p.refuseProduct(all, c)
	case api.OpOpen:
		all.add(outside(c.N[0], number), api.ErrArg)
		all.add(p.version(c.N[1]) == nil, api.ErrNone)
		all.add(p.account[c.N[0]] != nil, api.ErrExists)
		all.add(len(p.account) >= 256, api.ErrFull)
	case api.OpRate:
		all.add(c.N[0] < 0 || c.N[0] > 3 || c.N[1] < 0 || c.N[1] > 3 || outside(c.N[2], rate), api.ErrArg)
		all.add(c.N[0] == c.N[1], api.ErrCur)
	default:
		p.refuseNamed(all, c)
	}
	if len(all) == 0 {
		return api.OK, nil
	}
	return all.least(), all
}

func (p *plain) refuseProduct(all errors, c api.Event) {
	catalogue := prod.New()
	for _, v := range p.prods {
		catalogue.Add(v)
	}
	e := catalogue.Add(productOf(c))
	all.add(e != api.OK, e)
}

func productOf(c api.Event) prod.Product {
	n := c.N
	return prod.Product{ID: n[0], Kind: int(n[1]), Cur: int(n[2]), Day: int(n[3]), Basis: int(n[4]), Mode: int(n[5]), Fee: n[6], Limit: n[7], Tiers: slices.Clone(c.Tiers)}
}

// refuseNamed: of the commands that name accounts.
func (p *plain) refuseNamed(all errors, c api.Event) {
	n := c.N
	kinds := map[byte][]int{
		api.OpClose: {0}, api.OpDeposit: {1}, api.OpWithdraw: {1}, api.OpTransfer: {1, 1}, api.OpHold: {1},
		api.OpFree: {1}, api.OpLend: {2, 1}, api.OpRepay: {2, 1}, api.OpExchange: {1, 1},
	}[c.Op]
	var named [2]*plainAccount
	for i, kind := range kinds {
		a := p.account[n[i]]
		named[i] = a
		all.add(a == nil, api.ErrNone)
		all.add(a != nil && !a.Open, api.ErrState)
		all.add(a != nil && kind != 0 && a.Kind != kind, api.ErrKind)
	}
	a, b := named[0], named[1]
	both := a != nil && b != nil
	amount := map[byte]int64{api.OpDeposit: n[1], api.OpWithdraw: n[1], api.OpClose: 1, api.OpFree: 1}
	sum, other := amount[c.Op]
	if !other {
		sum = n[2]
	}
	all.add(outside(sum, minor), api.ErrArg)
	switch c.Op {
	case api.OpClose:
		all.add(a != nil && (a.Balance != 0 || len(a.holds) > 0), api.ErrBalance)
	case api.OpDeposit:
		all.add(a != nil && sumAbove(a.Balance, sum, minor), api.ErrRange)
	case api.OpWithdraw:
		all.add(a != nil && !p.spends(a, sum), api.ErrFunds)
	case api.OpTransfer:
		all.add(n[0] == n[1], api.ErrArg)
		all.add(b != nil && sumAbove(b.Balance, sum, minor), api.ErrRange)
		all.add(a != nil && !p.spends(a, sum), api.ErrFunds)
		all.add(both && a.Cur != b.Cur, api.ErrCur)
	case api.OpHold:
		all.add(outside(n[1], number), api.ErrArg)
		all.add(a != nil && a.holds[n[1]] > 0, api.ErrExists)
		all.add(a != nil && !p.spends(a, sum), api.ErrFunds)
		all.add(a != nil && len(a.holds) >= 64, api.ErrFull)
	case api.OpFree:
		all.add(outside(n[1], number), api.ErrArg)
		all.add(a != nil && a.holds[n[1]] == 0, api.ErrNone)
	case api.OpLend:
		all.add(outside(n[3], 480), api.ErrArg)
		all.add(b != nil && sumAbove(b.Balance, sum, minor), api.ErrRange)
		all.add(both && a.Cur != b.Cur, api.ErrCur)
		all.add(a != nil && sum > p.version(a.Product).Limit, api.ErrLimit)
		all.add(a != nil && a.Balance != 0, api.ErrState)
	case api.OpRepay:
		all.add(both && a.Cur != b.Cur, api.ErrCur)
		all.add(a != nil && sum > a.Balance, api.ErrLimit)
		all.add(b != nil && !p.spends(b, sum), api.ErrFunds)
	case api.OpExchange:
		all.add(n[0] == n[1], api.ErrArg)
		all.add(a != nil && !p.spends(a, sum), api.ErrFunds)
		if both {
			p.refuseExchange(all, a, b, sum)
		}
	}
}

func (p *plain) refuseExchange(all errors, from, to *plainAccount, amount int64) {
	all.add(from.Cur == to.Cur, api.ErrCur)
	price := p.rates[post{from.Cur, to.Cur}]
	all.add(price == 0, api.ErrNone)
	if price == 0 || outside(amount, minor) {
		return
	}
	got, _ := worth(from.Cur, to.Cur, price, amount)
	all.add(got.Cmp(big64(minor)) > 0, api.ErrRange)
	all.add(got.Add(got, big64(to.Balance)).Cmp(big64(minor)) > 0, api.ErrRange)
}

// worth: what is got, and the residue in parts of 10^-12.
func worth(cur, other int, price, amount int64) (*big.Int, *big.Int) {
	digits := []int64{100, 100, 1, 1000}
	above := new(big.Int).Mul(big64(amount), big64(price))
	above.Mul(above, big64(digits[other])).Mul(above, big64(1000000000000))
	below := new(big.Int).Mul(big64(digits[cur]), big64(one))
	above.Quo(above, below) // without a rest: no part is smaller
	return new(big.Int).DivMod(above, big64(1000000000000), new(big.Int))
}

func (p *plain) book(code, cur int, amount *big.Int) {
	place := post{code, cur}
	if p.books[place] == nil {
		p.books[place] = new(big.Int)
	}
	p.books[place].Add(p.books[place], amount)
	if p.books[place].Sign() == 0 {
		delete(p.books, place)
	}
}

// entry: an amount of minor units to the one, and from the other.
func (p *plain) entry(cur, debit, credit int, amount int64) {
	if amount == 0 {
		return
	}
	p.entries++
	p.book(debit, cur, units(amount))
	p.book(credit, cur, units(-amount))
}

// plan: the event and how much moves, of a command that isn't refused.
func (p *plain) plan(c api.Event) (api.Event, int64) {
	switch c.Op {
	case api.OpDeposit, api.OpWithdraw:
		return c, c.N[1]
	case api.OpTransfer, api.OpLend, api.OpRepay:
		return c, c.N[2]
	case api.OpExchange:
		from, to := p.account[c.N[0]], p.account[c.N[1]]
		got, _ := worth(from.Cur, to.Cur, p.rates[post{from.Cur, to.Cur}], c.N[2])
		c.N[3] = got.Int64()
		return c, c.N[3]
	}
	return c, 0
}

func (p *plain) apply(e api.Event) {
	p.seq++
	if e.Key != 0 {
		p.keys[e.Key] = true
	}
	n := e.N
	a, b := p.account[n[0]], p.account[n[1]]
	switch e.Op {
	case api.OpProduct:
		p.prods = append(p.prods, productOf(e))
	case api.OpOpen:
		v := p.version(n[1])
		p.account[n[0]] = &plainAccount{api.Account{ID: n[0], Product: n[1], Cur: v.Cur, Kind: v.Kind, Open: true}, map[int64]int64{}}
	case api.OpClose:
		a.Open, a.Accrued = false, 0
	case api.OpDeposit:
		a.Balance += n[1]
		p.entry(a.Cur, api.Cash, api.Deposits, n[1])
	case api.OpWithdraw:
		a.Balance -= n[1]
		p.entry(a.Cur, api.Deposits, api.Cash, n[1])
	case api.OpTransfer:
		a.Balance -= n[2]
		b.Balance += n[2]
		p.entry(a.Cur, api.Deposits, api.Deposits, n[2])
	case api.OpHold:
		a.holds[n[1]] = n[2]
		a.Held += n[2]
	case api.OpFree:
		a.Held -= a.holds[n[1]]
		delete(a.holds, n[1])
	case api.OpLend:
		a.Balance = n[2]
		b.Balance += n[2]
		p.entry(a.Cur, api.Loans, api.Deposits, n[2])
	case api.OpRepay:
		a.Balance -= n[2]
		b.Balance -= n[2]
		p.entry(a.Cur, api.Deposits, api.Loans, n[2])
	case api.OpRate:
		p.rates[post{int(n[0]), int(n[1])}] = n[2]
	case api.OpExchange:
		p.exchange(a, b, n[2])
	case api.OpBegin:
		p.left = p.due()[1:]
	case api.OpStep:
		p.step(a, int(n[1]), true)
		p.left = p.left[1:]
	case api.OpRoll:
		p.day++
		p.left = nil
	}
}

func (p *plain) exchange(from, to *plainAccount, amount int64) {
	got, rest := worth(from.Cur, to.Cur, p.rates[post{from.Cur, to.Cur}], amount)
	from.Balance -= amount
	to.Balance += got.Int64()
	p.entries += 2
	p.book(api.Deposits, from.Cur, units(amount))
	p.book(api.Position, from.Cur, units(-amount))
	p.book(api.Position, to.Cur, new(big.Int).Add(units(got.Int64()), rest))
	p.book(api.Deposits, to.Cur, units(-got.Int64()))
	p.book(api.Residue, to.Cur, new(big.Int).Neg(rest))
}

// due: all events from OpBegin on, or, of a run that is under way, those that are left.
func (p *plain) due() []api.Event {
	if len(p.left) > 0 {
		return slices.Clone(p.left)
	}
	events := []api.Event{begin(int64(p.day))}
	last := p.date().AddDate(0, 0, 1).Day() == 1
	for _, id := range slices.Sorted(maps.Keys(p.account)) {
		if !p.account[id].Open {
			continue
		}
		a := *p.account[id] // its holds stay as they are
		for stage := 1; stage <= 3; stage++ {
			if stage == 1 || last && (stage == 2 || a.Kind == api.KindDeposit) {
				events = append(events, step(id, int64(stage), p.step(&a, stage, false)))
			}
		}
	}
	return append(events, roll(int64(p.day)+1))
}

func (p *plain) step(a *plainAccount, stage int, booked bool) int64 {
	var debit, credit int
	var amount int64
	switch stage {
	case 1:
		amount = p.interest(a)
		a.Accrued += amount
		return amount
	case 2:
		amount = min(a.Accrued/1000000, minor-a.Balance)
		a.Accrued %= 1000000
		a.Balance += amount
		debit, credit = api.Expense, api.Deposits
		if a.Kind == api.KindLoan {
			debit, credit = api.Loans, api.Income
		}
	case 3:
		amount = max(0, min(p.version(a.Product).Fee, max(0, a.Balance)-a.Held))
		a.Balance -= amount
		debit, credit = api.Deposits, api.Fees
	}
	if booked {
		p.entry(a.Cur, debit, credit, amount)
	}
	return amount
}

// interest: the true number of millionths as a fraction, then rounded.
func (p *plain) interest(a *plainAccount) int64 {
	v := p.version(a.Product)
	sum := new(big.Rat)
	for i, tier := range v.Tiers {
		part := max(0, a.Balance-tier.From)
		if i+1 < len(v.Tiers) {
			part = min(part, v.Tiers[i+1].From-tier.From)
		}
		sum.Add(sum, new(big.Rat).SetFrac(new(big.Int).Mul(big64(part), big64(tier.Rate)), big64(1000)))
	}
	sum.Mul(sum, p.yearPart(v.Basis))
	whole, rest := new(big.Int).DivMod(sum.Num(), sum.Denom(), new(big.Int))
	half := rest.Lsh(rest, 1).Cmp(sum.Denom()) // what was rounded away against a half
	var up bool
	switch v.Mode {
	case api.Up, api.Ceil:
		up = rest.Sign() > 0
	case api.HalfUp:
		up = half >= 0
	case api.HalfDown:
		up = half > 0
	case api.HalfEven:
		up = half > 0 || half == 0 && whole.Bit(0) == 1
	}
	if up {
		whole.Add(whole, big64(1))
	}
	return whole.Int64()
}

// yearPart: from the day to the next one.
func (p *plain) yearPart(basis int) *big.Rat {
	today, next := p.date(), p.date().AddDate(0, 0, 1)
	switch basis {
	case api.Act360:
		return big.NewRat(1, 360)
	case api.Act365:
		return big.NewRat(1, 365)
	case api.ActAct:
		return big.NewRat(1, int64(time.Date(today.Year(), 12, 31, 0, 0, 0, 0, time.UTC).YearDay()))
	}
	months := 12*(next.Year()-today.Year()) + int(next.Month()) - int(today.Month())
	return big.NewRat(int64(30*months+min(30, next.Day())-min(30, today.Day())), 360)
}
