package stmt_test

import (
	"fmt"
	"math"
	"math/big"
	"reflect"
	"slices"
	"strings"
	"testing"
	"time"

	"passbook/api"
	"passbook/model"
	"passbook/stmt"
)

const (
	minor    = 10000000000000 // the greatest amount
	lastDay  = 3652059
	january  = 31 // the last day of a month
	maxLines = 4096
	maxText  = 400000
	one      = 1000000000 // the rate of one for one
)

func cmd(op byte, numbers ...int64) api.Event {
	e := api.Event{Op: op}
	copy(e.N[:], numbers)
	return e
}

func keyed(key uint64, c api.Event) api.Event {
	c.Key = key
	return c
}

// with: the command with another number at the place.
func with(c api.Event, place int, n int64) api.Event {
	c.N[place] = n
	return c
}

func tiers(c api.Event, l ...api.Tier) api.Event {
	c.Tiers = l
	return c
}

// product: from day 1 on, of 3.65 percent, Act365, Down.
func product(id, kind, cur, fee, limit int64) api.Event {
	return tiers(cmd(api.OpProduct, id, kind, cur, 1, api.Act365, api.Down, fee, limit), api.Tier{From: 0, Rate: 36500000})
}

func open(id, product int64) api.Event              { return cmd(api.OpOpen, id, product) }
func shut(id int64) api.Event                       { return cmd(api.OpClose, id) }
func deposit(id, amount int64) api.Event            { return cmd(api.OpDeposit, id, amount) }
func withdraw(id, amount int64) api.Event           { return cmd(api.OpWithdraw, id, amount) }
func transfer(from, to, amount int64) api.Event     { return cmd(api.OpTransfer, from, to, amount) }
func hold(id, number, amount int64) api.Event       { return cmd(api.OpHold, id, number, amount) }
func free(id, number int64) api.Event               { return cmd(api.OpFree, id, number) }
func lend(loan, id, amount, months int64) api.Event { return cmd(api.OpLend, loan, id, amount, months) }
func repay(loan, id, amount int64) api.Event        { return cmd(api.OpRepay, loan, id, amount) }
func rate(cur, other, rate int64) api.Event         { return cmd(api.OpRate, cur, other, rate) }
func exchange(from, to, amount int64) api.Event     { return cmd(api.OpExchange, from, to, amount) }

// night stands among commands for a whole end of day.
func night() api.Event { return api.Event{Op: api.OpBegin} }

// nights: as many ends of day.
func nights(n int) []api.Event { return slices.Repeat([]api.Event{night()}, n) }

// events: all that the commands, one behind the other, bring.
func events(t *testing.T, start int, commands ...api.Event) []api.Event {
	t.Helper()
	m, e := model.New(start)
	answers(t, "New", e, api.OK)
	var all []api.Event
	for _, c := range commands {
		brings := []api.Event{c}
		if c.Op == api.OpBegin {
			brings, e = m.Due()
		} else {
			brings[0], _, e = m.Plan(c)
		}
		answers(t, fmt.Sprint(c), e, api.OK)
		for _, one := range brings {
			answers(t, fmt.Sprint(one), m.Apply(one), api.OK)
		}
		all = append(all, brings...)
	}
	return all
}

// small: the first example's events, on the day 40.
func small() []api.Event {
	return []api.Event{
		tiers(cmd(api.OpProduct, 1, 1, 0, 1, 1), api.Tier{Rate: 5}),
		open(10, 1), deposit(10, 1000), withdraw(10, 300),
	}
}

// storyDay: the day on which the story begins; its second end of day is that of a month.
const storyDay = january - 1

// story: commands of each kind; the account 12 is opened on the fourth day, 13 is closed on the second, 14 never had anything.
func story() []api.Event {
	return []api.Event{
		keyed(1, product(1, api.KindDeposit, api.EUR, 7, 500)), product(2, api.KindDeposit, api.JPY, 0, 0), product(3, api.KindLoan, api.EUR, 0, minor),
		product(4, api.KindDeposit, api.KWD, 3, 0),
		open(10, 1), keyed(2, open(11, 1)), open(13, 1), open(14, 1), open(20, 2), open(30, 3), open(40, 4),
		keyed(7, deposit(10, 1000000)), transfer(10, 11, 250000), hold(10, 5, 1000), deposit(13, 5),
		rate(api.EUR, api.JPY, 1605000000), exchange(10, 20, 1001), exchange(10, 20, 1), lend(30, 10, 777777, 12),
		night(),
		withdraw(11, 250500), repay(30, 10, 77), transfer(13, 10, 5), shut(13), deposit(40, 1), free(10, 5),
		night(),
		night(),
		open(12, 1), deposit(12, 33), deposit(11, 600), withdraw(20, 1), rate(api.JPY, api.KWD, 2*one), exchange(20, 40, 3),
		night(),
		repay(30, 10, 100), transfer(12, 11, 533), deposit(40, 1),
	}
}

// moment: the state ahead of an event, and behind it.
type moment struct {
	day           int
	op            byte
	ahead, behind map[int64]int64
}

func balancesOf(m *model.Model) map[int64]int64 {
	all := map[int64]int64{}
	for _, a := range m.Accounts() {
		all[a.ID] = a.Balance
	}
	return all
}

// record: all moments, and the accounts behind them.
type record struct {
	moments  []moment
	accounts map[int64]api.Account
}

func recordOf(t *testing.T, start int, events []api.Event) record {
	t.Helper()
	m, e := model.New(start)
	answers(t, "New", e, api.OK)
	r := record{accounts: map[int64]api.Account{}}
	ahead := balancesOf(m)
	for _, one := range events {
		day := m.Day()
		answers(t, fmt.Sprint(one), m.Apply(one), api.OK)
		behind := balancesOf(m)
		r.moments = append(r.moments, moment{day, one.Op, ahead, behind})
		ahead = behind
	}
	for _, a := range m.Accounts() {
		r.accounts[a.ID] = a
	}
	return r
}

// plain: the statement by the document's words, of an account that there is; a balance that isn't there is 0.
func (r record) plain(id int64, from, to int) stmt.Statement {
	s := stmt.Statement{Account: id, Cur: r.accounts[id].Cur, From: from, To: to}
	s.Opening = r.accounts[id].Balance
	if first := slices.IndexFunc(r.moments, func(m moment) bool { return m.day >= from }); first >= 0 {
		s.Opening = r.moments[first].ahead[id]
	}
	for i := len(r.moments) - 1; i >= 0; i-- {
		if r.moments[i].day <= to {
			s.Closing = r.moments[i].behind[id]
			break
		}
	}
	for i, m := range r.moments {
		if change := m.behind[id] - m.ahead[id]; change != 0 && from <= m.day && m.day <= to {
			s.Lines = append(s.Lines, stmt.Line{Seq: int64(i + 1), Day: m.day, Op: m.op, Change: change, Balance: m.behind[id]})
		}
	}
	return s
}

func same(a, b stmt.Statement) bool {
	lines, others := a.Lines, b.Lines
	a.Lines, b.Lines = nil, nil
	return reflect.DeepEqual(a, b) && slices.Equal(lines, others)
}

func answers(t *testing.T, what string, got, want api.Errno) {
	t.Helper()
	if got != want {
		t.Fatalf("%s: error %d, want %d", what, got, want)
	}
}

// makes: just that statement.
func makes(t *testing.T, start int, events []api.Event, want stmt.Statement) {
	t.Helper()
	got, e := stmt.Make(start, events, want.Account, want.From, want.To)
	if e != api.OK || !same(got, want) {
		t.Fatalf("Make(%d, .., %d, %d, %d) = %v, error %d; want %v", start, want.Account, want.From, want.To, got, e, want)
	}
}

// makesNone: the error, with nothing beside it.
func makesNone(t *testing.T, start int, events []api.Event, id int64, from, to int, want api.Errno) {
	t.Helper()
	if got, e := stmt.Make(start, events, id, from, to); e != want || !reflect.DeepEqual(got, stmt.Statement{}) {
		t.Fatalf("Make(%d, %.300v, %d, %d, %d) = %v, error %d; want error %d", start, events, id, from, to, got, e, want)
	}
}

// writes: just that text, which is read again.
func writes(t *testing.T, s stmt.Statement, want string) {
	t.Helper()
	if got, e := stmt.Write(s); e != api.OK || got != want {
		t.Fatalf("Write(%v) = %q, error %d; want %q", s, got, e, want)
	}
	if got, e := stmt.Parse(want); e != api.OK || !same(got, s) {
		t.Fatalf("Parse(%q) = %v, error %d; want %v", want, got, e, s)
	}
}

// parsesNot: the error, with nothing beside it.
func parsesNot(t *testing.T, text string, want api.Errno) {
	t.Helper()
	if got, e := stmt.Parse(text); e != want || !reflect.DeepEqual(got, stmt.Statement{}) {
		t.Errorf("Parse(%.400q) = %v, error %d; want error %d", text, got, e, want)
	}
}

func names() []string { return []string{"EUR", "USD", "JPY", "KWD"} }

// amountOf: the text, by another way than the program's.
func amountOf(cur int, n int64) string {
	digits := []int{2, 2, 0, 3}[cur]
	size := new(big.Int).Abs(big.NewInt(n)).String()
	if short := digits + 1 - len(size); short > 0 {
		size = strings.Repeat("0", short) + size
	}
	if digits > 0 {
		size = size[:len(size)-digits] + "." + size[len(size)-digits:]
	}
	if n < 0 {
		size = "-" + size
	}
	return size
}

func dayOf(n int) string {
	return time.Date(1, 1, 1, 0, 0, 0, 0, time.UTC).AddDate(0, 0, n-1).Format("2006-01-02")
}

// textOf: of a statement in form.
func textOf(s stmt.Statement) string {
	text := fmt.Sprintf("account %d %s from %s to %s opening %s\n", s.Account, names()[s.Cur], dayOf(s.From), dayOf(s.To), amountOf(s.Cur, s.Opening))
	for _, l := range s.Lines {
		text += fmt.Sprintf("%d %s %d %s %s\n", l.Seq, dayOf(l.Day), l.Op, amountOf(s.Cur, l.Change), amountOf(s.Cur, l.Balance))
	}
	return text + fmt.Sprintf("closing %s\n", amountOf(s.Cur, s.Closing))
}

// outside: numbers outside least .. top, next to it and far from it.
func outside(least, top int64) []int64 {
	return []int64{least - 1, least - 2, top + 1, top + 2, -1 << 62, 1 << 62, math.MinInt64, math.MinInt64 + 1, math.MaxInt64 - 1, math.MaxInt64}
}

func noDays() []int {
	return []int{0, -1, -lastDay, lastDay + 1, lastDay + 2, 2 * lastDay, math.MinInt, math.MinInt + 1, math.MaxInt - 1, math.MaxInt}
}

// statement: one in form, with lines of several days, each number far from its bounds.
func statement() stmt.Statement {
	return stmt.Statement{
		Account: 10, Cur: api.EUR, From: 40, To: 50, Opening: -250, Closing: 1340,
		Lines: []stmt.Line{
			{Seq: 3, Day: 41, Op: api.OpDeposit, Change: 1000, Balance: 750},
			{Seq: 7, Day: 44, Op: api.OpWithdraw, Change: -300, Balance: 450},
			{Seq: 8, Day: 44, Op: api.OpStep, Change: -10, Balance: 440},
			{Seq: 900, Day: 47, Op: api.OpExchange, Change: 900, Balance: 1340},
		},
	}
}

// changed: a copy on which the change was made.
func changed(s stmt.Statement, change func(s *stmt.Statement)) stmt.Statement {
	s.Lines = slices.Clone(s.Lines)
	change(&s)
	return s
}

// run: a statement of so many lines of one minor unit each.
func run(lines int) stmt.Statement {
	s := stmt.Statement{Account: 10, Cur: api.EUR, From: 40, To: 40, Opening: 0, Closing: int64(lines)}
	for i := range lines {
		n := int64(i + 1)
		s.Lines = append(s.Lines, stmt.Line{Seq: n, Day: 40, Op: api.OpDeposit, Change: 1, Balance: n})
	}
	return s
}
