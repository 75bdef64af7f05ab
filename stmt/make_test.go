package stmt_test

import (
	"fmt"
	"math"
	"math/rand"
	"slices"
	"testing"

	"passbook/api"
	"passbook/model"
	"passbook/stmt"
)

func TestExamples(t *testing.T) { // P20.1, P20.2, P20.3
	want := stmt.Statement{
		Account: 10, Cur: api.EUR, From: 40, To: 41, Opening: 0, Closing: 700,
		Lines: []stmt.Line{{Seq: 3, Day: 40, Op: 4, Change: 1000, Balance: 1000}, {Seq: 4, Day: 40, Op: 5, Change: -300, Balance: 700}},
	}
	text := "account 10 EUR from 0001-02-09 to 0001-02-10 opening 0.00\n3 0001-02-09 4 10.00 10.00\n4 0001-02-09 5 -3.00 7.00\nclosing 7.00\n"
	makes(t, 40, small(), want)
	answers(t, "Check", stmt.Check(want), api.OK)
	writes(t, want, text)
	makesNone(t, 40, small(), 11, 40, 41, api.ErrNone)
	makes(t, 40, small(), stmt.Statement{Account: 10, Cur: api.EUR, From: 41, To: 41, Opening: 700, Closing: 700})
	makes(t, 40, small(), stmt.Statement{Account: 10, Cur: api.EUR, From: 41, To: 50, Opening: 700, Closing: 700})
	parsesNot(t, text[:len(text)-len("7.00\n")]+"7.01\n", api.ErrText)
}

func TestDaysOfTheCalendar(t *testing.T) { // P20.1
	for _, wrong := range noDays() {
		for _, c := range [][3]int{{wrong, 40, 41}, {40, wrong, 41}, {40, 40, wrong}, {wrong, wrong, wrong}, {wrong, 41, 40}} {
			makesNone(t, c[0], small(), 10, c[1], c[2], api.ErrArg)
			makesNone(t, c[0], small(), 11, c[1], c[2], api.ErrArg)
			makesNone(t, c[0], nil, 10, c[1], c[2], api.ErrArg)
			makesNone(t, c[0], small()[1:], 10, c[1], c[2], api.ErrArg)
		}
	}
	for _, start := range []int{1, 2, 40, lastDay - 1, lastDay} {
		for _, from := range []int{1, 2, 40, lastDay - 1, lastDay} {
			for _, to := range []int{1, 2, 40, lastDay - 1, lastDay} {
				if from > to {
					makesNone(t, start, small(), 10, from, to, api.ErrDate)
					continue
				}
				want := stmt.Statement{Account: 10, Cur: api.EUR, From: from, To: to}
				if start < from {
					want.Opening = 700
				}
				if start <= to {
					want.Closing = 700
				}
				if from <= start && start <= to {
					want.Lines = []stmt.Line{{Seq: 3, Day: start, Op: 4, Change: 1000, Balance: 1000}, {Seq: 4, Day: start, Op: 5, Change: -300, Balance: 700}}
				}
				makes(t, start, small(), want)
			}
		}
	}
}

func TestNoEvents(t *testing.T) { // P20.1
	for _, none := range [][]api.Event{nil, {}, make([]api.Event, 0, 4)} {
		makesNone(t, 40, none, 10, 40, 41, api.ErrNone)
		makesNone(t, 40, none, 10, 41, 40, api.ErrNone)
		makesNone(t, 1, none, 1, 1, lastDay, api.ErrNone)
	}
}

// wrongEvents: none of them can happen behind the story.
func wrongEvents() []api.Event {
	return []api.Event{
		{}, {Op: 16}, {Op: 255}, cmd(api.OpRoll, 34), cmd(api.OpStep, 10, 1, 0), cmd(api.OpBegin, 35), cmd(api.OpBegin),
		open(10, 1), open(0, 1), open(99, 9), shut(10), shut(13), shut(99), deposit(10, 0), deposit(13, 5), deposit(99, 5), deposit(10, minor),
		withdraw(10, minor), transfer(10, 10, 5), transfer(10, 20, 5), hold(10, 0, 5), free(10, 5), lend(30, 10, 5, 12), repay(30, 10, minor),
		rate(0, 0, 5), exchange(10, 20, 101), with(exchange(10, 20, 101), 3, 161), exchange(20, 10, 5),
		keyed(7, deposit(10, 1)), tiers(deposit(10, 1), api.Tier{}), with(deposit(10, 1), 2, 1), product(1, api.KindDeposit, api.EUR, 7, 500),
	}
}

func TestEventsThatCannotHappen(t *testing.T) { // P20.1
	right := events(t, storyDay, story()...)
	for _, wrong := range wrongEvents() {
		for _, id := range []int64{10, 13, 99} {
			makesNone(t, storyDay, append(slices.Clone(right), wrong), id, 1, lastDay, api.ErrForm)
			makesNone(t, storyDay, append(slices.Clone(right), wrong, deposit(10, 1)), id, lastDay, 1, api.ErrForm)
		}
	}
	for _, wrong := range []api.Event{{}, {Op: 16}, open(10, 1), deposit(10, 1), cmd(api.OpRoll, 41), cmd(api.OpBegin, 41)} {
		makesNone(t, 40, []api.Event{wrong}, 10, 40, 40, api.ErrForm)
	}
	for left := range right { // one event less: what rests on it can't happen
		less := slices.Delete(slices.Clone(right), left, left+1)
		m, _ := model.New(storyDay)
		fits := true
		for _, e := range less {
			fits = fits && m.Apply(e) == api.OK
		}
		if _, e := stmt.Make(storyDay, less, 10, 1, lastDay); left >= 5 && (e == api.OK) != fits {
			t.Errorf("without the event %d: error %d, though it is %t that the others can happen", left, e, fits)
		}
	}
	makesNone(t, storyDay+1, right, 10, 1, lastDay, api.ErrForm) // OpBegin is told the day
}

func TestTheOrderOfErrors(t *testing.T) { // P20.1, the order of errors
	wrong := append(small(), deposit(99, 1))
	makesNone(t, 0, wrong, 99, 41, 40, api.ErrArg)
	makesNone(t, 40, wrong, 99, 41, 40, api.ErrForm)
	makesNone(t, 40, wrong, 10, 41, 40, api.ErrForm)
	makesNone(t, 40, wrong, 99, 40, 40, api.ErrForm)
	makesNone(t, 40, small(), 99, 41, 40, api.ErrNone)
	makesNone(t, 40, small(), 10, 41, 40, api.ErrDate)
	many := append(small(), slices.Repeat([]api.Event{deposit(10, 1)}, maxLines)...)
	makesNone(t, 40, append(many, deposit(99, 1)), 10, 40, 40, api.ErrLong)
	makesNone(t, 40, append(many, deposit(99, 1)), 10, 41, 41, api.ErrForm) // no line lies in the span
	makesNone(t, 40, append(many, deposit(99, 1)), 11, 40, 40, api.ErrForm)
	makesNone(t, 40, many, 11, 40, 40, api.ErrNone)
	makesNone(t, 40, many, 10, 41, 40, api.ErrDate)
}

func TestNumbersOfNoAccount(t *testing.T) { // P20.1
	all := events(t, storyDay, story()...)
	for _, id := range []int64{0, -1, -10, 1, 9, 15, 99, 1000000000, 1000000001, 1 << 40, 10 + 1<<32, math.MinInt64, math.MaxInt64} {
		makesNone(t, storyDay, all, id, storyDay, storyDay+9, api.ErrNone)
	}
	least, greatest := open(1, 1), open(1000000000, 1)
	makes(t, 40, append(small(), least, deposit(1, 3)), stmt.Statement{Account: 1, From: 40, To: 40, Closing: 3, Lines: []stmt.Line{{Seq: 6, Day: 40, Op: 4, Change: 3, Balance: 3}}})
	makes(t, 40, append(small(), greatest), stmt.Statement{Account: 1000000000, From: 40, To: 40})
}

// isSound: in form, adds up, is written, and is read again from its text.
func isSound(t *testing.T, s stmt.Statement) {
	t.Helper()
	answers(t, fmt.Sprintf("Check(%v)", s), stmt.Check(s), api.OK)
	sum := s.Opening
	for _, l := range s.Lines {
		sum += l.Change
	}
	if sum != s.Closing {
		t.Fatalf("%v: Opening and the changes make %d", s, sum)
	}
	writes(t, s, textOf(s))
}

// TestSpans holds every span of days around the story, of each account, against the plain statement.
func TestSpans(t *testing.T) { // P20.1, P20.2, P20.3, P8
	all := events(t, storyDay, story()...)
	r := recordOf(t, storyDay, all)
	ops := map[byte]int{}
	for id := range r.accounts {
		for from := storyDay - 2; from <= storyDay+6; from++ {
			for to := from; to <= storyDay+6; to++ {
				want := r.plain(id, from, to)
				makes(t, storyDay, all, want)
				isSound(t, want)
				for _, l := range want.Lines {
					ops[l.Op]++
				}
				for cut := from; cut < to; cut++ { // of two spans that follow one another
					first, _ := stmt.Make(storyDay, all, id, from, cut)
					second, _ := stmt.Make(storyDay, all, id, cut+1, to)
					if first.Closing != second.Opening || first.Opening != want.Opening || second.Closing != want.Closing || !slices.Equal(slices.Concat(first.Lines, second.Lines), want.Lines) {
						t.Fatalf("the account %d: %v and %v don't make %v", id, first, second, want)
					}
				}
			}
		}
		makes(t, storyDay, all, r.plain(id, 1, lastDay))
		makes(t, storyDay, all, r.plain(id, lastDay, lastDay))
		makes(t, storyDay, all, r.plain(id, 1, 1))
	}
	for _, op := range []byte{api.OpDeposit, api.OpWithdraw, api.OpTransfer, api.OpLend, api.OpRepay, api.OpExchange, api.OpStep} {
		if ops[op] == 0 {
			t.Errorf("there is no line of the Op %d", op)
		}
	}
}

// TestEachPiece: a statement of the first events alone, all of them being asked for.
func TestEachPiece(t *testing.T) { // P20.1
	all := events(t, storyDay, story()...)
	for count := range len(all) + 1 {
		r := recordOf(t, storyDay, all[:count])
		for id := int64(9); id <= 41; id++ {
			if _, there := r.accounts[id]; !there {
				makesNone(t, storyDay, all[:count], id, storyDay, storyDay+2, api.ErrNone)
				continue
			}
			for from := storyDay - 1; from <= storyDay+2; from++ {
				makes(t, storyDay, all[:count], r.plain(id, from, storyDay+2))
			}
		}
	}
}

// TestEachOp tells the lines one by one.
func TestEachOp(t *testing.T) { // P20.1
	ahead := []api.Event{
		product(1, api.KindDeposit, api.EUR, 7, 500), product(2, api.KindDeposit, api.JPY, 0, 0), product(3, api.KindLoan, api.EUR, 0, minor),
		open(10, 1), open(11, 1), open(20, 2), open(30, 3), rate(api.EUR, api.JPY, 1605000000), deposit(10, 1000000),
	}
	const next = 10 // the number of the event behind these
	line := func(op byte, change, balance int64) []stmt.Line {
		return []stmt.Line{{Seq: next, Day: 40, Op: op, Change: change, Balance: balance}}
	}
	for _, c := range []struct {
		command api.Event
		lines   map[int64][]stmt.Line // of the accounts that change
	}{
		{deposit(10, 1), map[int64][]stmt.Line{10: line(api.OpDeposit, 1, 1000001)}},
		{withdraw(10, 1000500), map[int64][]stmt.Line{10: line(api.OpWithdraw, -1000500, -500)}},
		{transfer(10, 11, 250), map[int64][]stmt.Line{10: line(api.OpTransfer, -250, 999750), 11: line(api.OpTransfer, 250, 250)}},
		{transfer(11, 10, 250), map[int64][]stmt.Line{10: line(api.OpTransfer, 250, 1000250), 11: line(api.OpTransfer, -250, -250)}},
		{lend(30, 11, 77, 12), map[int64][]stmt.Line{30: line(api.OpLend, 77, 77), 11: line(api.OpLend, 77, 77)}},
		{exchange(10, 20, 101), map[int64][]stmt.Line{10: line(api.OpExchange, -101, 999899), 20: line(api.OpExchange, 1, 1)}},
		{exchange(10, 20, 1), map[int64][]stmt.Line{10: line(api.OpExchange, -1, 999999)}}, // nothing is got
		{product(4, api.KindDeposit, api.EUR, 0, 0), nil},
		{open(12, 1), nil},
		{shut(11), nil},
		{hold(10, 1, 5), nil},
		{rate(api.EUR, api.USD, 5), nil},
	} {
		all := events(t, 40, append(slices.Clone(ahead), c.command)...)
		for id, old := range map[int64]int64{10: 1000000, 11: 0, 20: 0, 30: 0} {
			want := stmt.Statement{Account: id, From: 40, To: 40, Closing: old}
			if id == 20 {
				want.Cur = api.JPY
			}
			if id == 10 {
				want.Lines = []stmt.Line{{Seq: next - 1, Day: 40, Op: api.OpDeposit, Change: 1000000, Balance: 1000000}}
			}
			if l := c.lines[id]; l != nil {
				want.Lines = append(want.Lines, l...)
				want.Closing = l[0].Balance
			}
			makes(t, 40, all, want)
		}
	}
	all := events(t, 40, append(ahead, lend(30, 11, 77, 12), repay(30, 10, 70), hold(11, 1, 5), free(11, 1))...)
	makes(t, 40, all, stmt.Statement{Account: 30, From: 40, To: 40, Closing: 7, Lines: []stmt.Line{{next, 40, api.OpLend, 77, 77}, {next + 1, 40, api.OpRepay, -70, 7}}})
	makes(t, 40, all, stmt.Statement{Account: 10, From: 40, To: 40, Closing: 999930, Lines: []stmt.Line{{next - 1, 40, api.OpDeposit, 1000000, 1000000}, {next + 1, 40, api.OpRepay, -70, 999930}}})
}

// TestSteps: interest and a fee are told of the day that ends; interest that is not paid yet, and nothing, are not.
func TestSteps(t *testing.T) { // P20.1
	commands := append([]api.Event{
		product(1, api.KindDeposit, api.EUR, 7, 0), product(2, api.KindLoan, api.EUR, 0, minor), open(10, 1), open(11, 1), open(20, 2),
		deposit(10, 1000000), lend(20, 10, 500000, 12),
	}, nights(3)...)
	all := events(t, january-1, commands...)
	// Events 8 to 12: Begin, a step for each of three accounts, Roll. 13: Begin; 14, 15, 16: of 10; 17 to 19: of 11; 20, 21: of 20; 22: Roll.
	makes(t, january-1, all, stmt.Statement{
		Account: 10, From: january - 1, To: january + 1, Closing: 1500293,
		Lines: []stmt.Line{
			{6, january - 1, api.OpDeposit, 1000000, 1000000}, {7, january - 1, api.OpLend, 500000, 1500000},
			{15, january, api.OpStep, 300, 1500300}, {16, january, api.OpStep, -7, 1500293},
		},
	})
	makes(t, january-1, all, stmt.Statement{Account: 11, From: january - 1, To: january + 1})
	makes(t, january-1, all, stmt.Statement{
		Account: 20, From: january, To: january, Opening: 500000, Closing: 500100,
		Lines: []stmt.Line{{21, january, api.OpStep, 100, 500100}},
	})
	makes(t, january-1, all, stmt.Statement{Account: 20, From: january + 1, To: january + 1, Opening: 500100, Closing: 500100})
}

// TestAnEndOfDayThatIsUnderWay: the day is the model's till OpRoll.
func TestAnEndOfDayThatIsUnderWay(t *testing.T) { // P20.1
	all := events(t, january, product(1, api.KindDeposit, api.EUR, 7, 0), open(10, 1), deposit(10, 10000), night())
	for count := 3; count <= len(all); count++ {
		want := stmt.Statement{Account: 10, From: january, To: january, Closing: 10000, Lines: []stmt.Line{{3, january, api.OpDeposit, 10000, 10000}}}
		if count >= 6 { // Begin, accrue, pay
			want.Lines = append(want.Lines, stmt.Line{Seq: 6, Day: january, Op: api.OpStep, Change: 1, Balance: 10001})
			want.Closing = 10001
		}
		if count >= 7 {
			want.Lines = append(want.Lines, stmt.Line{Seq: 7, Day: january, Op: api.OpStep, Change: -7, Balance: 9994})
			want.Closing = 9994
		}
		makes(t, january, all[:count], want)
		makes(t, january, all[:count], stmt.Statement{Account: 10, From: january + 1, To: january + 1, Opening: want.Closing, Closing: want.Closing})
	}
}

func TestAnAccountOpenedBehindTheSpan(t *testing.T) { // P20.1
	all := events(t, 40, append(append(small()[:1:1], nights(3)...), product(2, api.KindLoan, api.KWD, 0, 5), open(10, 1), open(20, 2), deposit(10, 9))...)
	for from := 38; from <= 42; from++ {
		for to := from; to <= 42; to++ {
			makes(t, 40, all, stmt.Statement{Account: 10, From: from, To: to})
			makes(t, 40, all, stmt.Statement{Account: 20, Cur: api.KWD, From: from, To: to})
		}
	}
	seq := int64(len(all))
	makes(t, 40, all, stmt.Statement{Account: 10, From: 40, To: 43, Closing: 9, Lines: []stmt.Line{{seq, 43, api.OpDeposit, 9, 9}}})
	makes(t, 40, all, stmt.Statement{Account: 10, From: 43, To: 43, Closing: 9, Lines: []stmt.Line{{seq, 43, api.OpDeposit, 9, 9}}})
	makes(t, 40, all, stmt.Statement{Account: 10, From: 44, To: 44, Opening: 9, Closing: 9})
}

func TestManyLines(t *testing.T) { // P20.1, P20.2, P20.3
	many := append(small()[:2:2], slices.Repeat([]api.Event{deposit(10, 1)}, maxLines)...)
	want := run(maxLines)
	for i := range want.Lines {
		want.Lines[i].Seq += 2
	}
	makes(t, 40, many, want)
	isSound(t, want)
	more := append(many, deposit(10, 1))
	makesNone(t, 40, more, 10, 40, 40, api.ErrLong)
	makesNone(t, 40, more, 10, 1, lastDay, api.ErrLong)
	makes(t, 40, more, stmt.Statement{Account: 10, From: 41, To: 41, Opening: maxLines + 1, Closing: maxLines + 1})
	makes(t, 40, more, stmt.Statement{Account: 10, From: 39, To: 39})
	want.From, want.To = 39, 41
	makes(t, 40, append(many, open(11, 1), deposit(11, 1), hold(10, 1, 1)), want) // what tells no line counts nothing
	later := events(t, 40, append(slices.Clone(many), night(), deposit(10, 1), deposit(10, 1))...)
	want.From = 40
	want.To = 40
	makes(t, 40, later, want)
	makesNone(t, 40, later, 10, 40, 41, api.ErrLong)
	if s, e := stmt.Make(40, later, 10, 41, 41); e != api.OK || len(s.Lines) != 2 || s.Opening != maxLines {
		t.Errorf("of the second day Make answers %v, error %d", s, e)
	}
}

// TestLongRuns: commands made up at random, over some months.
func TestLongRuns(t *testing.T) { // P20.1, P20.2, P20.3, P8
	const start = 738940
	lines := 0
	for seed := range int64(8) {
		c := rand.New(rand.NewSource(seed))
		m, _ := model.New(start)
		var all []api.Event
		happen := func(e api.Event, refused api.Errno) {
			if refused == api.OK {
				answers(t, fmt.Sprint(e), m.Apply(e), api.OK)
				all = append(all, e)
			}
		}
		for id := int64(1); id <= 8; id++ {
			p := product(id, 1+id%3/2, id%4, c.Int63n(200), c.Int63n(minor))
			p.Tiers[0].Rate = c.Int63n(1000000001)
			happen(p, api.OK)
			happen(open(100*id, id), api.OK)
			happen(open(100*id+1, id), api.OK)
		}
		for range 1500 {
			if m.Running() || c.Intn(12) == 0 {
				happen(m.Next())
				continue
			}
			e, _, refused := m.Plan(anyCommand(c))
			happen(e, refused)
		}
		r := recordOf(t, start, all)
		for id := range r.accounts {
			for range 4 {
				from := start - 1 + c.Intn(m.Day()-start+3)
				to := from + c.Intn(m.Day()+2-from+1)
				want := r.plain(id, from, to)
				makes(t, start, all, want)
				isSound(t, want)
				lines += len(want.Lines)
			}
		}
	}
	if lines < 1000 {
		t.Errorf("there were but %d lines", lines)
	}
}

func anyCommand(c *rand.Rand) api.Event {
	id := func() int64 { return 100*(1+c.Int63n(8)) + c.Int63n(2) }
	pair := c.Intn(3) // a loan, and a deposit of the same currency
	loan, own := []int64{200, 500, 800}[pair]+c.Int63n(2), []int64{600, 100, 400}[pair]+c.Int63n(2)
	amount := 1 + c.Int63n(1+c.Int63n(1+c.Int63n(minor)))
	switch c.Intn(9) {
	case 0:
		return withdraw(id(), amount)
	case 1:
		return transfer(id(), id(), amount)
	case 2:
		return hold(id(), 1+c.Int63n(4), amount)
	case 3:
		return free(id(), 1+c.Int63n(4))
	case 4:
		return lend(loan, own, amount, 1+c.Int63n(480))
	case 5:
		return repay(loan, own, 1+amount%1000)
	case 6:
		return rate(c.Int63n(4), c.Int63n(4), 1+c.Int63n(1+c.Int63n(1000000000000)))
	case 7:
		return exchange(id(), id(), amount)
	}
	return deposit(id(), amount)
}
