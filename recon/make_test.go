package recon_test

import (
	"fmt"
	"math"
	"math/big"
	"math/rand"
	"reflect"
	"slices"
	"testing"

	"passbook/api"
	"passbook/event"
	"passbook/model"
	"passbook/recon"
)

func TestDays(t *testing.T) { // P21.2
	for _, day := range []int{0, -1, lastDay + 1, 2 * lastDay, math.MinInt, math.MaxInt} {
		reportsNone(t, day, nil, api.ErrArg)
		reportsNone(t, day, small(), api.ErrArg)
		reportsNone(t, day, []api.Event{{}}, api.ErrArg)
	}
	for _, day := range []int{1, 2, lastDay - 1, lastDay} {
		reports(t, day, nil, recon.Report{Agrees: true})
		reports(t, day, small(), recon.Report{Events: 4, Deposits: [4]int64{700}, Cash: [4]int64{700}, Agrees: true})
	}
}

func TestNoEvents(t *testing.T) { // P21.2, P21.3
	for _, none := range [][]api.Event{nil, {}, make([]api.Event, 0, 3)} {
		reports(t, 40, none, recon.Report{Agrees: true})
	}
}

func TestEventsThatCannotHappen(t *testing.T) { // P21.2
	right := events(t, storyDay, story()...)
	for _, wrong := range []api.Event{
		{}, {Op: 16}, {Op: 255}, cmd(api.OpRoll, 34), cmd(api.OpRoll, 35), cmd(api.OpStep, 10, 1, 0), cmd(api.OpBegin, 35), cmd(api.OpBegin),
		open(10, 1), open(0, 1), open(99, 9), shut(10), shut(13), deposit(10, 0), deposit(13, 5), deposit(99, 5), deposit(10, minor),
		withdraw(10, minor), withdraw(99, 1), transfer(10, 20, 5), hold(10, 0, 5), free(10, 5), lend(30, 10, 5, 12), repay(30, 10, minor),
		rate(0, 0, 5), exchange(10, 20, 101), keyed(7, deposit(10, 1)), tiers(deposit(10, 1), api.Tier{}), product(1, api.KindDeposit, api.EUR, 7, 500),
	} {
		reportsNone(t, storyDay, append(slices.Clone(right), wrong), api.ErrForm)
		reportsNone(t, storyDay, append(slices.Clone(right), wrong, deposit(10, 1)), api.ErrForm)
		if wrong.Op != api.OpProduct {
			reportsNone(t, storyDay, []api.Event{wrong}, api.ErrForm)
		}
	}
	reportsNone(t, storyDay+1, right, api.ErrForm) // OpBegin is told the day
	reportsNone(t, storyDay, right[1:], api.ErrForm)
}

// TestEachOp tells what changes, one by one.
func TestEachOp(t *testing.T) { // P21.2, P21.3
	ahead := []api.Event{
		product(1, api.KindDeposit, api.EUR, 7, 500), product(2, api.KindDeposit, api.JPY, 0, 0), product(3, api.KindLoan, api.EUR, 0, minor),
		open(10, 1), open(11, 1), open(20, 2), open(30, 3), rate(api.EUR, api.JPY, 1605000000), deposit(10, 1000000),
	}
	for _, c := range []struct {
		commands              []api.Event
		deposits, loans, cash [4]int64
	}{
		{[]api.Event{deposit(10, 1)}, [4]int64{1000001}, [4]int64{}, [4]int64{1000001}},
		{[]api.Event{deposit(20, 3)}, [4]int64{1000000, 0, 3}, [4]int64{}, [4]int64{1000000, 0, 3}},
		{[]api.Event{withdraw(10, 1000500)}, [4]int64{-500}, [4]int64{}, [4]int64{-500}},
		{[]api.Event{transfer(10, 11, 250)}, [4]int64{1000000}, [4]int64{}, [4]int64{1000000}},
		{[]api.Event{lend(30, 11, 77, 12)}, [4]int64{1000077}, [4]int64{77}, [4]int64{1000000}},
		{[]api.Event{lend(30, 11, 77, 12), repay(30, 10, 70)}, [4]int64{1000007}, [4]int64{7}, [4]int64{1000000}},
		{[]api.Event{exchange(10, 20, 1001)}, [4]int64{998999, 0, 16}, [4]int64{}, [4]int64{1000000}},
		{[]api.Event{exchange(10, 20, 1001), withdraw(20, 5)}, [4]int64{998999, 0, 11}, [4]int64{}, [4]int64{1000000, 0, -5}},
		{[]api.Event{exchange(10, 20, 1)}, [4]int64{999999}, [4]int64{}, [4]int64{1000000}},
		{[]api.Event{hold(10, 1, 5)}, [4]int64{1000000}, [4]int64{}, [4]int64{1000000}},
		{[]api.Event{hold(10, 1, 5), free(10, 1)}, [4]int64{1000000}, [4]int64{}, [4]int64{1000000}},
		{[]api.Event{open(12, 1), shut(12), product(4, api.KindLoan, api.KWD, 0, 5)}, [4]int64{1000000}, [4]int64{}, [4]int64{1000000}},
		{[]api.Event{night()}, [4]int64{1000093}, [4]int64{}, [4]int64{1000000}}, // 100 of interest, 7 of fees
		{[]api.Event{lend(30, 11, 1000000, 12), night(), withdraw(11, 3)}, [4]int64{2000183}, [4]int64{1000100}, [4]int64{999997}},
	} {
		all := events(t, january, append(slices.Clone(ahead), c.commands...)...)
		reports(t, january, all, recon.Report{Events: len(all), Deposits: c.deposits, Loans: c.loans, Cash: c.cash, Agrees: true})
	}
}

// plainReport: of events that can happen, by the document's words.
func plainReport(t *testing.T, start int, events []api.Event) recon.Report {
	t.Helper()
	m, e := model.New(start)
	answers(t, "New", e, api.OK)
	for _, one := range events {
		answers(t, fmt.Sprint(one), m.Apply(one), api.OK)
	}
	r := recon.Report{Events: len(events)}
	curs := map[int64]int{}
	for _, a := range m.Accounts() {
		curs[a.ID] = a.Cur
		if a.Kind == api.KindDeposit {
			r.Deposits[a.Cur] += a.Balance
		} else {
			r.Loans[a.Cur] += a.Balance
		}
	}
	for _, one := range events {
		switch one.Op {
		case api.OpDeposit:
			r.Cash[curs[one.N[0]]] += one.N[1]
		case api.OpWithdraw:
			r.Cash[curs[one.N[0]]] -= one.N[1]
		}
	}
	r.Agrees = plainAgrees(m.Trial(), m.Accounts())
	for cur := range 4 {
		cash := new(big.Int)
		for _, l := range m.Trial() {
			if l.Code == api.Cash && l.Cur == cur {
				cash.Add(cash, finest(l.Amount))
			}
		}
		r.Agrees = r.Agrees && cash.Cmp(new(big.Int).Mul(big.NewInt(r.Cash[cur]), power(12))) == 0
	}
	if !r.Agrees {
		t.Fatalf("the plain report of %v doesn't agree: %v", events, r)
	}
	return r
}

func TestEachPieceOfTheStory(t *testing.T) { // P21.2, P21.3
	all := events(t, storyDay, story()...)
	ops := map[byte]bool{}
	for count := range len(all) + 1 {
		reports(t, storyDay, all[:count], plainReport(t, storyDay, all[:count]))
		if count > 0 {
			ops[all[count-1].Op] = true
		}
	}
	if len(ops) != 15 {
		t.Errorf("the story has events of %d kinds", len(ops))
	}
	last := plainReport(t, storyDay, all)
	for cur := range 4 {
		if last.Deposits[cur] == 0 || last.Cash[cur] == 0 {
			t.Errorf("in the end the currency %d has nothing: %v", cur, last)
		}
	}
}

// TestLongRuns: commands made up at random, over some months.
func TestLongRuns(t *testing.T) { // P21.2, P21.3, P4
	const start = 738940
	ops := map[byte]int{}
	for seed := range int64(12) {
		c := rand.New(rand.NewSource(seed))
		m, _ := model.New(start)
		var all []api.Event
		happen := func(e api.Event, refused api.Errno) {
			if refused == api.OK {
				answers(t, fmt.Sprint(e), m.Apply(e), api.OK)
				all = append(all, e)
				ops[e.Op]++
			}
		}
		for id := int64(1); id <= 8; id++ {
			p := product(id, 1+id%3/2, id%4, c.Int63n(200), c.Int63n(minor))
			p.Tiers[0].Rate = c.Int63n(1000000001)
			happen(p, api.OK)
			happen(open(100*id, id), api.OK)
			happen(open(100*id+1, id), api.OK)
		}
		for range 1500 {
			if m.Running() || c.Intn(12) == 0 {
				happen(m.Next())
			} else if e, _, refused := m.Plan(anyCommand(c)); refused == api.OK {
				happen(e, refused)
			}
			if c.Intn(100) == 0 {
				reports(t, start, all, plainReport(t, start, all))
			}
		}
		reports(t, start, all, plainReport(t, start, all))
	}
	for op := api.OpDeposit; op <= api.OpRoll; op++ {
		if ops[op] < 10 {
			t.Errorf("the Op %d happened %d times", op, ops[op])
		}
	}
}

func anyCommand(c *rand.Rand) api.Event {
	id := func() int64 { return 100*(1+c.Int63n(8)) + c.Int63n(2) }
	pair := c.Intn(3) // a loan, and a deposit of the same currency
	loan, own := []int64{200, 500, 800}[pair]+c.Int63n(2), []int64{600, 100, 400}[pair]+c.Int63n(2)
	amount := 1 + c.Int63n(1+c.Int63n(1+c.Int63n(minor)))
	switch c.Intn(12) {
	case 0, 1:
		return withdraw(id(), amount)
	case 2:
		return transfer(id(), id(), amount)
	case 3:
		return hold(id(), 1+c.Int63n(4), amount)
	case 4:
		return free(id(), 1+c.Int63n(4))
	case 5, 6:
		return lend(loan, own, amount, 1+c.Int63n(480))
	case 7:
		return repay(loan, own, 1+amount%1000)
	case 8:
		return rate(c.Int63n(4), c.Int63n(4), 1+c.Int63n(1+c.Int63n(1000000000000)))
	case 9:
		return exchange(id(), id(), amount)
	}
	return deposit(id(), amount)
}

func TestTheGreatestBalances(t *testing.T) { // P21.2, P21.3
	commands := []api.Event{product(1, api.KindDeposit, api.EUR, 0, minor), product(2, api.KindLoan, api.EUR, 0, minor)}
	for id := int64(1); id <= 128; id++ {
		commands = append(commands, open(id, 1), open(1000+id, 2), lend(1000+id, id, minor, 1), withdraw(id, minor), withdraw(id, minor))
	}
	all := events(t, 40, commands...)
	const sum = 128 * int64(minor)
	reports(t, 40, all, recon.Report{Events: len(all), Deposits: [4]int64{-sum}, Loans: [4]int64{sum}, Cash: [4]int64{-2 * sum}, Agrees: true})
}

// roomy: the list in a longer one, of which it is the front.
func roomy[T any](l []T, spare T) ([]T, []T) {
	whole := slices.Clip(append(slices.Clone(l), spare, spare, spare))
	return whole[:len(l)], whole
}

func TestWhatIsHandedInComesBackUntouched(t *testing.T) { // the rules of memory
	rightLines, rightAccounts := books()
	for _, wrong := range []bool{false, true} {
		lines, wholeLines := roomy(rightLines, line(5, 5, 55))
		accounts, wholeAccounts := roomy(rightAccounts, own(5, 55))
		if wrong {
			lines[3].Code, accounts[3].Kind = 0, 0
		}
		linesBefore, accountsBefore := slices.Clone(wholeLines), slices.Clone(wholeAccounts)
		recon.Agrees(lines, accounts)
		recon.Agrees(lines[1:], accounts)
		if !slices.Equal(wholeLines, linesBefore) || !slices.Equal(wholeAccounts, accountsBefore) {
			t.Errorf("the lines, the accounts, or the room behind them have changed")
		}
		handed, wholeEvents := roomy(events(t, storyDay, story()...), deposit(5, 55))
		if wrong {
			handed[len(handed)-1] = deposit(99, 1)
		}
		var rooms, roomsBefore [][]api.Tier
		for i := range handed {
			if handed[i].Op == api.OpProduct {
				var room []api.Tier
				handed[i].Tiers, room = roomy(handed[i].Tiers, api.Tier{From: 5, Rate: 55})
				rooms, roomsBefore = append(rooms, room), append(roomsBefore, slices.Clone(room))
			}
		}
		eventsBefore := slices.Clone(wholeEvents)
		first, _ := recon.Make(storyDay, handed)
		if !slices.EqualFunc(wholeEvents, eventsBefore, event.Same) || !reflect.DeepEqual(rooms, roomsBefore) {
			t.Errorf("the events, their tiers, or the room behind them have changed")
		}
		if again, _ := recon.Make(storyDay, handed); again != first {
			t.Errorf("asked again, Make answers %v behind %v", again, first)
		}
	}
}
