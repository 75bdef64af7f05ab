package batch_test

import (
	"math"
	"testing"

	"passbook/api"
	"passbook/batch"
	"passbook/model"
)

// noCounts: what n may not be.
func noCounts() []int {
	return []int{0, -1, -2, -maxSteps, maxSteps + 1, maxSteps + 2, 2 * maxSteps, 1 << 32, 1<<32 + 1, -1 << 32, math.MaxInt, math.MinInt, math.MaxInt - 1, math.MinInt + 1, math.MaxInt32, math.MinInt32}
}

func TestTheChaptersExample(t *testing.T) { // P18.1, P18.2
	m := bank(t, 40, deposits(1, api.EUR, 0), open(1, 1), open(2, 1))
	isDue(t, m, []api.Event{begin(40), step(1, 1, 0), step(2, 1, 0), roll(41)})
	runs(t, m, 3, []api.Event{begin(40), step(1, 1, 0), step(2, 1, 0)}, false)
	isDue(t, m, []api.Event{roll(41)})
	runs(t, m, 9, []api.Event{roll(41)}, true)
	isDue(t, m, []api.Event{begin(41), step(1, 1, 0), step(2, 1, 0), roll(42)})
}

// TestAMonthsLastDay: amounts that are worked out by hand.
func TestAMonthsLastDay(t *testing.T) { // P18.1, P18.2
	m := bank(t, dayOf(t, "2024-01-30"), deposits(2, api.EUR, 500), loans(3, api.EUR, minor),
		open(30, 2), open(20, 3), open(10, 2), open(15, 2), shut(15), deposit(10, 1004000), lend(20, 30, 3000000), withdraw(30, 3000500))
	day := int64(m.Day())
	runs(t, m, 5, []api.Event{begin(day), step(10, 1, 100400000), step(20, 1, 300000000), step(30, 1, 0), roll(day + 1)}, true)
	isDue(t, m, []api.Event{begin(day + 1), step(10, 1, 100400000), step(10, 2, 200), step(10, 3, 7), step(20, 1, 300000000), step(20, 2, 600),
		step(30, 1, 0), step(30, 2, 0), step(30, 3, 0), roll(day + 2)})
	runs(t, m, 4, []api.Event{begin(day + 1), step(10, 1, 100400000), step(10, 2, 200), step(10, 3, 7)}, false)
	runs(t, m, 5, []api.Event{step(20, 1, 300000000), step(20, 2, 600), step(30, 1, 0), step(30, 2, 0), step(30, 3, 0)}, false)
	runs(t, m, 1, []api.Event{roll(day + 2)}, true)
	isDue(t, m, []api.Event{begin(day + 2), step(10, 1, 100419300), step(20, 1, 300060000), step(30, 1, 0), roll(day + 3)})
	for id, want := range map[int64][2]int64{10: {1004193, 800000}, 15: {0, 0}, 20: {3000600, 0}, 30: {-500, 0}} {
		if a, _ := m.Account(id); a.Balance != want[0] || a.Accrued != want[1] {
			t.Errorf("Account(%d) = %v; want the balance %d, %d accrued", id, a, want[0], want[1])
		}
	}
}

// TestInOnePiece: the least n and the greatest one among others.
func TestInOnePiece(t *testing.T) { // P18.1
	for _, s := range append(settings(t), large(t)) {
		for _, n := range []int{s.events, s.events + 1, 2*s.events + 1, maxSteps - 1, maxSteps} {
			m := s.bank(t)
			events := expected(m)
			if len(events) != s.events {
				t.Fatalf("%s: %d events; want %d", s.name, len(events), s.events)
			}
			runs(t, m, n, events, true)
			alike(t, m, s.after(t, s.events))
			if m.Day() != s.day+1 {
				t.Errorf("%s: Day = %d behind %d", s.name, m.Day(), s.day)
			}
		}
		m := s.bank(t)
		runs(t, m, 1, expected(m)[:1], false)
		alike(t, m, s.after(t, 1))
	}
}

// TestFromEveryPlace: n just as many as are left, one less, one more, and others.
func TestFromEveryPlace(t *testing.T) { // P18.1
	for _, s := range settings(t) {
		events := expected(s.bank(t))
		for place := range events {
			left := len(events) - place
			for _, n := range []int{1, 2, left - 1, left, left + 1, maxSteps} {
				if n == 0 {
					continue
				}
				m := s.after(t, place)
				runs(t, m, n, events[place:][:min(n, left)], n >= left)
				alike(t, m, s.after(t, place+min(n, left)))
			}
		}
	}
}

func TestRunEndsAtItsRoll(t *testing.T) { // P18.1: the next day is another end of day
	m := bank(t, 30, deposits(1, api.EUR, 0), open(1, 1))
	for day := 30; day < 100; day++ {
		events := expected(m)
		runs(t, m, maxSteps, events, true)
		if m.Day() != day+1 {
			t.Fatalf("Day = %d; want %d", m.Day(), day+1)
		}
	}
}

// TestWrongCounts: ahead of an end of day, at each of its steps, and behind it.
func TestWrongCounts(t *testing.T) { // ErrArg; P7
	for _, s := range settings(t) {
		for place := range s.events + 1 {
			m := s.after(t, place)
			for _, n := range noCounts() {
				refuses(t, m, n, api.ErrArg)
			}
			alike(t, m, s.after(t, place))
		}
	}
}

func TestANilModel(t *testing.T) { // ErrNone; a wrong n has the lesser number
	var m *model.Model
	for _, n := range []int{1, 2, 9, maxSteps - 1, maxSteps} {
		refuses(t, m, n, api.ErrNone)
	}
	for _, n := range noCounts() {
		refuses(t, m, n, api.ErrArg)
	}
	dueRefuses(t, m, api.ErrNone)
}

func TestTheCalendarsLastDay(t *testing.T) { // ErrDate; a wrong n has the lesser number
	for _, commands := range [][]api.Event{nil, {deposits(1, api.EUR, 0), open(10, 1), shut(10)}, allKinds()} {
		s := setting{day: lastDay, commands: commands}
		m := s.bank(t)
		for _, n := range []int{1, 2, 9, maxSteps - 1, maxSteps} {
			refuses(t, m, n, api.ErrDate)
		}
		for _, n := range noCounts() {
			refuses(t, m, n, api.ErrArg)
		}
		dueRefuses(t, m, api.ErrDate)
		alike(t, m, s.bank(t))
		happen(t, m, deposits(9, api.USD, 0), open(99, 9), deposit(99, 5)) // commands go on
		dueRefuses(t, m, api.ErrDate)
	}
}

func TestTheDayAheadOfTheCalendarsLast(t *testing.T) { // P18.1, P18.2
	for _, n := range []int{1, 2, 3, 11, 12, 13, maxSteps} {
		m := bank(t, lastDay-1, allKinds()...)
		events := expected(m)
		for place := 0; place < len(events); place += n {
			isDue(t, m, events[place:])
			end := min(place+n, len(events))
			runs(t, m, n, events[place:end], end == len(events))
		}
		if m.Day() != lastDay || m.Running() {
			t.Errorf("Day = %d, Running %v", m.Day(), m.Running())
		}
		refuses(t, m, n, api.ErrDate)
		dueRefuses(t, m, api.ErrDate)
	}
}

// TestGoingOnByHand: it is one and the same end of day, whoever applies its events.
func TestGoingOnByHand(t *testing.T) { // P18.1
	for _, s := range settings(t) {
		m := s.bank(t)
		events := expected(m)
		for place := 0; place < len(events); {
			goOn(t, m, 1)
			place++
			n := min(2, len(events)-place)
			if n > 0 {
				runs(t, m, n, events[place:place+n], place+n == len(events))
			}
			place += n
		}
		alike(t, m, s.after(t, s.events))
	}
}

// TestModelsDoNotMeet: what is told of one model hangs on no other one.
func TestModelsDoNotMeet(t *testing.T) { // P2
	all := settings(t)
	var models []*model.Model
	var events [][]api.Event
	for _, s := range all {
		models = append(models, s.bank(t))
		events = append(events, expected(models[len(models)-1]))
	}
	for range maxSteps {
		over := true
		for i, m := range models {
			if len(events[i]) == 0 {
				continue
			}
			over = false
			n := min(1+i%3, len(events[i]))
			runs(t, m, 1+i%3, events[i][:n], n == len(events[i]))
			events[i] = events[i][n:]
			batch.Run(nil, 1)
		}
		if over {
			break
		}
	}
	for i, s := range all {
		alike(t, models[i], s.after(t, s.events))
	}
}
