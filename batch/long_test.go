package batch_test

import (
	"math/rand"
	"testing"

	"passbook/api"
	"passbook/model"
)

// anyCommand: mostly one that is taken.
func anyCommand(r *rand.Rand) api.Event {
	id, other := 1+r.Int63n(30), 1+r.Int63n(30)
	amount := 1 + r.Int63n(1+r.Int63n(1+r.Int63n(1000000000)))
	switch r.Intn(12) {
	case 0, 1:
		return open(id, 1+r.Int63n(4))
	case 2:
		return shut(id)
	case 3, 4, 5:
		return deposit(id, amount)
	case 6, 7:
		return withdraw(id, amount)
	case 8:
		return hold(id, 1+r.Int63n(5), amount)
	case 9:
		return cmd(api.OpFree, id, 1+r.Int63n(5))
	case 10:
		return lend(id, other, amount)
	}
	return cmd(api.OpRepay, id, other, amount)
}

// told: the same command to both models, which answer alike.
func told(t *testing.T, a, b *model.Model, c api.Event) {
	t.Helper()
	planned, _, refused := a.Plan(c)
	if _, _, other := b.Plan(c); other != refused {
		t.Fatalf("Plan(%v): errors %d and %d", c, refused, other)
	}
	if refused == api.OK && (a.Apply(planned) != api.OK || b.Apply(planned) != api.OK) {
		t.Fatalf("%v is not applied", planned)
	}
}

// TestLongRuns: two banks that are told the same, the one with each end of day in one piece, the other in pieces.
func TestLongRuns(t *testing.T) { // P18.1, P18.2, P18.3, P6
	const banks, days = 12, 70
	steps, closed := map[int64]int{}, 0
	for seed := range int64(banks) {
		r := rand.New(rand.NewSource(seed))
		s := setting{day: dayOf(t, "2024-01-20") + r.Intn(365), commands: []api.Event{deposits(1, api.EUR, 0), deposits(2, api.EUR, 5000), deposits(3, api.EUR, minor), loans(4, api.EUR, minor)}}
		whole, cut := s.bank(t), s.bank(t)
		for range days {
			for range r.Intn(20) {
				told(t, whole, cut, anyCommand(r))
			}
			want := expected(whole)
			isDue(t, cut, want)
			runs(t, whole, maxSteps, want, true)
			if got := inPieces(t, cut, func() int { return 1 + r.Intn(1+r.Intn(40)) }); !sameEvents(got, want) {
				t.Fatalf("bank %d, day %d: %v; want %v", seed, whole.Day(), got, want)
			}
			alike(t, cut, whole)
			for _, e := range want {
				if e.Op == api.OpStep && e.N[2] > 0 {
					steps[e.N[1]]++
				}
			}
		}
		for _, a := range whole.Accounts() {
			if !a.Open {
				closed++
			}
		}
	}
	if min(steps[1], steps[2], steps[3], closed) < 20 {
		t.Errorf("of the stages so many steps had an amount: %v; %d accounts were closed", steps, closed)
	}
}
