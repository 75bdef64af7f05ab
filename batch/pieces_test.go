package batch_test

import (
	"testing"

	"passbook/api"
	"passbook/batch"
	"passbook/model"
)

// inPieces: the end of day goes on by so many events each time; true of the last piece alone, which is at its end.
func inPieces(t *testing.T, m *model.Model, sizes func() int) []api.Event {
	t.Helper()
	var happened []api.Event
	for {
		left, _ := batch.Left(m)
		n := sizes()
		piece, end, e := batch.Run(m, n)
		if e != api.OK || len(piece) != min(n, left) || end != (n >= left) || m.Running() == end {
			t.Fatalf("Run(%d) of %d = %v, %v, error %d; Running %v", n, left, piece, end, e, m.Running())
		}
		happened = append(happened, piece...)
		if end {
			return happened
		}
	}
}

// always: pieces of one size.
func always(size int) func() int { return func() int { return size } }

// inTurn: pieces of these sizes, and then of one event each.
func inTurn(sizes []int) func() int {
	return func() int {
		if len(sizes) == 0 {
			return 1
		}
		n := sizes[0]
		sizes = sizes[1:]
		return n
	}
}

// isWhole: the pieces bring the events of the whole, and its model.
func isWhole(t *testing.T, s setting, whole *model.Model, want []api.Event, sizes func() int) {
	t.Helper()
	m := s.bank(t)
	if got := inPieces(t, m, sizes); !sameEvents(got, want) {
		t.Fatalf("%s: %v; want %v", s.name, got, want)
	}
	alike(t, m, whole)
}

func TestPiecesOfEverySize(t *testing.T) { // P18.3
	for _, s := range settings(t) {
		whole := s.bank(t)
		want := expected(whole)
		runs(t, whole, maxSteps, want, true)
		for size := 1; size <= s.events+1; size++ {
			isWhole(t, s, whole, want, always(size))
		}
	}
}

func TestPiecesOfAFullBank(t *testing.T) { // P18.3
	s := large(t)
	whole := s.bank(t)
	want := expected(whole)
	runs(t, whole, maxSteps, want, true)
	for _, size := range []int{1, 2, 3, 4, 5, 7, 64, 255, 256, 257, 384, 385, 386, 767, 768, 769, 770, 771, 4095, maxSteps} {
		isWhole(t, s, whole, want, always(size))
	}
}

// TestEveryCut: every way to cut an end of day of up to ten events, and every two cuts of a longer one.
func TestEveryCut(t *testing.T) { // P18.3
	for _, s := range settings(t) {
		whole := s.bank(t)
		want := expected(whole)
		runs(t, whole, maxSteps, want, true)
		if s.events <= 10 {
			for cuts := range 1 << (s.events - 1) {
				isWhole(t, s, whole, want, inTurn(sizesOf(cuts, s.events)))
			}
			continue
		}
		for first := 1; first < s.events; first++ {
			for second := 1; first+second <= s.events; second++ {
				isWhole(t, s, whole, want, inTurn([]int{first, second, maxSteps}))
			}
		}
	}
}

// sizesOf: bit by bit, is there a cut behind the event?
func sizesOf(cuts, events int) []int {
	sizes := []int{1}
	for i := range events - 1 {
		if cuts>>i&1 == 1 {
			sizes = append(sizes, 1)
		} else {
			sizes[len(sizes)-1]++
		}
	}
	return sizes
}

// TestEachStepOnce: no account and no stage of it comes twice, and none is left out.
func TestEachStepOnce(t *testing.T) { // P18.3, P6
	type place struct{ account, stage int64 }
	for _, s := range append(settings(t), large(t)) {
		for size := 1; size <= 5; size++ {
			m := s.bank(t)
			met := map[place]int{}
			for _, e := range expected(m) {
				met[place{e.N[0], e.N[1]}]--
			}
			for _, e := range inPieces(t, m, always(size)) {
				met[place{e.N[0], e.N[1]}]++
			}
			for step, times := range met {
				if times != 0 {
					t.Errorf("%s, pieces of %d: %v %+d times", s.name, size, step, times)
				}
			}
		}
	}
}

// TestRefusedInBetween: what is refused between two pieces leaves the end of day as it was.
func TestRefusedInBetween(t *testing.T) { // P18.3, P7
	for _, s := range settings(t) {
		whole := s.bank(t)
		want := expected(whole)
		runs(t, whole, maxSteps, want, true)
		for size := 1; size <= 3; size++ {
			m := s.bank(t)
			got := inPieces(t, m, func() int {
				refuses(t, m, 0, api.ErrArg)
				refuses(t, m, maxSteps+1, api.ErrArg)
				return size
			})
			if !sameEvents(got, want) {
				t.Fatalf("%s: %v; want %v", s.name, got, want)
			}
			alike(t, m, whole)
		}
	}
}

// TestAYear: day behind day, in pieces and whole, over the ends of two years and a leap day.
func TestAYear(t *testing.T) { // P18.3, P6
	s := setting{day: dayOf(t, "2023-12-29"), commands: allKinds()}
	whole, cut := s.bank(t), s.bank(t)
	total := int64(len(s.commands))
	for day := range 370 {
		want := expected(whole)
		runs(t, whole, maxSteps, want, true)
		if got := inPieces(t, cut, always(1+day%37)); !sameEvents(got, want) {
			t.Fatalf("day %d: %v; want %v", whole.Day(), got, want)
		}
		alike(t, cut, whole)
		total += int64(len(want))
	}
	if whole.Day() != s.day+370 || whole.Seq() != total || total != int64(len(s.commands))+370*12+13*18 { // thirteen months end
		t.Errorf("Day = %d, Seq = %d", whole.Day(), whole.Seq())
	}
}
