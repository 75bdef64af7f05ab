package batch_test

import (
	"testing"

	"passbook/api"
	"passbook/batch"
)

// scribble: all over a list of events, their tiers and the spare room too.
func scribble(l []api.Event) {
	l = l[:cap(l)]
	for i := range l {
		tiers := l[i].Tiers[:cap(l[i].Tiers)]
		for k := range tiers {
			tiers[k] = api.Tier{From: -77, Rate: -77}
		}
		l[i] = api.Event{Op: 77, Key: 77, N: [8]int64{77, 77, 77, 77, 77, 77, 77, 77}}
	}
}

// TestAnswersAreNewMemory: each of them is written over, while the others stand.
func TestAnswersAreNewMemory(t *testing.T) { // the rules of memory
	for _, s := range settings(t) {
		for size := 1; size <= s.events+1; size++ {
			m := s.bank(t)
			events := expected(m)
			var pieces [][]api.Event
			for place := 0; place < len(events); place += size {
				first, _ := batch.Due(m)
				second, _ := batch.Due(m)
				piece, _, _ := batch.Run(m, size)
				scribble(first)
				end := min(place+size, len(events))
				if !sameEvents(second, events[place:]) || !sameEvents(piece, events[place:end]) {
					t.Fatalf("%s: an answer shares memory with another one", s.name)
				}
				scribble(second)
				pieces = append(pieces, piece)
			}
			for i, piece := range pieces {
				if !sameEvents(piece, events[i*size:][:len(piece)]) {
					t.Fatalf("%s: the piece %d shares memory with another answer", s.name, i)
				}
				scribble(piece)
			}
			alike(t, m, s.after(t, s.events))
		}
	}
}

// TestAPieceIsNotKept: what Run answered is written over between the pieces.
func TestAPieceIsNotKept(t *testing.T) { // the rules of memory
	for _, s := range settings(t) {
		for size := 1; size <= s.events; size++ {
			m := s.bank(t)
			events := expected(m)
			for place := 0; place < len(events); place += size {
				piece, end, e := batch.Run(m, size)
				last := min(place+size, len(events))
				if e != api.OK || end != (last == len(events)) || !sameEvents(piece, events[place:last]) {
					t.Fatalf("%s: Run(%d) = %v, %v, error %d; want %v", s.name, size, piece, end, e, events[place:last])
				}
				scribble(piece)
				due, _ := batch.Due(m)
				scribble(due)
				alike(t, m, s.after(t, last))
			}
		}
	}
}
