package stmt_test

import (
	"reflect"
	"slices"
	"testing"

	"passbook/api"
	"passbook/event"
	"passbook/stmt"
)

// roomy: the list in a longer one, of which it is the front.
func roomy[T any](l []T, spare T) ([]T, []T) {
	whole := slices.Clip(append(slices.Clone(l), spare, spare, spare))
	return whole[:len(l)], whole
}

// scribble: all over a list, the spare room behind it too.
func scribble[T any](l []T, with T) {
	l = l[:cap(l)]
	for i := range l {
		l[i] = with
	}
}

func wild() stmt.Line { return stmt.Line{Seq: -77, Balance: -77} }

func deepCopy(l []api.Event) []api.Event {
	out := slices.Clone(l)
	for i := range out {
		out[i].Tiers = slices.Clone(out[i].Tiers)
	}
	return out
}

func TestEventsComeBackUntouched(t *testing.T) { // the rules of memory
	right := events(t, storyDay, story()...)
	for _, wrong := range [][]api.Event{nil, {deposit(99, 1)}} {
		handed, whole := roomy(append(deepCopy(right), wrong...), deposit(5, 55))
		rooms := [][]api.Tier{}
		for i := range handed {
			if handed[i].Op == api.OpProduct {
				var room []api.Tier
				handed[i].Tiers, room = roomy(handed[i].Tiers, api.Tier{From: 5, Rate: 55})
				rooms = append(rooms, room)
			}
		}
		before, tiersBefore := deepCopy(whole), [][]api.Tier{}
		for _, room := range rooms {
			tiersBefore = append(tiersBefore, slices.Clone(room))
		}
		for _, id := range []int64{10, 20, 99} {
			stmt.Make(storyDay, handed, id, storyDay, storyDay+1)
			stmt.Make(storyDay, handed, id, storyDay+1, storyDay)
			stmt.Make(0, handed, id, storyDay, storyDay+1)
		}
		if !slices.EqualFunc(whole, before, event.Same) || !reflect.DeepEqual(rooms, tiersBefore) {
			t.Errorf("the events, their tiers, or the room behind them have changed")
		}
	}
}

func TestAStatementIsNewMemory(t *testing.T) { // the rules of memory
	handed := deepCopy(events(t, storyDay, story()...))
	first, _ := stmt.Make(storyDay, handed, 10, storyDay, storyDay+3)
	second, _ := stmt.Make(storyDay, handed, 10, storyDay, storyDay+3)
	want := changed(first, func(*stmt.Statement) {})
	for i := range handed {
		scribble(handed[i].Tiers, api.Tier{From: -77, Rate: -77})
	}
	scribble(handed, deposit(77, 77))
	scribble(first.Lines, wild())
	if len(want.Lines) == 0 || !same(second, want) || slices.Contains(second.Lines[:cap(second.Lines)], wild()) {
		t.Errorf("two statements share memory")
	}
}

func TestLinesComeBackUntouched(t *testing.T) { // the rules of memory
	for _, by := range []int64{0, 1} {
		s := statement()
		s.Closing += by
		handed, whole := roomy(s.Lines, wild())
		s.Lines = handed
		before := slices.Clone(whole)
		stmt.Check(s)
		text, _ := stmt.Write(s)
		if !slices.Equal(whole, before) {
			t.Errorf("the lines, or the room behind them, have changed")
		}
		scribble(whole, wild())
		if by == 0 && text != example {
			t.Errorf("the text is %q then", text)
		}
	}
}

func TestWhatIsReadIsNewMemory(t *testing.T) { // the rules of memory
	first, _ := stmt.Parse(example)
	second, _ := stmt.Parse(example)
	scribble(first.Lines, wild())
	if !same(second, statement()) || slices.Contains(second.Lines[:cap(second.Lines)], wild()) {
		t.Errorf("two statements share memory")
	}
	third, _ := stmt.Parse(example)
	if !same(third, statement()) {
		t.Errorf("a third statement is %v", third)
	}
}
