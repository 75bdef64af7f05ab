package stmt_test

import (
	"math"
	"slices"
	"testing"

	"passbook/api"
	"passbook/stmt"
)

// inForm, notInForm: by Check, and by Write.
func inForm(t *testing.T, what string, s stmt.Statement) {
	t.Helper()
	answers(t, what+": Check", stmt.Check(s), api.OK)
	writes(t, s, textOf(s))
}

func notInForm(t *testing.T, what string, s stmt.Statement) {
	t.Helper()
	if e := stmt.Check(s); e != api.ErrForm {
		t.Errorf("%s: Check answers the error %d", what, e)
	}
	if text, e := stmt.Write(s); text != "" || e != api.ErrForm {
		t.Errorf("%s: Write answers %.200q, error %d", what, text, e)
	}
}

func TestTheHead(t *testing.T) { // P20.2
	s := statement()
	inForm(t, "as it is", s)
	notInForm(t, "nothing", stmt.Statement{})
	for _, id := range []int64{1, 2, 999999999, 1000000000} {
		inForm(t, "Account", changed(s, func(s *stmt.Statement) { s.Account = id }))
	}
	for _, id := range outside(1, 1000000000) {
		notInForm(t, "Account", changed(s, func(s *stmt.Statement) { s.Account = id }))
	}
	for cur := range 4 {
		inForm(t, "Cur", changed(s, func(s *stmt.Statement) { s.Cur = cur }))
	}
	for _, cur := range []int{-1, 4, 5, 256, 1 << 32, math.MinInt, math.MaxInt} {
		notInForm(t, "Cur", changed(s, func(s *stmt.Statement) { s.Cur = cur }))
	}
	for _, day := range noDays() {
		notInForm(t, "From", changed(s, func(s *stmt.Statement) { s.From = day }))
		notInForm(t, "To", changed(s, func(s *stmt.Statement) { s.To = day }))
		notInForm(t, "From and To", stmt.Statement{Account: 1, From: day, To: day})
	}
	for _, days := range [][2]int{{1, lastDay}, {1, 47}, {41, lastDay}, {41, 47}, {1, 48}} {
		inForm(t, "From, To", changed(s, func(s *stmt.Statement) { s.From, s.To = days[0], days[1] }))
	}
	for _, day := range []int{1, 2, 40, lastDay - 1, lastDay} {
		inForm(t, "From is To", stmt.Statement{Account: 1, From: day, To: day})
	}
	for _, days := range [][2]int{{2, 1}, {lastDay, lastDay - 1}, {lastDay, 1}, {41, 40}} {
		notInForm(t, "From behind To", stmt.Statement{Account: 1, From: days[0], To: days[1]})
	}
}

func TestTheOpeningAndTheClosing(t *testing.T) { // P20.2, P8
	for cur := range 4 {
		for _, n := range []int64{0, 1, -1, minor, minor - 1, -minor, -minor + 1} {
			inForm(t, "without lines", stmt.Statement{Account: 1, Cur: cur, From: 1, To: 1, Opening: n, Closing: n})
			for _, other := range []int64{n + 1, n - 1, n ^ math.MinInt64, n + 1<<32} {
				notInForm(t, "without lines", stmt.Statement{Account: 1, Cur: cur, From: 1, To: 1, Opening: n, Closing: other})
				notInForm(t, "without lines", stmt.Statement{Account: 1, Cur: cur, From: 1, To: 1, Opening: other, Closing: n})
			}
		}
		for _, n := range outside(-minor, minor) {
			notInForm(t, "without lines", stmt.Statement{Account: 1, Cur: cur, From: 1, To: 1, Opening: n, Closing: n})
		}
	}
	s := statement()
	for _, by := range []int64{1, -1, minor, -minor, math.MinInt64} {
		notInForm(t, "Opening", changed(s, func(s *stmt.Statement) { s.Opening += by }))
		notInForm(t, "Closing", changed(s, func(s *stmt.Statement) { s.Closing += by }))
	}
	notInForm(t, "Closing is the last Balance but one", changed(s, func(s *stmt.Statement) { s.Closing = s.Lines[2].Balance }))
	notInForm(t, "Closing is Opening", changed(s, func(s *stmt.Statement) { s.Closing = s.Opening }))
	notInForm(t, "a line less", changed(s, func(s *stmt.Statement) { s.Lines = s.Lines[:3] }))
}

func TestTheLines(t *testing.T) { // P20.2
	s := statement()
	for i := range s.Lines {
		l := s.Lines[i]
		for _, op := range []byte{api.OpDeposit, api.OpWithdraw, api.OpTransfer, api.OpLend, api.OpRepay, api.OpExchange, api.OpStep} {
			inForm(t, "Op", changed(s, func(s *stmt.Statement) { s.Lines[i].Op = op }))
		}
		for op := range 256 {
			if !slices.Contains([]int{4, 5, 6, 9, 10, 12, 14}, op) {
				notInForm(t, "Op", changed(s, func(s *stmt.Statement) { s.Lines[i].Op = byte(op) }))
			}
		}
		for _, by := range []int64{1, -1, 1 << 40, -1 << 40, math.MinInt64} {
			notInForm(t, "Change", changed(s, func(s *stmt.Statement) { s.Lines[i].Change += by }))
			notInForm(t, "Balance", changed(s, func(s *stmt.Statement) { s.Lines[i].Balance += by }))
		}
		notInForm(t, "the opposite Change", changed(s, func(s *stmt.Statement) { s.Lines[i].Change = -l.Change }))
		notInForm(t, "a Change of 0", changed(s, func(s *stmt.Statement) {
			s.Lines = slices.Insert(s.Lines, i, stmt.Line{Seq: l.Seq - 1, Day: l.Day, Op: 4, Change: 0, Balance: l.Balance - l.Change})
			for j := range i {
				s.Lines[j].Seq = int64(j + 1)
			}
		}))
	}
	inForm(t, "a fifth", changed(s, func(s *stmt.Statement) {
		s.Lines = append(s.Lines, stmt.Line{Seq: 901, Day: 47, Op: 4, Change: 1, Balance: 1341})
		s.Closing = 1341
	}))
	notInForm(t, "a fifth of nothing", changed(s, func(s *stmt.Statement) {
		s.Lines = append(s.Lines, stmt.Line{Seq: 901, Day: 47, Op: 4, Change: 0, Balance: 1340})
	}))
}

func TestTheSeqs(t *testing.T) { // P20.2
	s := statement()
	for _, c := range []struct {
		seqs [4]int64
		ok   bool
	}{
		{[4]int64{1, 2, 3, 4}, true},
		{[4]int64{1, 2, 3, 1000000000000}, true},
		{[4]int64{999999999997, 999999999998, 999999999999, 1000000000000}, true},
		{[4]int64{0, 1, 2, 3}, false},
		{[4]int64{-1, 1, 2, 3}, false},
		{[4]int64{math.MinInt64, 1, 2, 3}, false},
		{[4]int64{1, 2, 3, 1000000000001}, false},
		{[4]int64{1, 2, 3, math.MaxInt64}, false},
		{[4]int64{1, 2, 1000000000001, 1000000000002}, false},
		{[4]int64{1, 1, 2, 3}, false},
		{[4]int64{1, 2, 2, 3}, false},
		{[4]int64{1, 2, 3, 3}, false},
		{[4]int64{2, 1, 3, 4}, false},
		{[4]int64{1, 3, 2, 4}, false},
		{[4]int64{1, 2, 4, 3}, false},
	} {
		other := changed(s, func(s *stmt.Statement) {
			for i := range s.Lines {
				s.Lines[i].Seq = c.seqs[i]
			}
		})
		if c.ok {
			inForm(t, "Seqs", other)
		} else {
			notInForm(t, "Seqs", other)
		}
	}
}

func TestTheDays(t *testing.T) { // P20.2
	s := statement() // from 40 to 50
	for _, c := range []struct {
		days [4]int
		ok   bool
	}{
		{[4]int{40, 40, 40, 40}, true},
		{[4]int{50, 50, 50, 50}, true},
		{[4]int{40, 41, 49, 50}, true},
		{[4]int{39, 41, 49, 50}, false},
		{[4]int{40, 41, 49, 51}, false},
		{[4]int{39, 39, 39, 39}, false},
		{[4]int{51, 51, 51, 51}, false},
		{[4]int{0, 41, 42, 43}, false},
		{[4]int{-41, 41, 42, 43}, false},
		{[4]int{math.MinInt, 41, 42, 43}, false},
		{[4]int{41, 42, 43, math.MaxInt}, false},
		{[4]int{42, 41, 43, 44}, false},
		{[4]int{41, 43, 42, 44}, false},
		{[4]int{41, 42, 44, 43}, false},
		{[4]int{41, 60, 60, 44}, false},
	} {
		other := changed(s, func(s *stmt.Statement) {
			for i := range s.Lines {
				s.Lines[i].Day = c.days[i]
			}
		})
		if c.ok {
			inForm(t, "Days", other)
		} else {
			notInForm(t, "Days", other)
		}
	}
	ends := changed(s, func(s *stmt.Statement) {
		s.From, s.To = 1, lastDay
		s.Lines[0].Day, s.Lines[3].Day = 1, lastDay
	})
	inForm(t, "from the first day to the last", ends)
}

func TestAmountsAtTheBounds(t *testing.T) { // P20.2
	line := func(opening, change, balance int64) stmt.Statement {
		return stmt.Statement{
			Account: 1, From: 1, To: 1, Opening: opening, Closing: balance,
			Lines: []stmt.Line{{Seq: 1, Day: 1, Op: api.OpDeposit, Change: change, Balance: balance}},
		}
	}
	for _, sign := range []int64{1, -1} {
		for _, ok := range [][3]int64{{0, minor, minor}, {minor, -minor, 0}, {-1, minor, minor - 1}, {minor - 1, 1, minor}, {minor, -1, minor - 1}, {-minor, minor, 0}} {
			inForm(t, "at the bounds", line(sign*ok[0], sign*ok[1], sign*ok[2]))
		}
		for _, wrong := range [][3]int64{
			{minor, 1, minor + 1}, {minor + 1, -1, minor}, {-1, minor + 1, minor}, {-minor, minor + 1, 1}, {-minor, 2 * minor, minor}, {1, minor, minor + 1},
			{minor, -minor - 1, -1}, {minor, math.MaxInt64 - minor, math.MaxInt64}, {0, math.MaxInt64, math.MaxInt64}, {1, math.MaxInt64, math.MinInt64}, {-2, math.MinInt64, math.MaxInt64 - 1},
			{minor, math.MaxInt64, math.MinInt64 + minor - 1},
		} {
			notInForm(t, "beyond the bounds", line(sign*wrong[0], sign*wrong[1], sign*wrong[2]))
		}
	}
	for _, sign := range []int64{1, -1} { // ends within the bounds
		for _, by := range []int64{1, 2, minor} {
			over := stmt.Statement{Account: 1, From: 1, To: 1, Opening: sign * minor, Closing: sign * minor, Lines: []stmt.Line{
				{Seq: 1, Day: 1, Op: 4, Change: sign * by, Balance: sign * (minor + by)}, {Seq: 2, Day: 1, Op: 5, Change: -sign * by, Balance: sign * minor},
			}}
			notInForm(t, "beyond the bounds in between", over)
		}
	}
}

func TestHowManyLines(t *testing.T) { // P20.2
	for _, n := range []int{0, 1, 2, maxLines - 1, maxLines} {
		inForm(t, "so many lines", run(n))
	}
	for _, n := range []int{maxLines + 1, maxLines + 2, 2 * maxLines} {
		notInForm(t, "too many lines", run(n))
		parsesNot(t, textOf(run(n)), api.ErrText)
	}
	empty := run(0)
	for _, none := range [][]stmt.Line{nil, {}, make([]stmt.Line, 0, 3)} {
		empty.Lines = none
		inForm(t, "no lines", empty)
	}
}
