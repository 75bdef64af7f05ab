package stmt

import (
	"strconv"
	"strings"

	"passbook/api"
	"passbook/cal"
	"passbook/money"
)

// fault is what a reader gives up by: the text is no statement's.
type fault struct{}

// reader takes one word behind another from the front of what is left. A word goes up to the byte that must stand
// behind it: where another one stands there, the word has a blank or a line's end within, and is none of its kind.
type reader struct {
	rest string
	name string // of the currency
}

// statement takes all that is left.
func (r *reader) statement() Statement {
	s := r.head()
	for !strings.HasPrefix(r.rest, closingWord) {
		s.Lines = append(s.Lines, r.line())
	}
	r.word(closingWord)
	s.Closing = r.amount(newline).Minor
	r.must(r.rest == "" && Check(s) == api.OK)
	return s
}

func (r *reader) head() Statement {
	var s Statement
	r.word(accountWord)
	s.Account = r.number(blank)
	r.name = r.until(blank)
	r.word(fromWord)
	s.From = r.day(blank)
	r.word(toWord)
	s.To = r.day(blank)
	r.word(openingWord)
	opening := r.amount(newline)
	s.Cur, s.Opening = opening.Cur, opening.Minor
	return s
}

func (r *reader) line() Line {
	var l Line
	l.Seq = r.number(blank)
	l.Day = r.day(blank)
	l.Op = r.op()
	l.Change = r.amount(blank).Minor
	l.Balance = r.amount(newline).Minor
	return l
}

func (r *reader) must(holds bool) {
	if !holds {
		panic(fault{})
	}
}

func (r *reader) until(end string) string {
	word, rest, found := strings.Cut(r.rest, end)
	r.must(found)
	r.rest = rest
	return word
}

// word: just that one, and a blank.
func (r *reader) word(text string) { r.must(r.until(blank) == text) }

// number: written again, it must be the same text, since a number has but one.
func (r *reader) number(end string) int64 {
	text := r.until(end)
	n, e := strconv.ParseInt(text, 10, 64)
	r.must(e == nil && numberText(n) == text)
	return n
}

func (r *reader) op() byte {
	n := r.number(blank)
	r.must(n == int64(byte(n)))
	return byte(n)
}

func (r *reader) day(end string) int {
	n, e := cal.Parse(r.until(end))
	r.must(e == api.OK)
	return n
}

func (r *reader) amount(end string) api.Money {
	m, e := money.Parse(r.name + blank + r.until(end))
	r.must(e == api.OK)
	return m
}
