package stmt

import (
	"strconv"
	"strings"

	"passbook/api"
	"passbook/cal"
	"passbook/money"
)

// maxText: of a text that is read. No statement's text is that long.
const maxText = 400000

// What stands in a text besides its numbers, days and amounts.
const (
	accountWord = "account"
	fromWord    = "from"
	toWord      = "to"
	openingWord = "opening"
	closingWord = "closing"

	blank   = " "
	newline = "\n"
)

// Write, Parse: as a text.
func Write(s Statement) (string, api.Errno) {
	if e := Check(s); e != api.OK {
		return "", e
	}
	var text strings.Builder
	name, opening := amountText(s.Cur, s.Opening)
	writeWords(&text, accountWord, numberText(s.Account), name, fromWord, dayText(s.From), toWord, dayText(s.To), openingWord, opening)
	for _, l := range s.Lines {
		_, change := amountText(s.Cur, l.Change)
		_, balance := amountText(s.Cur, l.Balance)
		writeWords(&text, numberText(l.Seq), dayText(l.Day), numberText(int64(l.Op)), change, balance)
	}
	_, closing := amountText(s.Cur, s.Closing)
	writeWords(&text, closingWord, closing)
	return text.String(), api.OK
}

func Parse(s string) (out Statement, e api.Errno) {
	if len(s) > maxText {
		return Statement{}, api.ErrLong
	}
	defer func() {
		if recover() != nil {
			out, e = Statement{}, api.ErrText
		}
	}()
	r := &reader{rest: s}
	return r.statement(), api.OK
}

func writeWords(text *strings.Builder, words ...string) {
	text.WriteString(strings.Join(words, blank))
	text.WriteString(newline)
}

func numberText(n int64) string { return strconv.FormatInt(n, 10) }

// dayText, amountText: of what is known to be in form.
func dayText(n int) string {
	text, _ := cal.Write(n)
	return text
}

// amountText: the currency's name, and the amount.
func amountText(cur int, minor int64) (string, string) {
	text, _ := money.Write(api.Money{Cur: cur, Minor: minor})
	name, amount, _ := strings.Cut(text, blank)
	return name, amount
}
