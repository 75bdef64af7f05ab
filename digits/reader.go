package digits

import (
	"passbook/api"
	"passbook/dec"
)

// What a reader gives up by.
type (
	fault    int      // the place at which the text is none
	tooGreat struct{} // the text is one, but for its coefficient
)

// reader goes over a text once, from its first byte on.
type reader struct {
	text   string
	at     int
	size   size
	beyond bool // the size was left where it was too great for a coefficient
}

// read answers the decimal of which s is the text, or panics with a fault or
// with tooGreat: the latter only when the whole of s is known to have no fault.
func read(s string) api.Dec {
	r := &reader{text: s}
	negative := r.take('-')
	r.whole()
	scale := r.fraction()
	if r.at < len(s) {
		panic(fault(r.at))
	}
	if negative && r.size == (size{}) {
		panic(fault(0))
	}
	if r.beyond {
		panic(tooGreat{})
	}
	d := api.Dec{Hi: int64(r.size[1]), Lo: r.size[0], Scale: scale}
	if negative {
		d, _ = dec.Neg(d)
	}
	return d
}

// take goes behind the next byte, if it is b.
func (r *reader) take(b byte) bool {
	if r.at == len(r.text) || r.text[r.at] != b {
		return false
	}
	r.at++
	return true
}

// digit goes behind the next byte, if it is a digit.
func (r *reader) digit() bool {
	if r.at == len(r.text) || r.text[r.at] < '0' || r.text[r.at] > '9' {
		return false
	}
	r.keep(r.text[r.at] - '0')
	r.at++
	return true
}

func (r *reader) keep(digit byte) {
	if r.beyond {
		return
	}
	if n, ok := r.size.withDigit(digit); ok {
		r.size = n
	} else {
		r.beyond = true
	}
}

// whole reads the digits in front of the point.
func (r *reader) whole() {
	if r.take('0') {
		return
	}
	if !r.digit() {
		panic(fault(r.at))
	}
	for r.digit() {
	}
}

// fraction reads the point and the digits behind it, if there is one, and
// answers how many digits.
func (r *reader) fraction() int {
	if !r.take('.') {
		return 0
	}
	if !r.digit() {
		panic(fault(r.at))
	}
	scale := 1
	for scale < api.MaxScale && r.digit() {
		scale++
	}
	return scale
}
