// Package digits is layer 2: see shared/doc/02-digits.md.
package digits

import (
	"math/bits"

	"passbook/api"
	"passbook/dec"
)

// longest is how many bytes a text has at most: the 39 digits of the greatest
// coefficient, a minus and a point.
const longest = 41

// size is how far a coefficient lies from nought, its low word first.
type size [2]uint64

// Write answers a decimal's text.
func Write(d api.Dec) (string, api.Errno) {
	sign, e := dec.Sign(d)
	if e != api.OK {
		return "", e
	}
	if sign < 0 {
		d, _ = dec.Neg(d)
	}
	var text [longest]byte
	at := longest
	left := size{d.Lo, uint64(d.Hi)}
	for place := 0; place <= d.Scale || left != (size{}); place++ {
		if place == d.Scale && place > 0 {
			at--
			text[at] = '.'
		}
		var digit uint64
		left, digit = left.tenth()
		at--
		text[at] = '0' + byte(digit)
	}
	if sign < 0 {
		at--
		text[at] = '-'
	}
	return string(text[at:]), api.OK
}

// Parse answers the decimal of which s is the text, or the place of the fault.
func Parse(s string) (d api.Dec, at int, e api.Errno) {
	if len(s) > api.MaxDigits {
		return api.Dec{}, 0, api.ErrLong
	}
	defer func() {
		switch why := recover().(type) {
		case nil:
		case fault:
			d, at, e = api.Dec{}, int(why), api.ErrText
		case tooGreat:
			d, at, e = api.Dec{}, 0, api.ErrRange
		default: // the reader gives up by nothing else; a call of the document's never panics
			d, at, e = api.Dec{}, 0, api.ErrText
		}
	}()
	return read(s), 0, api.OK
}

// tenth answers the size over ten, rounded down, and the digit that is left.
func (n size) tenth() (size, uint64) {
	var digit uint64
	n[1], digit = bits.Div64(0, n[1], 10)
	n[0], digit = bits.Div64(digit, n[0], 10)
	return n, digit
}

// withDigit answers ten times the size, and the digit; false, where that has
// more than the 127 bits of a coefficient.
func (n size) withDigit(digit byte) (size, bool) {
	over, low := bits.Mul64(n[0], 10)
	low, carry := bits.Add64(low, uint64(digit), 0)
	beyond, high := bits.Mul64(n[1], 10)
	high, carry = bits.Add64(high, over, carry)
	return size{low, high}, beyond == 0 && carry == 0 && high>>63 == 0
}
