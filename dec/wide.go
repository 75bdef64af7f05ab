package dec

import "math/bits"

const wordBits = 64

// words: the greatest number on the way is a product of two coefficients
// (254 bits) times 10^18 (60 bits).
const words = 5

// wide is a whole number that isn't below nought, its least word first.
type wide [words]uint64

func (a wide) plus(b wide) wide {
	var carry uint64
	for i := range words {
		a[i], carry = bits.Add64(a[i], b[i], carry)
	}
	return a
}

// minus takes a b that isn't above a.
func (a wide) minus(b wide) wide {
	var borrow uint64
	for i := range words {
		a[i], borrow = bits.Sub64(a[i], b[i], borrow)
	}
	return a
}

func (a wide) below(b wide) bool {
	for i := words - 1; i >= 0; i-- {
		if a[i] != b[i] {
			return a[i] < b[i]
		}
	}
	return false
}

// bitLength is how many bits a has from its highest one down; none for nought.
func (a wide) bitLength() int {
	for i := words - 1; i >= 0; i-- {
		if a[i] != 0 {
			return i*wordBits + bits.Len64(a[i])
		}
	}
	return 0
}

// shiftedIn moves all bits up by one, from word to word, and lays bit below.
func (a wide) shiftedIn(bit uint64) wide {
	for i := range words {
		a[i], bit = a[i]<<1|bit, a[i]>>(wordBits-1)
	}
	return a
}

func (a wide) timesWord(m uint64) wide {
	var carry uint64
	for i := range words {
		hi, lo := bits.Mul64(a[i], m)
		var more uint64
		a[i], more = bits.Add64(lo, carry, 0)
		carry = hi + more
	}
	return a
}

// times takes numbers whose product has room.
func (a wide) times(b wide) wide {
	var product wide
	for i := words - 1; i >= 0; i-- {
		copy(product[1:], product[:words-1])
		product[0] = 0
		product = product.plus(a.timesWord(b[i]))
	}
	return product
}

// timesTen is a * 10^n.
func (a wide) timesTen(n int) wide {
	for range n {
		a = a.timesWord(10)
	}
	return a
}

// divided answers the quotient and the rest; by is above nought. A divisor of
// one word, the common one, is divided by word by word, the others bit by bit.
func (a wide) divided(by wide) (wide, wide) {
	if by.bitLength() <= wordBits {
		return a.dividedByWord(by[0])
	}
	var quotient, rest wide
	for i := a.bitLength() - 1; i >= 0; i-- {
		word, bit := i/wordBits, i%wordBits
		rest = rest.shiftedIn(a[word] >> bit & 1)
		if !rest.below(by) {
			rest = rest.minus(by)
			quotient[word] |= 1 << bit
		}
	}
	return quotient, rest
}

func (a wide) dividedByWord(by uint64) (wide, wide) {
	var rest uint64
	for i := words - 1; i >= 0; i-- {
		a[i], rest = bits.Div64(rest, a[i], by)
	}
	return a, wide{rest}
}
