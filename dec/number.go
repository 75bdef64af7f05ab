package dec

import "passbook/api"

// number is a coefficient by sign and size. It has room for what lies between
// two decimals and their answer, so that only the answer is held to the range.
type number struct {
	negative bool
	size     wide
}

// numberOf takes a decimal that is in form.
func numberOf(d api.Dec) number {
	if d.Hi < 0 {
		turned := opposite(d)
		return number{true, wide{turned.Lo, uint64(turned.Hi)}}
	}
	return number{false, wide{d.Lo, uint64(d.Hi)}}
}

// dec answers ErrRange where the coefficient has more than 127 bits.
func (n number) dec(scale int) (api.Dec, api.Errno) {
	if n.size.bitLength() > 127 {
		return api.Dec{}, api.ErrRange
	}
	d := api.Dec{Hi: int64(n.size[1]), Lo: n.size[0], Scale: scale}
	if n.negative {
		d = opposite(d)
	}
	return d, api.OK
}

func (n number) sign() int {
	switch {
	case n.size == (wide{}):
		return 0
	case n.negative:
		return -1
	}
	return 1
}

func (n number) plus(m number) number {
	switch {
	case n.negative == m.negative:
		return number{n.negative, n.size.plus(m.size)}
	case n.size.below(m.size):
		return number{m.negative, m.size.minus(n.size)}
	}
	return number{n.negative, n.size.minus(m.size)}
}

// total is the true sum of two decimals, as a coefficient at the greater scale.
func total(a, b api.Dec) (number, int) {
	scale := max(a.Scale, b.Scale)
	return raised(a, scale).plus(raised(b, scale)), scale
}

// raised is the coefficient that d has at a scale that isn't below its own.
func raised(d api.Dec, scale int) number {
	n := numberOf(d)
	n.size = n.size.timesTen(scale - d.Scale)
	return n
}

// ratio is n / by * 10^shift, rounded to a whole number. A shift below nought
// goes to the divisor: were n divided by it first, it would be rounded twice.
func ratio(n number, by wide, shift, mode int) number {
	over := n.size
	if shift < 0 {
		by = by.timesTen(-shift)
	} else {
		over = over.timesTen(shift)
	}
	quotient, rest := over.divided(by)
	if awayFromNought(n.negative, quotient, rest, by, mode) {
		quotient = quotient.plus(wide{1})
	}
	return number{n.negative, quotient}
}

// awayFromNought tells whether a quotient with that rest is rounded to the
// next one away from nought, rather than cut off.
func awayFromNought(negative bool, quotient, rest, by wide, mode int) bool {
	if rest == (wide{}) {
		return false
	}
	twice := rest.plus(rest)
	switch mode {
	case api.Up:
		return true
	case api.Floor:
		return negative
	case api.Ceil:
		return !negative
	case api.HalfUp:
		return !twice.below(by)
	case api.HalfDown:
		return by.below(twice)
	case api.HalfEven:
		odd := quotient[0]&1 == 1
		return by.below(twice) || twice == by && odd
	}
	return false
}
