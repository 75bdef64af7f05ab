// Package dec is layer 1: see shared/doc/01-dec.md.
package dec

import (
	"math"
	"math/bits"

	"passbook/api"
)

// Check tells whether a decimal is in form.
func Check(d api.Dec) api.Errno {
	if !isScale(d.Scale) || d.Hi == math.MinInt64 && d.Lo == 0 {
		return api.ErrForm
	}
	return api.OK
}

// Of makes the decimal with the coefficient n.
func Of(n int64, scale int) (api.Dec, api.Errno) {
	if !isScale(scale) {
		return api.Dec{}, api.ErrArg
	}
	return api.Dec{Hi: n >> 63, Lo: uint64(n), Scale: scale}, api.OK
}

// Int answers the whole number that d is.
func Int(d api.Dec) (int64, api.Errno) {
	whole, e := Rescale(d, 0, api.Down)
	if e != api.OK {
		return 0, e
	}
	n := int64(whole.Lo)
	order, _ := Cmp(whole, d)
	if order != 0 || whole.Hi != n>>63 {
		return 0, api.ErrRange
	}
	return n, api.OK
}

// Sign answers -1, 0 or 1.
func Sign(d api.Dec) (int, api.Errno) {
	if e := Check(d); e != api.OK {
		return 0, e
	}
	return numberOf(d).sign(), api.OK
}

// Neg answers the decimal with the opposite coefficient.
func Neg(d api.Dec) (api.Dec, api.Errno) {
	if e := Check(d); e != api.OK {
		return api.Dec{}, e
	}
	return opposite(d), api.OK
}

// Cmp holds the true numbers against each other.
func Cmp(a, b api.Dec) (int, api.Errno) {
	if e := checkBoth(a, b); e != api.OK {
		return 0, e
	}
	difference, _ := total(a, opposite(b))
	return difference.sign(), api.OK
}

// Add answers the true sum, with the greater scale.
func Add(a, b api.Dec) (api.Dec, api.Errno) {
	if e := checkBoth(a, b); e != api.OK {
		return api.Dec{}, e
	}
	sum, scale := total(a, b)
	return sum.dec(scale)
}

// Sub answers the true difference, with the greater scale.
func Sub(a, b api.Dec) (api.Dec, api.Errno) {
	if e := checkBoth(a, b); e != api.OK {
		return api.Dec{}, e
	}
	difference, scale := total(a, opposite(b))
	return difference.dec(scale)
}

// Rescale rounds d to a scale.
func Rescale(d api.Dec, scale, mode int) (api.Dec, api.Errno) {
	if e := checkRounding(scale, mode); e != api.OK {
		return api.Dec{}, e
	}
	if e := Check(d); e != api.OK {
		return api.Dec{}, e
	}
	return ratio(numberOf(d), wide{1}, scale-d.Scale, mode).dec(scale)
}

// Mul answers the true product, rounded once.
func Mul(a, b api.Dec, scale, mode int) (api.Dec, api.Errno) {
	if e := checkRounding(scale, mode); e != api.OK {
		return api.Dec{}, e
	}
	if e := checkBoth(a, b); e != api.OK {
		return api.Dec{}, e
	}
	x, y := numberOf(a), numberOf(b)
	product := number{x.negative != y.negative, x.size.times(y.size)}
	return ratio(product, wide{1}, scale-a.Scale-b.Scale, mode).dec(scale)
}

// Quo answers the true quotient, rounded once.
func Quo(a, b api.Dec, scale, mode int) (api.Dec, api.Errno) {
	if e := checkRounding(scale, mode); e != api.OK {
		return api.Dec{}, e
	}
	if e := checkBoth(a, b); e != api.OK {
		return api.Dec{}, e
	}
	x, y := numberOf(a), numberOf(b)
	if y.sign() == 0 {
		return api.Dec{}, api.ErrZero
	}
	signed := number{x.negative != y.negative, x.size}
	return ratio(signed, y.size, scale+b.Scale-a.Scale, mode).dec(scale)
}

func isScale(scale int) bool { return scale >= 0 && scale <= api.MaxScale }

func checkBoth(a, b api.Dec) api.Errno {
	if e := Check(a); e != api.OK {
		return e
	}
	return Check(b)
}

func checkRounding(scale, mode int) api.Errno {
	if !isScale(scale) || mode < api.Down || mode > api.HalfEven {
		return api.ErrArg
	}
	return api.OK
}

// opposite is Neg of a decimal that is known to be in form: its coefficient
// has an opposite, because the range lies evenly about nought.
func opposite(d api.Dec) api.Dec {
	lo, borrow := bits.Sub64(0, d.Lo, 0)
	hi, _ := bits.Sub64(0, uint64(d.Hi), borrow)
	return api.Dec{Hi: int64(hi), Lo: lo, Scale: d.Scale}
}
