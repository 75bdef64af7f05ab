package dec_test

import (
	"math/big"

	"passbook/api"
)

// The oracle works by whole numbers and fractions without bound, and rounds by
// the document's words: of the two neighbours on the scale it takes the one
// that the mode names.

var (
	bound = new(big.Int).Lsh(big.NewInt(1), 127) // the first size that is out of range
	word  = new(big.Int).Lsh(big.NewInt(1), 64)
)

func power(n int) *big.Int {
	return new(big.Int).Exp(big.NewInt(10), big.NewInt(int64(n)), nil)
}

func coefficient(d api.Dec) *big.Int {
	n := new(big.Int).Mul(big.NewInt(d.Hi), word)
	return n.Add(n, new(big.Int).SetUint64(d.Lo))
}

func truth(d api.Dec) *big.Rat {
	return new(big.Rat).SetFrac(coefficient(d), power(d.Scale))
}

// decOf makes the Dec of a coefficient, or tells that it is out of range.
func decOf(n *big.Int, scale int) (api.Dec, api.Errno) {
	if new(big.Int).Abs(n).Cmp(bound) >= 0 {
		return api.Dec{}, api.ErrRange
	}
	hi, lo := new(big.Int).DivMod(n, word, new(big.Int))
	return api.Dec{Hi: hi.Int64(), Lo: lo.Uint64(), Scale: scale}, api.OK
}

func rounded(x *big.Rat, scale, mode int) (api.Dec, api.Errno) {
	x = new(big.Rat).Mul(x, new(big.Rat).SetInt(power(scale)))
	floor, rest := new(big.Int).DivMod(x.Num(), x.Denom(), new(big.Int))
	if rest.Sign() == 0 {
		return decOf(floor, scale)
	}
	ceil := new(big.Int).Add(floor, big.NewInt(1))
	near, far := floor, ceil // of nought
	if x.Sign() < 0 {
		near, far = ceil, floor
	}
	half := new(big.Rat).SetFrac(new(big.Int).Add(floor, ceil), big.NewInt(2))
	nearest := floor
	if x.Cmp(half) > 0 {
		nearest = ceil
	}
	tie := x.Cmp(half) == 0
	even := floor
	if floor.Bit(0) == 1 {
		even = ceil
	}
	answer := map[int]*big.Int{api.Down: near, api.Up: far, api.Floor: floor, api.Ceil: ceil,
		api.HalfUp: nearest, api.HalfDown: nearest, api.HalfEven: nearest}[mode]
	if tie {
		switch mode {
		case api.HalfUp:
			answer = far
		case api.HalfDown:
			answer = near
		case api.HalfEven:
			answer = even
		}
	}
	return decOf(answer, scale)
}
