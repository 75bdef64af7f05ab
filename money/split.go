package money

import (
	"cmp"
	"math/bits"
	"slices"

	"passbook/api"
)

const maxWeight = 1000000000

// share is what one weight gets: units, rounded down, and what was cut off by that.
type share struct {
	units uint64
	rest  uint64
}

// Split: by weights, so that nothing is lost.
func Split(m api.Money, weights []int64) ([]api.Money, api.Errno) {
	if e := checkSplit(m, weights); e != api.OK {
		return nil, e
	}
	sign := int64(cmp.Compare(m.Minor, 0))
	out := make([]api.Money, len(weights))
	for i, s := range shares(uint64(sign*m.Minor), weights) {
		out[i] = api.Money{Cur: m.Cur, Minor: sign * int64(s.units)}
	}
	return out, api.OK
}

// checkSplit goes through all of a list that is too long, too: ErrArg has the lesser number.
func checkSplit(m api.Money, weights []int64) api.Errno {
	for _, w := range weights {
		if w < 0 || w > maxWeight {
			return api.ErrArg
		}
	}
	if len(weights) == 0 || len(weights) > api.MaxWeights {
		return api.ErrLong
	}
	if e := Check(m); e != api.OK {
		return e
	}
	if total(weights) == 0 {
		return api.ErrZero
	}
	return api.OK
}

func total(weights []int64) uint64 {
	var all uint64
	for _, w := range weights {
		all += uint64(w)
	}
	return all
}

// shares takes weights that do not add up to nought.
func shares(size uint64, weights []int64) []share {
	all := total(weights)
	left := size
	list := make([]share, len(weights))
	for i, w := range weights {
		// No weight is above their sum, so the quotient isn't above size: it has room.
		hi, lo := bits.Mul64(size, uint64(w))
		list[i].units, list[i].rest = bits.Div64(hi, lo, all)
		left -= list[i].units
	}
	handOut(left, list)
	return list
}

// handOut gives one unit each to those shares that lost most. The rests add up
// to left times the sum of the weights, and each is below that sum: so there
// are more shares with a rest than units.
func handOut(left uint64, list []share) {
	order := make([]int, len(list))
	for i := range order {
		order[i] = i
	}
	slices.SortStableFunc(order, func(i, j int) int {
		return cmp.Compare(list[j].rest, list[i].rest)
	})
	for _, i := range order[:left] {
		list[i].units++
	}
}
