package accrue_test

import (
	"math/rand"
	"testing"

	"passbook/accrue"
	"passbook/api"
)

func pays(t *testing.T, micro, room, units, rest int64, want api.Errno) {
	t.Helper()
	if n, left, e := accrue.Pay(micro, room); n != units || left != rest || e != want {
		t.Errorf("Pay(%d, %d) = %d, %d, error %d; want %d, %d, error %d", micro, room, n, left, e, units, rest, want)
	}
}

func feeIs(t *testing.T, balance, held, fee, want int64, wantE api.Errno) {
	t.Helper()
	if n, e := accrue.Fee(balance, held, fee); n != want || e != wantE {
		t.Errorf("Fee(%d, %d, %d) = %d, error %d; want %d, error %d", balance, held, fee, n, e, want, wantE)
	}
}

func TestPay(t *testing.T) { // P14.3
	for _, x := range [][4]int64{ // micro, room, whole units, rest
		{2500000, 9, 2, 500000},
		{2500000, 2, 2, 500000},
		{2500000, 1, 1, 500000},
		{2500000, 0, 0, 500000}, // the units are lost
		{0, 0, 0, 0},
		{0, 2 * minor, 0, 0},
		{1, 5, 0, 1},
		{999999, 5, 0, 999999},
		{1000000, 5, 1, 0},
		{1000000, 1, 1, 0},
		{1000000, 0, 0, 0},
		{1000001, 5, 1, 1},
		{1999999, 5, 1, 999999},
		{greatest, 2 * minor, 4000000000000, 0},
		{greatest, 4000000000001, 4000000000000, 0},
		{greatest, 4000000000000, 4000000000000, 0},
		{greatest, 3999999999999, 3999999999999, 0},
		{greatest, 1, 1, 0},
		{greatest, 0, 0, 0},
		{greatest - 1, 2 * minor, 3999999999999, 999999},
		{greatest - 1, 7, 7, 999999},
	} {
		pays(t, x[0], x[1], x[2], x[3], api.OK)
	}
}

func TestPayErrors(t *testing.T) { // P14.3
	for _, room := range append(notWithin(2*minor), 0, 1, 2*minor) {
		for _, micro := range notWithin(greatest) {
			pays(t, micro, room, 0, 0, api.ErrArg)
		}
	}
	for _, room := range notWithin(2 * minor) {
		for _, micro := range []int64{0, 1, 2500000, greatest} {
			pays(t, micro, room, 0, 0, api.ErrArg)
		}
	}
}

// TestPayLosesNothingWhereThereIsRoom: what is paid and what is left make up the whole.
func TestPayLosesNothingWhereThereIsRoom(t *testing.T) { // P14.3
	source := rand.New(rand.NewSource(143))
	for range 5000 {
		micro := source.Int63n(1 + source.Int63n(greatest))
		units, rest, e := accrue.Pay(micro, 2*minor)
		if e != api.OK || rest < 0 || rest > 999999 || units*1000000+rest != micro {
			t.Fatalf("Pay(%d) = %d, %d, error %d", micro, units, rest, e)
		}
		room := source.Int63n(1 + source.Int63n(2*minor))
		pays(t, micro, room, min(units, room), rest, api.OK)
		pays(t, micro, units, units, rest, api.OK)
		pays(t, micro, units+1, units, rest, api.OK)
		if units > 0 {
			pays(t, micro, units-1, units-1, rest, api.OK)
		}
	}
}

func TestFee(t *testing.T) { // P14.4
	for _, x := range [][4]int64{ // balance, held, fee, answer
		{500, 100, 1000, 400},
		{5, 9, 3, 0},
		{500, 100, 401, 400},
		{500, 100, 400, 400},
		{500, 100, 399, 399},
		{500, 100, 0, 0},
		{500, 499, 3, 1},
		{500, 500, 3, 0},
		{500, 501, 3, 0},
		{500, 0, 1000, 500},
		{0, 0, 0, 0},
		{0, 0, minor, 0},
		{0, 1, minor, 0},
		{0, 2 * minor, minor, 0},
		{minor, 0, minor, minor},
		{minor, 0, minor - 1, minor - 1},
		{minor, 1, minor, minor - 1},
		{minor, minor - 1, minor, 1},
		{minor, minor, minor, 0},
		{minor, minor + 1, minor, 0},
		{minor, 2 * minor, minor, 0},
		{minor - 1, 0, minor, minor - 1},
	} {
		feeIs(t, x[0], x[1], x[2], x[3], api.OK)
	}
	for balance := range int64(12) {
		for held := range int64(15) {
			for fee := range int64(15) {
				want := int64(0) // unit by unit, as long as there is one
				for want < fee && held+want < balance {
					want++
				}
				feeIs(t, balance, held, fee, want, api.OK)
			}
		}
	}
}

func TestFeeErrors(t *testing.T) { // P14.4
	for _, right := range []int64{0, 5, minor} {
		for _, n := range notWithin(minor) {
			feeIs(t, n, right, right, 0, api.ErrArg)
			feeIs(t, right, right, n, 0, api.ErrArg)
			feeIs(t, n, n, n, 0, api.ErrArg)
		}
		for _, n := range notWithin(2 * minor) {
			feeIs(t, right, n, right, 0, api.ErrArg)
			feeIs(t, n, n, right, 0, api.ErrArg)
		}
	}
}
