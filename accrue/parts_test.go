package accrue_test

import (
	"math/rand"
	"slices"
	"testing"

	"passbook/accrue"
	"passbook/api"
)

func TestPartsExamples(t *testing.T) { // P14.1
	two := tiers(0, 5, 1000, 6)
	partsAre(t, 1500, two, 1000, 500)
	partsAre(t, 700, two, 700, 0)
	partsAre(t, 0, two, 0, 0)
	partsAre(t, 999, two, 999, 0)
	partsAre(t, 1000, two, 1000, 0)
	partsAre(t, 1001, two, 1000, 1)
	partsAre(t, minor, two, 1000, minor-1000)
	partsAre(t, 0, tiers(0, 5), 0)
	partsAre(t, minor, tiers(0, 0), minor)
	partsAre(t, minor, tiers(0, rate, minor, rate), minor, 0)
	partsAre(t, minor, tiers(0, 5, minor-1, 6, minor, 7), minor-1, 1, 0)
	partsAre(t, minor-1, tiers(0, 5, minor-1, 6, minor, 7), minor-1, 0, 0)
	partsAre(t, 250, tiers(0, 9, 100, 1, 200, 9, 300, 0), 100, 100, 50, 0)
}

// unitByUnit: the part that each unit of a balance lies in.
func unitByUnit(balance int64, l []api.Tier) []int64 {
	parts := make([]int64, len(l))
	for unit := range balance {
		last := 0
		for i, tier := range l {
			if tier.From <= unit {
				last = i
			}
		}
		parts[last]++
	}
	return parts
}

func TestPartsUnitByUnit(t *testing.T) { // P14.1: below, at and above each From, of one to MaxTiers tiers
	source := rand.New(rand.NewSource(14))
	for count := 1; count <= api.MaxTiers; count++ {
		for range 20 {
			l := tiers(0, 1)
			for len(l) < count {
				l = append(l, api.Tier{From: l[len(l)-1].From + 1 + source.Int63n(4), Rate: source.Int63n(9)})
			}
			for balance := range l[count-1].From + 5 {
				partsAre(t, balance, l, unitByUnit(balance, l)...)
			}
		}
	}
}

func TestPartsErrors(t *testing.T) { // P14.1
	for _, balance := range notWithin(minor) {
		partsFail(t, balance, rising(2), api.ErrArg)
		for _, l := range append(malformed(), tooMany()...) { // the least number is answered
			partsFail(t, balance, l, api.ErrArg)
		}
	}
	for _, balance := range []int64{0, 1, 500, minor} {
		for _, l := range malformed() {
			partsFail(t, balance, l, api.ErrForm)
		}
		for _, l := range tooMany() {
			partsFail(t, balance, l, api.ErrLong)
		}
	}
}

// roomy: so many tiers of a longer list, with something in the spare room behind them.
func roomy(count, room int) []api.Tier { return slices.Clip(rising(count + room))[:count] }

func TestTiersComeBackUntouched(t *testing.T) { // P14.1, P14.2, and the rules of memory
	for count := range 11 {
		for _, room := range []int{0, 1, 4} {
			l := roomy(count, room)
			accrue.Parts(350, l)
			accrue.Daily(350, l, api.Act365, api.Up, 5, 9)
			accrue.Daily(350, l, api.Act365, api.Up, 9, 5)
			accrue.Daily(-350, l, api.Act365, 7, 5, 9)
			if !slices.Equal(l[:count+room], rising(count+room)) {
				t.Fatalf("%d tiers, or the room behind them, were changed", count)
			}
		}
	}
}

func TestPartsAreNewMemory(t *testing.T) { // P14.1, and the rules of memory
	for count := 1; count <= api.MaxTiers; count++ {
		l := roomy(count, 3)
		one, _ := accrue.Parts(350, l)
		other, _ := accrue.Parts(350, l)
		one = one[:cap(one)]
		for i := range one {
			one[i] = -77
		}
		if slices.Contains(other[:cap(other)], -77) {
			t.Fatal("two answers share memory")
		}
		if !slices.Equal(other, unitByUnit(350, l)) || !slices.Equal(l[:count+3], rising(count+3)) {
			t.Fatal("an answer shares memory with the tiers")
		}
		clear(l[:cap(l)])
		partsAre(t, 350, rising(count), other...)
	}
}
