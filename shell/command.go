package shell

import "passbook/api"

// verb is a command's word, its Op, and how many numbers stand behind the word; the Tiers of a product come behind these.
type verb struct {
	name  string
	op    byte
	count int
}

var verbs = [...]verb{
	{"product", api.OpProduct, 8},
	{"open", api.OpOpen, 2},
	{"close", api.OpClose, 1},
	{"deposit", api.OpDeposit, 2},
	{"withdraw", api.OpWithdraw, 2},
	{"transfer", api.OpTransfer, 3},
	{"hold", api.OpHold, 3},
	{"free", api.OpFree, 2},
	{"lend", api.OpLend, 4},
	{"repay", api.OpRepay, 3},
	{"rate", api.OpRate, 3},
	{"exchange", api.OpExchange, 3},
	{"day", api.OpBegin, 1},
}

// command: of such a word and such numbers, with the Key 0.
func command(name string, numbers []int64) (api.Event, bool) {
	for _, v := range verbs {
		if v.name == name {
			return v.command(numbers)
		}
	}
	return api.Event{}, false
}

func (v verb) command(numbers []int64) (api.Event, bool) {
	if len(numbers) < v.count {
		return api.Event{}, false
	}
	tiers, ok := v.tiers(numbers[v.count:])
	if !ok {
		return api.Event{}, false
	}
	c := api.Event{Op: v.op, Tiers: tiers}
	copy(c.N[:], numbers[:v.count])
	return c, true
}

// tiers: of a product at least one, and as many as there are: whether an event may have so many is the bank's to say. Of the others none.
func (v verb) tiers(numbers []int64) ([]api.Tier, bool) {
	if v.op != api.OpProduct {
		return nil, len(numbers) == 0
	}
	if len(numbers) == 0 || len(numbers)%2 != 0 {
		return nil, false
	}
	var tiers []api.Tier
	for i := 0; i < len(numbers); i += 2 {
		tiers = append(tiers, api.Tier{From: numbers[i], Rate: numbers[i+1]})
	}
	return tiers, true
}
