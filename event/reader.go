package event

import (
	"passbook/api"
	"passbook/pack"
)

// reader takes one thing behind another from the front of what is left. Behind
// the first one that is not of the form it is wrong, and stays so: what it
// answers then is not looked at.
type reader struct {
	rest  []byte
	wrong bool
}

func (r *reader) event() api.Event {
	var e api.Event
	e.Op = r.op()
	used, none := Count(e.Op)
	if none != api.OK {
		r.wrong = true
		return e
	}
	e.Key = r.unsigned()
	for i := range used {
		e.N[i] = r.signed()
	}
	if e.Op == api.OpProduct {
		e.Tiers = r.tiers()
	}
	return e
}

func (r *reader) tiers() []api.Tier {
	count := r.unsigned()
	if count > api.MaxTiers {
		r.wrong = true
		return nil
	}
	out := make([]api.Tier, count)
	for i := range out {
		out[i].From = r.signed()
		out[i].Rate = r.signed()
	}
	return out
}

func (r *reader) op() byte {
	if len(r.rest) == 0 {
		r.wrong = true
		return 0
	}
	op := r.rest[0]
	r.rest = r.rest[1:]
	return op
}

func (r *reader) unsigned() uint64 {
	n, count, e := pack.ReadUint(r.rest)
	r.took(count, e)
	return n
}

func (r *reader) signed() int64 {
	n, count, e := pack.ReadInt(r.rest)
	r.took(count, e)
	return n
}

func (r *reader) took(count int, e api.Errno) {
	r.rest = r.rest[count:]
	r.wrong = r.wrong || e != api.OK
}
