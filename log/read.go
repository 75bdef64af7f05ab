package log

import (
	"slices"

	"passbook/api"
	"passbook/sum"
)

// read goes through the segments whose files there are, and does away with what doesn't belong to their records: the payloads of these.
func (l *Log) read(segments []int64) ([][]byte, api.Errno) {
	if len(segments) > 0 {
		l.low = segments[0]
	}
	l.high, l.next = l.low, l.firstOf(l.low)
	var payloads [][]byte
	for i, k := range segments {
		l.high = k
		sectors, e := l.d.Read(name(k))
		if e != api.OK {
			return nil, e
		}
		more, rest := l.take(sectors)
		payloads = append(payloads, more...)
		later := segments[i+1:]
		if l.goesOn(rest, later) {
			continue
		}
		return payloads, l.discard((len(sectors)-len(rest))/api.Sector, rest, later)
	}
	return payloads, api.OK
}

// take goes through a file of the segment l.high: the payloads of its records, and the sectors that are none of theirs.
func (l *Log) take(sectors []byte) ([][]byte, []byte) {
	var payloads [][]byte
	for l.next <= l.lastOf(l.high) {
		r, rest, ok := readFirst(l.next, sectors)
		if !ok || !l.isLinked(r) {
			break
		}
		payloads = append(payloads, r.payload)
		l.follow(r)
		sectors = rest
	}
	return payloads, sectors
}

// isLinked: does the record hang on what came ahead of it? Where that was pruned, nobody can tell.
func (l *Log) isLinked(r record) bool {
	if l.isEmpty() && l.next != 1 {
		return true
	}
	return r.link == sum.Chain(l.ahead(), r.payload)
}

// goesOn: is the segment l.high whole, with nothing behind its records, and the next one there?
func (l *Log) goesOn(rest []byte, later []int64) bool {
	return len(rest) == 0 && l.next > l.lastOf(l.high) && len(later) > 0 && later[0] == l.high+1
}

// discard cuts the rest off the last segment's file, and removes the later ones, the greatest first: so no gap is left, wherever the power goes.
func (l *Log) discard(kept int, rest []byte, later []int64) api.Errno {
	if len(rest) > 0 {
		if e := l.d.Truncate(name(l.high), kept); e != api.OK {
			return e
		}
	}
	for _, k := range slices.Backward(later) {
		if e := l.d.Remove(name(k)); e != api.OK {
			return e
		}
	}
	return api.OK
}
