package disk

import "passbook/api"

// Arm: when the power goes. Restart: it is on again. On: is it? Ops: how many operations.
func (d *Disk) Arm(n int) api.Errno {
	if n < 0 {
		return api.ErrArg
	}
	if d == nil {
		return api.ErrNone
	}
	if !d.on {
		return api.ErrDown
	}
	d.left = n
	return api.OK
}

func (d *Disk) Restart(f Fate) api.Errno {
	if d == nil {
		return api.ErrNone
	}
	if d.on {
		return api.ErrState
	}
	if f.Done && d.undone != nil {
		d.undone()
	}
	d.undone = nil
	d.settle(f.Keep)
	d.on = true // and nothing is armed: left came to 0 when the power went
	return api.OK
}

func (d *Disk) On() bool { return d != nil && d.on }

func (d *Disk) Ops() int {
	if d == nil {
		return 0
	}
	return d.ops
}

// begin counts an operation, and tells whether the power stays on at it.
func (d *Disk) begin() bool {
	d.ops++
	if d.left > 0 {
		d.left--
		d.on = d.left > 0
	}
	return d.on
}

// perform does an operation other than Append, or keeps it for Restart, if the power goes at it.
func (d *Disk) perform(operation func()) api.Errno {
	if !d.on {
		return api.ErrDown
	}
	if !d.begin() {
		d.undone = operation
		return api.ErrDown
	}
	operation()
	return api.OK
}

// settle makes noughts of the unsynced sectors that are not kept, and counts all as synced.
func (d *Disk) settle(keep []bool) {
	i := 0
	for _, name := range d.sorted() {
		f := d.files[name]
		for k := f.synced; k < len(f.sectors); k++ {
			if i >= len(keep) || !keep[i] {
				f.sectors[k] = sector{}
			}
			i++
		}
		f.synced = len(f.sectors)
	}
}
