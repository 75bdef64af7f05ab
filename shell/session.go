package shell

import (
	"passbook/api"
	"passbook/bank"
	"passbook/cal"
	"passbook/disk"
	"passbook/recon"
)

const (
	sectors  = 4000 // of the disk
	per      = 8    // records to a segment of the log
	maxCrash = 1000 // operations ahead
)

// session is a bank on its disk, while a script is told to it.
type session struct {
	first int // the day on which the bank began
	disk  *disk.Disk
	bank  *bank.Bank
	key   uint64 // of the next command
}

func begin(day int) (*session, api.Errno) {
	d, e := disk.New(sectors)
	if e != api.OK {
		return nil, e
	}
	s := &session{first: day, disk: d}
	return s, s.open()
}

func (s *session) open() api.Errno {
	b, e := bank.Open(s.disk, per, s.first)
	s.bank = b
	return e
}

func (s *session) answer(line string) string {
	name, numbers, ok := read(line)
	if !ok {
		return fails(api.ErrText)
	}
	deed := s.deed(name, numbers)
	if deed == nil {
		return fails(api.ErrText)
	}
	return deed()
}

// deed: what a line of that word and these numbers does, and its answer; nil, where it is none.
func (s *session) deed(name string, numbers []int64) func() string {
	if c, ok := command(name, numbers); ok {
		return s.order(c)
	}
	switch len(numbers) {
	case 0:
		return s.plain(name)
	case 1:
		return s.numbered(name, numbers[0])
	}
	return nil
}

// order: the key is gone with the command, though the power is off; but an end of day has none, and leaves it to the next command.
func (s *session) order(c api.Event) func() string {
	do := s.powered(func() string {
		r := s.bank.Do(c)
		if r.E != api.OK {
			return fails(r.E)
		}
		return tell("ok", r.N, r.Seq)
	})
	return func() string {
		if c.Op != api.OpBegin {
			c.Key, s.key = s.key, 0
		}
		return do()
	}
}

func (s *session) plain(name string) func() string {
	switch name {
	case "snapshot":
		return s.powered(func() string { return s.count(s.bank.Snapshot()) })
	case "restart":
		return func() string { return s.count(s.restart()) }
	case "today":
		return s.powered(s.today)
	case "agrees":
		return s.powered(s.agrees)
	}
	return nil
}

func (s *session) numbered(name string, n int64) func() string {
	switch {
	case name == "key" && n >= 0:
		return func() string {
			s.key = uint64(n)
			return tell(name, n)
		}
	case name == "crash" && n >= 0 && n <= maxCrash:
		return s.powered(func() string {
			s.disk.Arm(int(n))
			return tell(name, n)
		})
	case name == "account":
		return s.powered(func() string { return s.account(n) })
	}
	return nil
}

// powered: the deed, but ErrDown while the power is off: nothing else is asked then.
func (s *session) powered(deed func() string) func() string {
	return func() string {
		if !s.disk.On() {
			return fails(api.ErrDown)
		}
		return deed()
	}
}

// restart: of what was not synced nothing is kept, since a script has no say in it.
func (s *session) restart() api.Errno {
	if e := s.disk.Restart(disk.Fate{}); e != api.OK {
		return e
	}
	return s.open()
}

// count: how many events there are, where nothing failed.
func (s *session) count(e api.Errno) string {
	if e != api.OK {
		return fails(e)
	}
	return tell("ok", int64(0), int64(len(s.bank.Events())))
}

func (s *session) account(id int64) string {
	for _, a := range s.bank.Accounts() {
		if a.ID == id {
			return tell("account", id, "balance", a.Balance, "held", a.Held, "accrued", a.Accrued)
		}
	}
	return fails(api.ErrNone)
}

func (s *session) today() string {
	text, e := cal.Write(s.bank.Day())
	if e != api.OK {
		return fails(e)
	}
	if s.bank.Running() {
		return tell(text, "running")
	}
	return tell(text, "open")
}

func (s *session) agrees() string {
	report, e := recon.Make(s.first, s.bank.Events())
	if e != api.OK {
		return fails(e)
	}
	return tell(report.Agrees)
}

func fails(e api.Errno) string { return tell("error", e) }
