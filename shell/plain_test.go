package shell_test

import (
	"fmt"
	"math/rand"
	"regexp"
	"strings"
	"testing"

	"passbook/api"
	"passbook/bank"
	"passbook/cal"
	"passbook/disk"
	"passbook/model"
)

// caller is a bank that is asked by calls, with the lines read by their forms.
type caller struct {
	t   *testing.T
	day int
	d   *disk.Disk
	b   *bank.Bank
	key uint64
}

// plainRun: the answers, by the document's words.
func plainRun(t *testing.T, day int, script string) string {
	t.Helper()
	return plainRunOn(t, 4000, day, script)
}

// plainRunOn: on a disk of so many sectors.
func plainRunOn(t *testing.T, sectors, day int, script string) string {
	t.Helper()
	d, e := disk.New(sectors)
	if e != api.OK {
		t.Fatal(e)
	}
	c := &caller{t: t, day: day, d: d}
	c.open()
	lines := strings.Split(script, "\n")
	if last := len(lines) - 1; lines[last] == "" {
		lines = lines[:last]
	}
	var out strings.Builder
	for _, line := range lines {
		fmt.Fprintln(&out, c.says(line))
	}
	return out.String()
}

func (c *caller) open() {
	c.t.Helper()
	b, e := bank.Open(c.d, 8, c.day)
	if e != api.OK {
		c.t.Fatalf("Open: error %d", e)
	}
	c.b = b
}

var (
	keyForm     = regexp.MustCompile(`\Akey (0|[1-9][0-9]{0,17}|[1-8][0-9]{18}|9[01][0-9]{17}|922337203685477580[0-7])\z`)
	crashForm   = regexp.MustCompile(`\Acrash (0|[1-9][0-9]{0,2}|1000)\z`)
	accountForm = regexp.MustCompile(`\Aaccount (0|-?[1-9][0-9]{0,17})\z`)
)

func (c *caller) says(line string) string {
	if word := keyForm.FindStringSubmatch(line); word != nil {
		fmt.Sscan(word[1], &c.key)
		return line
	}
	if line == "restart" {
		if c.d.On() {
			return "error 14"
		}
		c.d.Restart(disk.Fate{})
		c.open()
		return fmt.Sprintf("ok 0 %d", len(c.b.Events()))
	}
	command, isCommand := plainLine(line)
	if isCommand && command.Op != api.OpBegin {
		command.Key, c.key = c.key, 0
	}
	number := 0
	switch {
	case isCommand && !c.d.On():
		return "error 18"
	case isCommand:
		return c.does(command)
	case line == "snapshot", line == "today", line == "agrees", crashForm.MatchString(line), accountForm.MatchString(line):
		if !c.d.On() {
			return "error 18"
		}
		if _, word, ok := strings.Cut(line, " "); ok {
			fmt.Sscan(word, &number)
		}
		return c.looks(line, number)
	}
	return "error 6"
}

func (c *caller) does(command api.Event) string {
	r := c.b.Do(command)
	if r.E != api.OK {
		return fmt.Sprint("error ", int(r.E))
	}
	return fmt.Sprintf("ok %d %d", r.N, r.Seq)
}

// looks: at what there is, or has it written down.
func (c *caller) looks(line string, number int) string {
	switch strings.Fields(line)[0] {
	case "snapshot":
		if e := c.b.Snapshot(); e != api.OK {
			return fmt.Sprint("error ", int(e))
		}
		return fmt.Sprintf("ok 0 %d", len(c.b.Events()))
	case "crash":
		c.d.Arm(number)
		return line
	case "today":
		text, _ := cal.Write(c.b.Day())
		return text + map[bool]string{false: " open", true: " running"}[c.b.Running()]
	case "account":
		for _, a := range c.b.Accounts() {
			if a.ID == int64(number) {
				return fmt.Sprintf("account %d balance %d held %d accrued %d", a.ID, a.Balance, a.Held, a.Accrued)
			}
		}
		return "error 7"
	}
	return fmt.Sprint(c.agrees())
}

// agrees: the events happen to a model, to which the bank's accounts and ledger are alike.
func (c *caller) agrees() bool {
	c.t.Helper()
	m, _ := model.New(c.day)
	for _, e := range c.b.Events() {
		if refused := m.Apply(e); refused != api.OK {
			c.t.Fatalf("%v: error %d", e, refused)
		}
	}
	return fmt.Sprint(m.Accounts(), m.Trial()) == fmt.Sprint(c.b.Accounts(), c.b.Trial())
}

// TestByCalls: commands by lines and the same commands by calls have the same replies.
func TestByCalls(t *testing.T) { // P22.2
	for _, table := range []string{first, story, first + off, story + off + "restart -> ok 0 34\n"} {
		script := scriptOf(t, table+lines)
		if got, want := run(t, storyDay, script), plainRun(t, storyDay, script); got != want {
			t.Errorf("of %q:\n%s, want\n%s", script, got, want)
		}
	}
}

// someLine: at random, right as a rule.
func someLine(r *rand.Rand) string {
	pick := func(texts ...string) string { return texts[r.Intn(len(texts))] }
	account := func() string { return pick("10", "11", "12", "20", "30", "31", "99") }
	amount := func() string { return pick("1", "5", "100", "5000", "1000000", "0", "-1", "10000000000000") }
	cur := func() string { return pick("0", "0", "2", "1", "3", "4") }
	switch r.Intn(26) {
	case 0:
		return fmt.Sprintf("product %s %s %s %d %d %d %s 500 0 36500000", pick("1", "2", "3", "4"), pick("1", "2"), cur(), 1+r.Intn(45), r.Intn(4), r.Intn(7), pick("0", "7"))
	case 1, 2:
		return fmt.Sprint("open ", account(), " ", pick("1", "2", "3", "4"))
	case 3:
		return "close " + account()
	case 4, 5, 6:
		return fmt.Sprint("deposit ", account(), " ", amount())
	case 7, 8:
		return fmt.Sprint("withdraw ", account(), " ", amount())
	case 9:
		return fmt.Sprint("transfer ", account(), " ", account(), " ", amount())
	case 10:
		return fmt.Sprint("hold ", account(), " ", pick("1", "2", "0"), " ", amount())
	case 11:
		return fmt.Sprint("free ", account(), " ", pick("1", "2", "0"))
	case 12:
		return fmt.Sprint("lend ", pick("30", "31"), " ", account(), " ", amount(), " 12")
	case 13:
		return fmt.Sprint("repay ", pick("30", "31"), " ", account(), " ", amount())
	case 14:
		return fmt.Sprint("rate ", cur(), " ", cur(), " ", pick("1000000000", "160500000000", "0"))
	case 15:
		return fmt.Sprint("exchange ", account(), " ", account(), " ", amount())
	case 16, 17:
		return "day " + pick("1", "2", "9", "4096", "0", "4097")
	case 18:
		return "snapshot"
	case 19:
		return "crash " + pick("0", "1", "2", "3", "4", "5", "6", "9", "20", "1000", "1001", "-1")
	case 20, 21:
		return "restart"
	case 22:
		return "account " + account()
	case 23:
		return pick("today", "agrees")
	case 24:
		return "key " + pick("0", "1", "2", "3", "4", "5", "9223372036854775807", "9223372036854775808", "-1")
	}
	return pick("", " ", "nonsense", "deposit 10", "deposit 10 05", "today ", " agrees", "restart 1", "deposit  10 5", "key", "crash 1 1", "product 1 1 0 1 1 0 0 500", "product 1 1 0 1 1 0 0 500 0 1 1 1 2 1 3 1 4 1 5 1 6 1 7 1 8 1", "-0", "close -0")
}

// TestAtRandom: long scripts have the answers of the calls; and what stands behind a line changes no answer ahead of it.
func TestAtRandom(t *testing.T) { // P22.2
	r := rand.New(rand.NewSource(1))
	seen := map[string]int{}
	for range 150 {
		day := 1 + r.Intn(60)
		script := scriptOf(t, "product 1 1 0 1 1 0 7 500 0 36500000 -> \nproduct 2 1 2 1 0 6 0 0 0 1000 -> \nproduct 3 2 0 1 2 1 0 10000000000000 0 50000000 -> \nopen 10 1 -> \nopen 20 2 -> \nopen 30 3 -> \n")
		for range 20 + r.Intn(250) {
			script += someLine(r) + "\n"
		}
		got := run(t, day, script)
		if want := plainRun(t, day, script); got != want {
			t.Fatalf("Run(%d, %q) =\n%s, want\n%s", day, script, got, want)
		}
		for _, answer := range strings.Split(got, "\n") {
			if strings.HasPrefix(answer, "error") {
				seen[answer]++
			} else {
				seen[strings.SplitN(answer, " ", 2)[0]]++
			}
		}
		all := strings.SplitAfter(script, "\n")
		some := strings.Join(all[:r.Intn(len(all))], "")
		if ahead := run(t, day, some); !strings.HasPrefix(got, ahead) {
			t.Fatalf("Run(%d, %q) =\n%s, and with more behind it\n%s", day, some, ahead, got)
		}
	}
	for _, answer := range []string{"ok", "key", "crash", "account", "true", "error 1", "error 3", "error 6", "error 7", "error 8", "error 10", "error 11", "error 12", "error 13", "error 14", "error 15", "error 16", "error 18"} {
		if seen[answer] < 5 {
			t.Errorf("%q was answered %d times", answer, seen[answer])
		}
	}
	if seen["false"] != 0 || seen["error 19"] != 0 {
		t.Errorf("what can't be was answered: %v", seen)
	}
}
