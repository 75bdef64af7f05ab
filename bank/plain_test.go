package bank_test

import (
	"fmt"
	"slices"
	"testing"

	"passbook/api"
	"passbook/bank"
	"passbook/disk"
	"passbook/snap"
)

func TestFirstExample(t *testing.T) { // P19.1, P19.2, P19.3
	d := diskOf(t, nil)
	w := twinOf(t, 40)
	b := opened(t, "a new disk", d, 4, 40, w)
	for i, c := range first() {
		want := api.Reply{Seq: int64(i + 1)}
		if c.Op == api.OpDeposit {
			want.N = 1000000
		}
		replies(t, b, c, want)
		w.do(t, c)
	}
	b = opened(t, "again", d, 4, 40, w)
	if n := len(b.Events()); n != 3 {
		t.Fatalf("there are %d events", n)
	}
	answers(t, "Snapshot", b.Snapshot(), api.OK)
	if got := d.Names(); !slices.Equal(got, []string{"l00000000", "s000000000003"}) {
		t.Fatalf("the files are %q", got)
	}
}

func TestSecondExample(t *testing.T) { // P19.2, P19.5
	for _, f := range fates(2) {
		d := diskOf(t, nil)
		w := twinOf(t, 40)
		b := opened(t, "a new disk", d, 4, 40, w)
		does(t, "three", b, w, first()...)
		answers(t, "Arm", d.Arm(1), api.OK)
		replies(t, b, deposit(10, 5), api.Reply{E: api.ErrDown, Seq: 3})
		replies(t, b, withdraw(10, 5), api.Reply{E: api.ErrTerminal, Seq: 3})
		answers(t, "Restart", d.Restart(f), api.OK)
		if !slices.Contains(f.Keep, false) {
			w.do(t, deposit(10, 5))
		}
		opened(t, fmt.Sprint(f), d, 4, 40, w)
	}
}

func TestThirdExample(t *testing.T) { // P19.2
	d := diskOf(t, nil)
	w := twinOf(t, 40)
	b := opened(t, "a new disk", d, 4, 40, w)
	does(t, "three", b, w, first()...)
	replies(t, b, begin(9), api.Reply{N: 3, Seq: 6})
	for _, e := range []api.Event{begin(40), step(10, 1, 100000000), roll(41)} {
		w.happen(t, e)
	}
	isLike(t, "the next day", b, w)
}

// TestExamplesOfTheWhole: those of a bank.
func TestExamplesOfTheWhole(t *testing.T) { // P19.2, P6
	d := diskOf(t, nil)
	w := twinOf(t, 40)
	b := opened(t, "a new disk", d, 4, 40, w)
	does(t, "three", b, w, product(1, api.KindDeposit, api.EUR, 0, 500), open(10, 1), deposit(10, 1000))
	refuses(t, d, b, w, withdraw(10, 1501), api.ErrFunds)
	replies(t, b, withdraw(10, 1500), api.Reply{N: 1500, Seq: 4})
	if a := b.Accounts(); len(a) != 1 || a[0].Balance != -500 {
		t.Fatalf("the accounts are %v", a)
	}
	w.do(t, withdraw(10, 1500))
	once := keyed(77, deposit(10, 5))
	for _, f := range fates(2) {
		d := diskOf(t, imageOf(t, d))
		b := opened(t, "again", d, 4, 40, w)
		answers(t, "Arm", d.Arm(1), api.OK)
		replies(t, b, once, api.Reply{E: api.ErrDown, Seq: 4})
		answers(t, "Restart", d.Restart(f), api.OK)
		b, e := bank.Open(d, 4, 40)
		answers(t, "Open", e, api.OK)
		want := api.Reply{N: 5, Seq: 5}
		if len(b.Events()) == 5 {
			want = api.Reply{E: api.ErrSeen, Seq: 5}
		}
		replies(t, b, once, want)
		if a := b.Accounts(); len(a) != 1 || a[0].Balance != -495 {
			t.Fatalf("%v: the accounts are %v", f, a)
		}
	}
}

func TestNilBank(t *testing.T) { // P19.2, P19.3, P19.4
	var b *bank.Bank
	wild := tiers(cmd(200, 1, 2, 3, 4, 5, 6, 7, 8), make([]api.Tier, 99)...)
	for _, c := range append(story(), api.Event{}, wild, begin(0), keyed(5, begin(1)), cmd(api.OpStep), cmd(api.OpRoll), with(shut(5), 1, 1)) {
		if r := b.Do(c); r != (api.Reply{E: api.ErrNone}) {
			t.Errorf("Do(%v) of a nil Bank = %v", c, r)
		}
	}
	answers(t, "Snapshot of a nil Bank", b.Snapshot(), api.ErrNone)
	if len(b.Events()) != 0 || b.Day() != 0 || b.Running() || len(b.Accounts()) != 0 || len(b.Trial()) != 0 {
		t.Errorf("a nil Bank has %v, %d, %t, %v, %v", b.Events(), b.Day(), b.Running(), b.Accounts(), b.Trial())
	}
	if n, e := b.Left(); n != 0 || e != api.ErrNone {
		t.Errorf("Left of a nil Bank = %d, error %d", n, e)
	}
}

// TestWhatABankHas: each answer, by numbers that are written out.
func TestWhatABankHas(t *testing.T) { // P19.4
	d := diskOf(t, nil)
	b, e := bank.Open(d, 4, january)
	answers(t, "Open", e, api.OK)
	if len(b.Events()) != 0 || b.Day() != january || b.Running() || len(b.Accounts()) != 0 || len(b.Trial()) != 0 {
		t.Errorf("a new bank has %v, %d, %t, %v, %v", b.Events(), b.Day(), b.Running(), b.Accounts(), b.Trial())
	}
	leaves := func(want int) {
		t.Helper()
		if n, e := b.Left(); n != want || e != api.OK {
			t.Errorf("Left = %d, error %d, want %d", n, e, want)
		}
	}
	leaves(2)
	for _, c := range first() {
		b.Do(c)
	}
	leaves(5)
	account := api.Account{ID: 10, Product: 1, Cur: api.EUR, Kind: api.KindDeposit, Open: true, Balance: 1000000}
	trial := []api.Line{{Code: api.Cash, Amount: api.Dec{Hi: 0, Lo: 1000000000000000000, Scale: 12}}, {Code: api.Deposits, Amount: api.Dec{Hi: -1, Lo: 1<<64 - 1000000000000000000, Scale: 12}}}
	if !slices.Equal(b.Accounts(), []api.Account{account}) || !slices.Equal(b.Trial(), trial) {
		t.Errorf("the bank has %v, %v", b.Accounts(), b.Trial())
	}
	replies(t, b, begin(2), api.Reply{N: 2, Seq: 5})
	account.Accrued = 100000000
	if leaves(3); b.Day() != january || !b.Running() || !slices.Equal(b.Accounts(), []api.Account{account}) {
		t.Errorf("in the midst of a run: %d, %t, %v", b.Day(), b.Running(), b.Accounts())
	}
	replies(t, b, begin(maxSteps), api.Reply{N: 3, Seq: 8})
	account.Accrued, account.Balance = 0, 1000100
	if leaves(3); b.Day() != january+1 || b.Running() || !slices.Equal(b.Accounts(), []api.Account{account}) {
		t.Errorf("the next day: %d, %t, %v", b.Day(), b.Running(), b.Accounts())
	}
}

// TestTheDiskIsKept: it is written to, and all of it belongs to the caller still.
func TestTheDiskIsKept(t *testing.T) { // the rules of memory
	d, _ := disk.New(100)
	w := twinOf(t, 40)
	b := opened(t, "a new disk", d, 4, 40, w)
	if len(d.Names()) != 0 || d.Ops() != 0 {
		t.Fatalf("Open of a new disk writes to it: %q", d.Names())
	}
	does(t, "three", b, w, first()...)
	if len(d.Names()) != 1 || d.Ops() != 6 {
		t.Fatalf("behind three commands there are %q, %d operations", d.Names(), d.Ops())
	}
	answers(t, "Append", d.Append("other", []byte("x")), api.OK)
	answers(t, "Snapshot", b.Snapshot(), api.OK)
	if n, p, e := snap.Load(d); n != 3 || string(p) != payloadOf(allBytes(first())) || e != api.OK {
		t.Fatalf("Load = %d, % x, error %d", n, p, e)
	}
	if p, e := d.Read("other"); len(p) != 32 || p[0] != 'x' || e != api.OK {
		t.Fatalf("another file has %q, error %d", p, e)
	}
}
