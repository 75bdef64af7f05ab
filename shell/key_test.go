package shell_test

import (
	"fmt"
	"testing"
)

func TestKeyOfACommand(t *testing.T) { // P22.2
	for _, key := range []string{"1", "7", "300", "1000", "1001", "9223372036854775806", "9223372036854775807"} {
		say := fmt.Sprintf("key %s -> key %s\n", key, key)
		answers(t, 40, first+say+`
deposit 10 5 -> ok 5 4
`+say+`
deposit 10 5 -> error 16
deposit 10 5 -> ok 5 5
`+say+`
withdraw 10 5 -> error 16
withdraw 10 5 -> ok 5 6
account 10 -> account 10 balance 1000005 held 0 accrued 0
`)
	}
}

// TestKeyNought: it is none.
func TestKeyNought(t *testing.T) { // P22.2
	answers(t, 40, first+`
key 0 -> key 0
deposit 10 5 -> ok 5 4
key 0 -> key 0
deposit 10 5 -> ok 5 5
key 7 -> key 7
key 0 -> key 0
deposit 10 5 -> ok 5 6
key 7 -> key 7
deposit 10 5 -> ok 5 7
key 7 -> key 7
deposit 10 5 -> error 16
`)
}

// TestKeyOfEachCommand: whichever it is, it uses the key.
func TestKeyOfEachCommand(t *testing.T) { // P22.2
	lead := `
product 1 1 0 1 1 0 7 500 0 36500000 -> ok 0 1
product 2 1 2 1 0 6 0 0 0 1000 5000 2000 -> ok 0 2
product 3 2 0 1 2 1 0 10000000000000 0 50000000 -> ok 0 3
open 10 1 -> ok 0 4
open 11 1 -> ok 0 5
open 20 2 -> ok 0 6
open 30 3 -> ok 0 7
open 31 3 -> ok 0 8
deposit 10 1000000 -> ok 1000000 9
hold 10 5 1000 -> ok 0 10
rate 0 2 160500000000 -> ok 0 11
lend 30 10 777 12 -> ok 777 12
`
	for _, row := range []string{
		"product 4 1 0 1 1 0 7 500 0 36500000 -> ok 0 13", "open 12 1 -> ok 0 13", "close 11 -> ok 0 13", "deposit 10 5 -> ok 5 13", "withdraw 10 5 -> ok 5 13", "transfer 10 11 5 -> ok 5 13",
		"hold 10 6 5 -> ok 0 13", "free 10 5 -> ok 0 13", "lend 31 10 5 12 -> ok 5 13", "repay 30 10 5 -> ok 5 13", "rate 2 0 5 -> ok 0 13", "exchange 10 20 101 -> ok 162 13",
	} {
		answers(t, 40, lead+`
key 7 -> key 7
`+row+`
rate 3 1 5 -> ok 0 14
key 7 -> key 7
rate 3 1 6 -> error 16
rate 3 1 6 -> ok 0 15
`)
	}
}

// TestKeyOfARefusedCommand: the key is gone with it, and was not used.
func TestKeyOfARefusedCommand(t *testing.T) { // P22.2
	for _, refused := range []string{
		"withdraw 10 1000501 -> error 13", "deposit 99 5 -> error 7", "deposit 10 0 -> error 1", "open 10 1 -> error 8", "close 10 -> error 15", "rate 0 0 5 -> error 10", "lend 10 10 5 5 -> error 11",
		"product 1 1 0 1 1 0 0 500 0 1 1 1 2 1 3 1 4 1 5 1 6 1 7 1 8 1 -> error 3",
	} {
		answers(t, 40, first+`
key 7 -> key 7
`+refused+`
deposit 10 5 -> ok 5 4
key 7 -> key 7
deposit 10 5 -> ok 5 5
key 7 -> key 7
deposit 10 5 -> error 16
`)
	}
}

// TestKeyOfASeenCommand: one that is refused for its key leaves none to the next.
func TestKeyOfASeenCommand(t *testing.T) { // P22.2
	answers(t, 40, first+`
key 7 -> key 7
deposit 10 5 -> ok 5 4
key 7 -> key 7
withdraw 10 1000900 -> error 16
deposit 10 5 -> ok 5 5
`)
}

// TestKeyAheadOfOtherLines: it waits for the next command.
func TestKeyAheadOfOtherLines(t *testing.T) { // P22.2
	for _, between := range []string{
		"deposit 10 -> error 6", "deposit 10 5 5 -> error 6", "deposit 10 05 -> error 6", "product 1 1 0 1 1 0 0 500 -> error 6", " -> error 6", "nonsense -> error 6", "key -5 -> error 6", "key -> error 6", "key 5 5 -> error 6",
		"key 9223372036854775808 -> error 6", "crash 1001 -> error 6",
		"snapshot -> ok 0 3", "crash 0 -> crash 0", "crash 1000 -> crash 1000", "restart -> error 14", "account 10 -> account 10 balance 1000000 held 0 accrued 0", "account 99 -> error 7", "today -> 0001-02-09 open", "agrees -> true",
		"day 0 -> error 1", "day 4097 -> error 1",
	} {
		answers(t, 40, first+`
key 7 -> key 7
`+between+`
deposit 10 5 -> ok 5 4
key 7 -> key 7
deposit 10 5 -> error 16
`)
	}
}

func TestKeyAheadOfDay(t *testing.T) { // P22.2
	answers(t, 40, first+`
key 7 -> key 7
day 2 -> ok 2 5
day 9 -> ok 1 6
deposit 10 5 -> ok 5 7
key 7 -> key 7
day 9 -> ok 3 10
deposit 10 5 -> error 16
deposit 10 5 -> ok 5 11
`)
	answers(t, 40, first+`
day 1 -> ok 1 4
key 7 -> key 7
deposit 10 5 -> error 14
day 9 -> ok 2 6
deposit 10 5 -> ok 5 7
key 7 -> key 7
deposit 10 5 -> ok 5 8
`)
}

// TestKeyToldTwice: the later one's is the key.
func TestKeyToldTwice(t *testing.T) { // P22.2
	answers(t, 40, first+`
key 7 -> key 7
key 8 -> key 8
deposit 10 5 -> ok 5 4
key 7 -> key 7
deposit 10 5 -> ok 5 5
key 8 -> key 8
deposit 10 5 -> error 16
key 9 -> key 9
key 9 -> key 9
deposit 10 5 -> ok 5 6
deposit 10 5 -> ok 5 7
`)
}

// TestKeyBehindACrash: what was seen stays seen, whether a snapshot has it or the log.
func TestKeyBehindACrash(t *testing.T) { // P22.2
	for _, between := range []string{"crash 0 -> crash 0", "snapshot -> ok 0 4", "snapshot -> ok 0 4\nsnapshot -> ok 0 4"} {
		answers(t, 40, first+`
key 7 -> key 7
deposit 10 5 -> ok 5 4
`+between+off+`
restart -> ok 0 4
key 7 -> key 7
deposit 10 5 -> error 16
key 8 -> key 8
deposit 10 5 -> ok 5 5
`+off+`
restart -> ok 0 5
key 8 -> key 8
deposit 10 5 -> error 16
key 7 -> key 7
deposit 10 5 -> error 16
account 10 -> account 10 balance 1000010 held 0 accrued 0
`)
	}
}

// TestTypedAgain: at whatever operation the power goes, a command that is typed again with its key, up to the answer that it was seen, has happened once.
func TestTypedAgain(t *testing.T) { // P22.2, P5, P6
	typed := "key 7 -> key 7\ndeposit 10 5 -> "
	for at, table := range []string{
		"ok 5 4\n" + typed,
		"error 18\nrestart -> ok 0 3\n" + typed + "ok 5 4\n" + typed,
		"error 18\nrestart -> ok 0 3\n" + typed + "ok 5 4\n" + typed,
		"ok 5 4\ndeposit 10 5 -> error 18\nrestart -> ok 0 4\n" + typed,
		"ok 5 4\nsnapshot -> error 18\nrestart -> ok 0 4\n" + typed,
	} {
		answers(t, 40, first+fmt.Sprintf("crash %d -> crash %d\n", at, at)+typed+table+`error 16
account 10 -> account 10 balance 1000005 held 0 accrued 0
`)
	}
}

// TestKeyWhileThePowerIsOff: it is told, and kept over the restart; a command that finds no power has it, and takes it along.
func TestKeyWhileThePowerIsOff(t *testing.T) { // P22.2
	answers(t, 40, first+off+`
key 7 -> key 7
restart -> ok 0 3
deposit 10 5 -> ok 5 4
key 7 -> key 7
deposit 10 5 -> error 16
`)
	answers(t, 40, first+`
key 7 -> key 7
crash 1 -> crash 1
day 9 -> error 18
restart -> ok 0 3
deposit 10 5 -> ok 5 4
key 7 -> key 7
deposit 10 5 -> error 16
`)
	answers(t, 40, first+off+`
key 7 -> key 7
deposit 10 5 -> error 18
restart -> ok 0 3
deposit 10 5 -> ok 5 4
key 7 -> key 7
deposit 10 5 -> ok 5 5
key 7 -> key 7
deposit 10 5 -> error 16
`)
	answers(t, 40, first+off+`
key 7 -> key 7
day 9 -> error 18
deposit 10 -> error 6
today -> error 18
crash 5 -> error 18
restart -> ok 0 3
deposit 10 5 -> ok 5 4
key 7 -> key 7
deposit 10 5 -> error 16
`)
	answers(t, 40, first+off+`
key 7 -> key 7
key 8 -> key 8
restart -> ok 0 3
deposit 10 5 -> ok 5 4
key 7 -> key 7
deposit 10 5 -> ok 5 5
key 8 -> key 8
deposit 10 5 -> error 16
`)
}
