package shell_test

import (
	"strings"
	"testing"

	"hourglass/api"
	"hourglass/op"
	"hourglass/shell"
)

// noNumbers are words that are no N.
func noNumbers() []string {
	return []string{
		"", "x", "-", "--1", "+1", "00", "01", "-01", "1x", "x1", "1.0", "1e1", "0x1", "1_0", "2147483649", "4294967297", "18446744073709551617",
		"-2147483649", "99999999999999999999999999", "1\t", "\t1", "1\r", "é", "\x00", "１",
	}
}

// wrongLines are in no table.
func wrongLines() []string {
	l := []string{
		"", " ", "  ", "x", "help", "Stamp", "STAMP", "stamps", "stam", " stamp", "stamp\r", "stamp\t", "\tstamp", "format\tx", "é", "\x00", "\xff",
		"crash", "crash ", "crash 2", "crash 01x", "crash 0 1", "crash --", "crash -0", "crash 0-", "crash  0", "crash 0 ", "crash - ", "crash true", "crash １",
		"rot", "rot ", "rot 1", "rot 1 2", "rot 1 2 3 4", "rot  1 2 3", "rot 1  2 3", "rot 1 2 3 ", "rot 1 2 256", "rot 1 2 2147483648", "rot -1 2 3", "rot 1 -2 3", "rot 1 2 -3",
		"run ", "run  ", "run  1", "run 1 ", "run 1  2", "run -", "run 1 - 2", "run 1,2", "limit -1", "undo -1", "where -1", "undo trunk",
		"rename-module", "rename-module 2", "rename-module 2 ", "rename-module 2 k k", "rename-module 02 k", "rename-module  2 k", "rename-module 2 if", "rename-module 0 k", "rename-module -2 k",
		"rename-module 18446744073709551616 k", "Rename-module 2 k", "add-module", "add-module ", "add-module 1", "move-func 3", "move-func 3 2 x", "swap-parts 7 8", "flip-if", "do rename-module 2 k",
		"fork", "switch", "merge", "format", "undo 1 2", "redo 1 2", "limit 1 2", "where 1 2",
	}
	for _, word := range []string{"sync", "compact", "recover", "program", "branch", "branches", "stamp", "gen", "commands", "log"} {
		l = append(l, word+" ", word+" x", word+" 1", word+word, word+"-", strings.ToUpper(word))
	}
	for _, n := range noNumbers() {
		l = append(l, "undo "+n, "redo "+n, "limit "+n, "where "+n, "rot "+n+" 1 1", "rot 1 "+n+" 1", "rot 1 1 "+n, "run "+n, "run 1 "+n, "run "+n+" 1")
	}
	return l
}

// TestWrongLines: they change nothing, be there an engine or not.
func TestWrongLines(t *testing.T) {
	talk := []string{}
	for _, line := range wrongLines() {
		talk = append(talk, "> "+line, "error 20")
	}
	wantTalk(t, talk...)
	wantTalk(t, append([]string{"> " + little, "ok"}, talk...)...)
	for _, line := range wrongLines() {
		wantTalk(t,
			"> "+little, "ok",
			"> add-module x", "1",
			"> "+line, "error 20",
			"> log", "1+",
			"> sync", "ok",
			"> crash -", "ok",
			"> log", "1+",
		)
	}
}

// TestOtherWords: nothing begins with any other one.
func TestOtherWords(t *testing.T) {
	known := map[string]int{}
	for _, word := range shell.Words() {
		known[word] = 1
		if _, e := op.Read(word); e != api.ErrText {
			t.Errorf("%s is an operation", word)
		}
	}
	for _, a := range shell.Words() {
		for _, b := range shell.Words() {
			for _, word := range []string{a + b, a[:len(a)-1], a[1:], a + b[:1], a + "\t" + b} {
				if known[word] == 0 {
					wantTalk(t, "> "+word, "error 20", "> "+word+" 1", "error 20", "> "+word+" ", "error 20")
				}
			}
		}
	}
}

func TestNumbers(t *testing.T) {
	wantTalk(t,
		"> "+little, "ok",
		"> undo 0", "error 17",
		"> undo 2147483648", "error 17",
		"> redo 2147483647", "error 17",
		"> where 2147483648", "-",
		"> rot 400 0 255", "error 6",
		"> rot 2147483648 0 255", "error 6",
		"> rot 0 4088 0", "ok",
		"> rot 0 4089 0", "error 1",
		"> rot 0 2147483648 0", "error 1",
		"> rot 400 4089 0", "error 1",
		"> limit 2147483648", "ok",
		"> sync", "ok",
		"> run -2147483648 2147483648", "done 1",
		"> run 0 -0", "done 1",
	)
}
