package op_test

import (
	"math/rand"
	"strings"
	"testing"

	"hourglass/api"
	"hourglass/op"
)

func wantText(t *testing.T, o op.Op, want string) {
	t.Helper()
	if got := o.Text(); got != want {
		t.Errorf("Text of %v: %q, want %q", o, got, want)
	}
	if got, e := op.Read(want); got != o || e != api.OK {
		t.Errorf("Read of %q: %v, error %d, want %v", want, got, e, o)
	}
}

func wantNoRead(t *testing.T, line string) {
	t.Helper()
	if got, e := op.Read(line); got != (op.Op{}) || e != api.ErrText {
		t.Errorf("Read of %.200q: %v, error %d, want ErrText", line, got, e)
	}
}

func TestWord(t *testing.T) {
	words := map[byte]string{}
	for _, k := range kinds {
		words[k.kind] = k.word
	}
	for kind := range 256 {
		if got, want := op.Word(byte(kind)), words[byte(kind)]; got != want {
			t.Errorf("Word of %d: %q, want %q", kind, got, want)
		}
	}
}

func TestText(t *testing.T) {
	wantText(t, op.Op{Kind: op.RenameModule, A: 2, Name: "m"}, "rename-module 2 m")
	wantText(t, op.Op{Kind: op.RenameFunc, A: 10, Name: "f0"}, "rename-func 10 f0")
	wantText(t, op.Op{Kind: op.RenameParam, A: 128, Name: "_"}, "rename-param 128 _")
	wantText(t, op.Op{Kind: op.RenameLet, A: 300, Name: "Ab"}, "rename-let 300 Ab")
	wantText(t, op.Op{Kind: op.MoveFunc, A: 3, B: 2}, "move-func 3 2")
	wantText(t, op.Op{Kind: op.ExtractLet, A: 9, Name: "x"}, "extract-let 9 x")
	wantText(t, op.Op{Kind: op.InlineLet, A: 9}, "inline-let 9")
	wantText(t, op.Op{Kind: op.ExtractFunc, A: 9, B: 2, Name: "f"}, "extract-func 9 2 f")
	wantText(t, op.Op{Kind: op.InlineCall, A: 65537}, "inline-call 65537")
	wantText(t, op.Op{Kind: op.AddModule, Name: "m"}, "add-module m")
	wantText(t, op.Op{Kind: op.DropModule, A: 2}, "drop-module 2")
	wantText(t, op.Op{Kind: op.DropFunc, A: 3}, "drop-func 3")
	wantText(t, op.Op{Kind: op.FlipIf, A: 4}, "flip-if 4")
	wantText(t, op.Op{Kind: op.SwapParts, A: largest}, "swap-parts 18446744073709551615")
	wantText(t, op.Op{Kind: op.AddModule, Name: longest}, "add-module "+longest)
}

func TestTextOfAll(t *testing.T) {
	for _, o := range rights() {
		wantText(t, o, o.Text())
	}
	for _, o := range wrongs() {
		if s := o.Text(); s != "" {
			t.Errorf("Text of %v: %q", o, s)
		}
	}
}

func TestReadErrors(t *testing.T) {
	for _, line := range []string{
		"", " ", "  ", "x", "2", "m", "rename 2 m", "rename-module2 m", "Rename-module 2 m", "RENAME-MODULE 2 m", "rename_module 2 m", "rename-module", "rename-module ", "rename-module 2", "rename-module 2 ", "rename-module m",
		"rename-module m 2", "rename-module 2 2", "rename-module 2 m m", "rename-module 2 m ", "rename-module 2 m\n", "rename-module 2 m\r", " rename-module 2 m", "rename-module  2 m", "rename-module 2  m", "rename-module\t2 m", "rename-module 2\tm",
		"rename-module 02 m", "rename-module +2 m", "rename-module -2 m", "rename-module 0x2 m", "rename-module 2_0 m", "rename-module 2.0 m", "rename-module 2e0 m", "rename-module 0 m", "rename-module 00 m", "rename-module 18446744073709551616 m",
		"rename-module 18446744073709551618 m", "rename-module 99999999999999999999999999 m", "rename-module ２ m", "rename-module x m", "rename-module 2 module", "rename-module 2 1m",
		"move-func 3", "move-func 3 ", "move-func 3 0", "move-func 0 2", "move-func 3 2 1", "move-func 3 2 m", "move-func 3 m", "move-func 3 02", "move-func 3 2 ", "move-func 3  2",
		"inline-let", "inline-let ", "inline-let 0", "inline-let x", "inline-let 9 x", "inline-let 9 9", "inline-let 9 ",
		"extract-func 9 f", "extract-func 9 2", "extract-func 9 2 ", "extract-func 9 2 2", "extract-func 9 2 f f", "extract-func 9 2 f ", "extract-func 9 2 f  ", "extract-func 9 2 f 1 2 3", "extract-func 9 0 f", "extract-func f 9 2",
		"add-module", "add-module ", "add-module 2", "add-module 2 m", "add-module m 2", "add-module m ", "add-module m m", "add-module  m", "add-module 0 m", "add-module 0 0 m",
	} {
		wantNoRead(t, line)
	}
	for _, name := range notNames {
		wantNoRead(t, "add-module "+name)
		wantNoRead(t, "rename-let 4 "+name)
	}
	wantNoRead(t, strings.Repeat(" ", 1<<20))
	wantNoRead(t, "add-module "+strings.Repeat("m ", 1<<20))
	wantNoRead(t, "add-module "+strings.Repeat("m", 1<<20))
	wantNoRead(t, "inline-let "+strings.Repeat("9", 1<<20))
}

// TestReadIsTheInverse: of whatever lines, Read accepts those only that Text
// returns.
func TestReadIsTheInverse(t *testing.T) {
	accepted := 0
	try := func(line string) {
		o, e := op.Read(line)
		if e == api.OK {
			accepted++
		}
		if e == api.OK && (!o.Right() || o.Text() != line) {
			t.Errorf("Read of %q: %v, whose Text is %q", line, o, o.Text())
		}
		if e != api.OK && (e != api.ErrText || o != op.Op{}) {
			t.Errorf("Read of %q: %v, error %d", line, o, e)
		}
	}
	r := rand.New(rand.NewSource(1))
	letter := func() string {
		const letters = "0123459amx_- +\t\n\x00\xff"
		at := r.Intn(len(letters))
		return letters[at : at+1]
	}
	for _, o := range rights() {
		s := o.Text()
		for i := range s {
			try(s[:i])
			try(s[i:])
			try(s[:i] + s[i+1:])
			for range 5 {
				try(s[:i] + letter() + s[i:])
				try(s[:i] + letter() + s[i+1:])
			}
		}
		try(s + letter())
	}
	if accepted < 1000 {
		t.Error("only", accepted, "were accepted")
	}
}

// TestReadOfParts tries all rows of a few parts.
func TestReadOfParts(t *testing.T) {
	want := map[string]op.Op{}
	for kind := range byte(17) {
		for a := range api.ID(3) {
			for b := range api.ID(3) {
				for _, name := range []string{"", "m"} {
					if o := (op.Op{Kind: kind, A: a, B: b, Name: name}); o.Right() {
						want[o.Text()] = o
					}
				}
			}
		}
	}
	words := []string{""}
	for kind := range byte(17) {
		words = append(words, op.Word(kind))
	}
	found := map[string]struct{}{}
	var try func(line string, more int)
	try = func(line string, more int) {
		o, e := op.Read(line)
		expected, ok := want[line]
		if o != expected || (e == api.OK) != ok {
			t.Errorf("Read of %q: %v, error %d", line, o, e)
		}
		if ok {
			found[line] = struct{}{}
		}
		if more == 0 {
			return
		}
		for _, part := range []string{"", "0", "1", "2", "m", "inline-let"} {
			try(line+" "+part, more-1)
		}
	}
	for _, word := range words {
		try(word, 4)
	}
	if len(found) != len(want) {
		t.Errorf("found %d of %d", len(found), len(want))
	}
}
