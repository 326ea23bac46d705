package op_test

import (
	"strings"
	"testing"

	"hourglass/api"
	"hourglass/op"
)

// kinds are those of the document, in its order, each with its word and what
// it has: A, B and n(ame).
var kinds = []struct {
	kind byte
	word string
	has  string
}{
	{op.RenameModule, "rename-module", "An"},
	{op.RenameFunc, "rename-func", "An"},
	{op.RenameParam, "rename-param", "An"},
	{op.RenameLet, "rename-let", "An"},
	{op.MoveFunc, "move-func", "AB"},
	{op.ExtractLet, "extract-let", "An"},
	{op.InlineLet, "inline-let", "A"},
	{op.ExtractFunc, "extract-func", "ABn"},
	{op.InlineCall, "inline-call", "A"},
	{op.AddModule, "add-module", "n"},
	{op.DropModule, "drop-module", "A"},
	{op.DropFunc, "drop-func", "A"},
	{op.FlipIf, "flip-if", "A"},
	{op.SwapParts, "swap-parts", "A"},
}

var (
	longest  = strings.Repeat("x", api.MaxName)
	names    = []string{"m", "_", "Main", "a_1", "bools", longest}
	notNames = []string{"0", "1a", "module", "bool", " ", "a b", "a ", " a", "a-b", "a.b", "é", "\x00", "a\n", longest + "x"}
)

const largest = 1<<64 - 1

// some returns the right operations of a kind with some nodes and names.
func some(kind byte, has string) []op.Op {
	l := []op.Op{{Kind: kind}}
	with := func(part string, values int, set func(o *op.Op, i int)) {
		if !strings.Contains(has, part) {
			return
		}
		var all []op.Op
		for _, o := range l {
			for i := range values {
				set(&o, i)
				all = append(all, o)
			}
		}
		l = all
	}
	ids := []api.ID{1, 2, 127, 128, 300, 1 << 32, largest}
	with("A", len(ids), func(o *op.Op, i int) { o.A = ids[i] })
	with("B", len(ids), func(o *op.Op, i int) { o.B = ids[i] })
	with("n", len(names), func(o *op.Op, i int) { o.Name = names[i] })
	return l
}

// rights returns many operations that are right.
func rights() []op.Op {
	var l []op.Op
	for _, k := range kinds {
		l = append(l, some(k.kind, k.has)...)
	}
	return l
}

// wrongs returns many that are not.
func wrongs() []op.Op {
	l := []op.Op{{}}
	for _, a := range []api.ID{0, 3, largest} {
		for _, b := range []api.ID{0, 4, largest} {
			for _, name := range append([]string{"", "m"}, notNames...) {
				for _, kind := range []byte{0, 15, 16, 128, 255} {
					l = append(l, op.Op{Kind: kind, A: a, B: b, Name: name})
				}
				for _, k := range kinds {
					has := ""
					if a != 0 {
						has += "A"
					}
					if b != 0 {
						has += "B"
					}
					if name != "" {
						has += "n"
					}
					if has != k.has || name != "" && name != "m" {
						l = append(l, op.Op{Kind: k.kind, A: a, B: b, Name: name})
					}
				}
			}
		}
	}
	return l
}

func TestKinds(t *testing.T) {
	if len(kinds) != 14 {
		t.Fatal(len(kinds))
	}
	for i, k := range kinds {
		if int(k.kind) != i+1 {
			t.Errorf("%s is %d", k.word, k.kind)
		}
	}
}

func TestRight(t *testing.T) {
	for _, o := range rights() {
		if !o.Right() {
			t.Errorf("%v is not right", o)
		}
	}
	for _, o := range wrongs() {
		if o.Right() {
			t.Errorf("%v is right", o)
		}
	}
}

// TestRightByKind tries all kinds with all choices of parts.
func TestRightByKind(t *testing.T) {
	has := map[byte]string{}
	for _, k := range kinds {
		has[k.kind] = k.has
	}
	parts := map[string]op.Op{
		"": {}, "A": {A: 5}, "B": {B: 6}, "n": {Name: "x"}, "AB": {A: 5, B: 6}, "An": {A: 5, Name: "x"}, "Bn": {B: 6, Name: "x"}, "ABn": {A: 5, B: 6, Name: "x"},
	}
	for kind := range 256 {
		for have, o := range parts {
			o.Kind = byte(kind)
			want, ok := has[o.Kind]
			if right := ok && want == have; o.Right() != right {
				t.Errorf("%v: %v", o, !right)
			}
		}
	}
}
