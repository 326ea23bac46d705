package step_test

import (
	"math"
	"math/rand"
	"testing"

	"hourglass/api"
	"hourglass/arena"
	"hourglass/local"
	"hourglass/name"
	"hourglass/op"
	"hourglass/outline"
	"hourglass/shape"
	"hourglass/step"
	"hourglass/trial"
)

// laid is a program with something of each kind: the functions of m, the
// beginning of main, and modules at the end.
func laid(m, main, modules string) string {
	return "module m { " + m + " } module main { func main() int { " + main + " } } " + modules
}

const (
	functions = "func f(p int) int { return (p + 1); } func g() int { return 1; }"
	body      = "let x int = (2 + 3); if (1 < 2) { print m.f(x); } else { } return x;"
	modules   = "module e { }"
)

// wantNodes expects of a program that it has these nodes.
func wantNodes(t *testing.T, what string, a *arena.Arena, kinds map[api.ID]byte) {
	t.Helper()
	for id, want := range kinds {
		if n, ok := a.Get(id); !ok || n.Kind != want {
			t.Errorf("%s: the node %d has kind %d, want %d", what, id, n.Kind, want)
		}
	}
}

// TestApply applies an operation of each kind.
func TestApply(t *testing.T) {
	a := trial.Right(t, laid(functions, body, modules))
	m, e, f, g, p, x := trial.Named(t, a, "m"), trial.Named(t, a, "e"), trial.Named(t, a, "f"), trial.Named(t, a, "g"), trial.Named(t, a, "p"), trial.Named(t, a, "x")
	sum, call, choice := trial.Find(t, a, "(2 + 3)"), trial.Find(t, a, "m.f(x)"), trial.Kind(a, arena.If)[0]
	const stamp, first = 7, 7*65536 + 1
	for _, c := range []struct {
		o    op.Op
		want string
		new  map[api.ID]byte
	}{
		{op.Op{Kind: op.RenameModule, A: e, Name: "k"}, laid(functions, body, "module k { }"), nil},
		{op.Op{Kind: op.RenameFunc, A: g, Name: "k"}, laid("func f(p int) int { return (p + 1); } func k() int { return 1; }", body, modules), nil},
		{op.Op{Kind: op.RenameParam, A: p, Name: "k"}, laid("func f(k int) int { return (k + 1); } func g() int { return 1; }", body, modules), nil},
		{op.Op{Kind: op.RenameLet, A: x, Name: "k"}, laid(functions, "let k int = (2 + 3); if (1 < 2) { print m.f(k); } else { } return k;", modules), nil},
		{op.Op{Kind: op.MoveFunc, A: f, B: e}, laid("func g() int { return 1; }", "let x int = (2 + 3); if (1 < 2) { print e.f(x); } else { } return x;", "module e { func f(p int) int { return (p + 1); } }"), nil},
		{op.Op{Kind: op.ExtractLet, A: sum, Name: "k"}, laid(functions, "let k int = (2 + 3); let x int = k; if (1 < 2) { print m.f(x); } else { } return x;", modules),
			map[api.ID]byte{first: arena.Let, first + 1: arena.Var}},
		{op.Op{Kind: op.InlineLet, A: x}, laid(functions, "if (1 < 2) { print m.f((2 + 3)); } else { } return (2 + 3);", modules),
			map[api.ID]byte{first: arena.Int, first + 2: arena.Bin, first + 5: arena.Bin}},
		{op.Op{Kind: op.ExtractFunc, A: sum, B: e, Name: "k"}, laid(functions, "let x int = e.k(); if (1 < 2) { print m.f(x); } else { } return x;", "module e { func k() int { return (2 + 3); } }"),
			map[api.ID]byte{first: arena.Func, first + 1: arena.Block, first + 2: arena.Return, first + 3: arena.Call}},
		{op.Op{Kind: op.InlineCall, A: call}, laid(functions, "let x int = (2 + 3); if (1 < 2) { print (x + 1); } else { } return x;", modules),
			map[api.ID]byte{first: arena.Var, first + 1: arena.Int, first + 2: arena.Bin}},
		{op.Op{Kind: op.AddModule, Name: "k"}, laid(functions, body, modules+" module k { }"), map[api.ID]byte{first: arena.Module}},
		{op.Op{Kind: op.DropModule, A: e}, laid(functions, body, ""), nil},
		{op.Op{Kind: op.DropFunc, A: g}, laid("func f(p int) int { return (p + 1); }", body, modules), nil},
		{op.Op{Kind: op.FlipIf, A: choice}, laid(functions, "let x int = (2 + 3); if !(1 < 2) { } else { print m.f(x); } return x;", modules), map[api.ID]byte{first: arena.Not}},
		{op.Op{Kind: op.SwapParts, A: sum}, laid(functions, "let x int = (3 + 2); if (1 < 2) { print m.f(x); } else { } return x;", modules), nil},
		{op.Op{Kind: op.RenameModule, A: m, Name: "k"}, "module k { " + functions + " } module main { func main() int { let x int = (2 + 3); if (1 < 2) { print k.f(x); } else { } return x; } } " + modules, nil},
	} {
		got := trial.Of(step.Apply(a, c.o, stamp))
		trial.WantProgram(t, c.o.Text(), got, c.want)
		wantNodes(t, c.o.Text(), got.Arena, c.new)
		if got.Arena.Len() > a.Len() && len(c.new) == 0 {
			t.Errorf("%s: has made nodes", c.o.Text())
		}
		trial.WantNew(t, c.o.Text(), a.Copy(), func(a *arena.Arena) (*arena.Arena, api.Errno) { return step.Apply(a, c.o, stamp) })
	}
}

// notRight are operations that are not right, with nodes of a program.
func notRight(a *arena.Arena) []op.Op {
	var l []op.Op
	for kind := range 256 {
		for _, id := range a.IDs() {
			for _, o := range []op.Op{
				{Kind: byte(kind)},
				{Kind: byte(kind), A: id},
				{Kind: byte(kind), A: id, B: id},
				{Kind: byte(kind), A: id, Name: "k"},
				{Kind: byte(kind), B: id, Name: "k"},
				{Kind: byte(kind), A: id, B: id, Name: "k"},
				{Kind: byte(kind), A: id, B: id, Name: "if"},
				{Kind: byte(kind), Name: "k"},
			} {
				if !o.Right() {
					l = append(l, o)
				}
			}
		}
	}
	return l
}

// TestApplyNotRight: of all errors ErrArg is the first.
func TestApplyNotRight(t *testing.T) {
	a := trial.Right(t, laid("", "return 0;", ""))
	before := a.Copy()
	for _, o := range notRight(a) {
		trial.WantError(t, "an operation", trial.Of(step.Apply(a, o, 1)), api.ErrArg)
		trial.WantError(t, "an operation", trial.Of(step.Apply(nil, o, 0)), api.ErrArg)
		trial.WantError(t, "an operation", trial.Of(step.Apply(arena.New(), o, math.MaxUint32)), api.ErrArg)
	}
	for _, s := range trial.NoNames() {
		for _, kind := range []byte{op.RenameModule, op.RenameFunc, op.RenameParam, op.RenameLet, op.ExtractLet} {
			trial.WantError(t, s, trial.Of(step.Apply(a, op.Op{Kind: kind, A: 2, Name: s}, 1)), api.ErrArg)
		}
		trial.WantError(t, s, trial.Of(step.Apply(a, op.Op{Kind: op.AddModule, Name: s}, 1)), api.ErrArg)
		trial.WantError(t, s, trial.Of(step.Apply(a, op.Op{Kind: op.ExtractFunc, A: 6, B: 2, Name: s}, 1)), api.ErrArg)
	}
	if !arena.Same(a, before) {
		t.Error("the program has changed")
	}
}

// TestApplyErrors: those of each call are returned.
func TestApplyErrors(t *testing.T) {
	a := trial.Right(t, laid("func f() int { return (1 / 2); } func g(p int, q int) int { let x int = 1; x = 2; print p; return (q - 1); }", "return m.f();", "module e { }"))
	m, e, f, g, p, x := trial.Named(t, a, "m"), trial.Named(t, a, "e"), trial.Named(t, a, "f"), trial.Named(t, a, "g"), trial.Named(t, a, "p"), trial.Named(t, a, "x")
	quotient, difference, call := trial.Find(t, a, "(1 / 2)"), trial.Find(t, a, "(q - 1)"), trial.Find(t, a, "m.f()")
	for _, c := range []struct {
		o    op.Op
		want api.Errno
	}{
		{op.Op{Kind: op.RenameModule, A: f, Name: "k"}, api.ErrNone},
		{op.Op{Kind: op.RenameModule, A: m, Name: "e"}, api.ErrClash},
		{op.Op{Kind: op.RenameModule, A: trial.Named(t, a, "main"), Name: "k"}, api.ErrNone},
		{op.Op{Kind: op.RenameFunc, A: m, Name: "k"}, api.ErrNone},
		{op.Op{Kind: op.RenameFunc, A: f, Name: "g"}, api.ErrClash},
		{op.Op{Kind: op.RenameParam, A: x, Name: "k"}, api.ErrNone},
		{op.Op{Kind: op.RenameParam, A: p, Name: "q"}, api.ErrClash},
		{op.Op{Kind: op.RenameLet, A: p, Name: "k"}, api.ErrNone},
		{op.Op{Kind: op.RenameLet, A: x, Name: "p"}, api.ErrClash},
		{op.Op{Kind: op.MoveFunc, A: m, B: e}, api.ErrNone},
		{op.Op{Kind: op.MoveFunc, A: f, B: f}, api.ErrNone},
		{op.Op{Kind: op.ExtractLet, A: x, Name: "k"}, api.ErrNone},
		{op.Op{Kind: op.ExtractLet, A: quotient, Name: "k"}, api.ErrUnsafe},
		{op.Op{Kind: op.ExtractLet, A: difference, Name: "p"}, api.ErrClash},
		{op.Op{Kind: op.InlineLet, A: p}, api.ErrNone},
		{op.Op{Kind: op.InlineLet, A: x}, api.ErrUnsafe},
		{op.Op{Kind: op.ExtractFunc, A: difference, B: f, Name: "k"}, api.ErrNone},
		{op.Op{Kind: op.ExtractFunc, A: difference, B: m, Name: "f"}, api.ErrClash},
		{op.Op{Kind: op.InlineCall, A: quotient}, api.ErrNone},
		{op.Op{Kind: op.AddModule, Name: "m"}, api.ErrClash},
		{op.Op{Kind: op.DropModule, A: f}, api.ErrNone},
		{op.Op{Kind: op.DropModule, A: m}, api.ErrUsed},
		{op.Op{Kind: op.DropFunc, A: m}, api.ErrNone},
		{op.Op{Kind: op.DropFunc, A: f}, api.ErrUsed},
		{op.Op{Kind: op.FlipIf, A: call}, api.ErrNone},
		{op.Op{Kind: op.SwapParts, A: call}, api.ErrNone},
		{op.Op{Kind: op.SwapParts, A: difference}, api.ErrUnsafe},
		{op.Op{Kind: op.DropFunc, A: math.MaxUint64}, api.ErrNone},
	} {
		trial.WantError(t, c.o.Text(), trial.Of(step.Apply(a, c.o, 3)), c.want)
	}
	trial.WantProgram(t, "DropFunc", trial.Of(step.Apply(a, op.Op{Kind: op.DropFunc, A: g}, 3)), laid("func f() int { return (1 / 2); }", "return m.f();", "module e { }"))
}

// full are operations that need new nodes.
func full(t *testing.T, a *arena.Arena) []op.Op {
	return []op.Op{
		{Kind: op.ExtractLet, A: trial.Find(t, a, "(2 + 3)"), Name: "k"},
		{Kind: op.InlineLet, A: trial.Named(t, a, "x")},
		{Kind: op.ExtractFunc, A: trial.Find(t, a, "(2 + 3)"), B: trial.Named(t, a, "m"), Name: "k"},
		{Kind: op.InlineCall, A: trial.Find(t, a, "m.f(x)")},
		{Kind: op.AddModule, Name: "k"},
		{Kind: op.FlipIf, A: trial.Kind(a, arena.If)[0]},
	}
}

// TestStamps: a stamp gives new IDs, unless it is 0 or was used.
func TestStamps(t *testing.T) {
	a := trial.Right(t, laid(functions, body, modules))
	for _, o := range full(t, a) {
		trial.WantError(t, o.Text(), trial.Of(step.Apply(a, o, 0)), api.ErrFull)
		for _, stamp := range []uint32{1, 2, 1 << 16, 1 << 31, math.MaxUint32} {
			b, e := step.Apply(a, op.Op{Kind: op.AddModule, Name: "other"}, stamp)
			if e != api.OK {
				t.Fatal(e)
			}
			trial.WantError(t, o.Text(), trial.Of(step.Apply(b, o, stamp)), api.ErrFull)
			if _, e := step.Apply(b, o, stamp/2+7); e != api.OK {
				t.Errorf("%s with another stamp than %d: error %d", o.Text(), stamp, e)
			}
		}
	}
	flip := op.Op{Kind: op.FlipIf, A: trial.Kind(a, arena.If)[0]}
	b, e := step.Apply(a, flip, 1)
	if e != api.OK {
		t.Fatal(e)
	}
	trial.WantArena(t, "a flip without new nodes", trial.Of(step.Apply(b, flip, 0)), a)
}

func TestNotRight(t *testing.T) {
	program := laid(functions, body, modules)
	a := trial.Right(t, program)
	for _, w := range trial.Wrongs(t, program) {
		for _, o := range append(full(t, a), op.Op{Kind: op.SwapParts, A: 1}, op.Op{Kind: op.MoveFunc, A: 2, B: 3}, op.Op{Kind: op.RenameLet, A: 4, Name: "main"}) {
			trial.WantError(t, w.Why+": "+o.Text(), trial.Of(step.Apply(w.Arena, o, 1)), api.ErrForm)
		}
		l := []step.Stamped{{Stamp: 5, Op: op.Op{Kind: op.AddModule, Name: "k"}}}
		wantNoFold(t, w.Why, w.Arena, l, 5, api.ErrForm)
		b, stamp, e := step.Fold(w.Arena, nil)
		if stamp != 0 || e != api.OK || !arena.Same(b, w.Arena) {
			t.Errorf("%s: Fold of nothing: %v, %d, error %d", w.Why, b, stamp, e)
		}
	}
}

// direct makes the call that is meant.
func direct(a *arena.Arena, o op.Op, stamp uint32) trial.Result {
	calls := map[byte]func() (*arena.Arena, api.Errno){
		1:  func() (*arena.Arena, api.Errno) { return name.Rename(a, 2, o.A, o.Name) },
		2:  func() (*arena.Arena, api.Errno) { return name.Rename(a, 3, o.A, o.Name) },
		3:  func() (*arena.Arena, api.Errno) { return name.Rename(a, 4, o.A, o.Name) },
		4:  func() (*arena.Arena, api.Errno) { return name.Rename(a, 6, o.A, o.Name) },
		5:  func() (*arena.Arena, api.Errno) { return name.Move(a, o.A, o.B) },
		6:  func() (*arena.Arena, api.Errno) { return local.Extract(a, o.A, o.Name, op.Fresh(stamp)) },
		7:  func() (*arena.Arena, api.Errno) { return local.Inline(a, o.A, op.Fresh(stamp)) },
		8:  func() (*arena.Arena, api.Errno) { return outline.Extract(a, o.A, o.B, o.Name, op.Fresh(stamp)) },
		9:  func() (*arena.Arena, api.Errno) { return outline.Inline(a, o.A, op.Fresh(stamp)) },
		10: func() (*arena.Arena, api.Errno) { return name.AddModule(a, o.Name, op.Fresh(stamp)) },
		11: func() (*arena.Arena, api.Errno) { return name.DropModule(a, o.A) },
		12: func() (*arena.Arena, api.Errno) { return name.DropFunc(a, o.A) },
		13: func() (*arena.Arena, api.Errno) { return shape.Flip(a, o.A, op.Fresh(stamp)) },
		14: func() (*arena.Arena, api.Errno) { return shape.Swap(a, o.A) },
	}
	if !o.Right() {
		return trial.Fail(api.ErrArg)
	}
	return trial.Of(calls[o.Kind]())
}

// TestGarbage: of an arena that is not right, only ErrArg comes before ErrForm.
func TestGarbage(t *testing.T) {
	below := rand.New(rand.NewSource(1)).Intn
	trial.WantForm(t, below, laid(functions, body, modules), func(a *arena.Arena, some func() api.ID) map[string]trial.Result {
		calls := map[string]trial.Result{}
		for kind := byte(1); kind <= op.SwapParts; kind++ {
			for _, o := range []op.Op{{Kind: kind, A: some()}, {Kind: kind, A: some(), B: some()}, {Kind: kind, A: some(), Name: "k"}, {Kind: kind, A: some(), B: some(), Name: "k"}} {
				if o.Right() {
					calls[o.Text()] = trial.Of(step.Apply(a, o, 1))
				}
			}
		}
		return calls
	})
}
