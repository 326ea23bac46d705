package judge_test

import (
	"math"
	"slices"
	"testing"

	"hourglass/api"
	"hourglass/arena"
	"hourglass/judge"
	"hourglass/op"
	"hourglass/trial"
)

// program has something of each kind in two modules.
const program = "module m { func f(p int, q int) int { let x int = (p + q); print x; return (x * 2); } func g(p int) int { let y int = p; return y; } } module e { func f() int { return 1; } } module main { func main() int { if (1 == 2) { let x int = 1; } else { } return m.f(1, 2); } }"

func rename(kind byte, a api.ID, name string) op.Op {
	return op.Op{Kind: kind, A: a, Name: name}
}

func swap(a api.ID) op.Op {
	return op.Op{Kind: op.SwapParts, A: a}
}

func wantPrint(t *testing.T, what string, got, want judge.Print) {
	t.Helper()
	if got.Known != want.Known || !slices.Equal(got.Writes, want.Writes) || !slices.Equal(got.Claims, want.Claims) {
		t.Errorf("%s: %+v, want %+v", what, got, want)
	}
}

// written is a print that is Known.
func written(id api.ID, claims ...judge.Claim) judge.Print {
	return judge.Print{Writes: []api.ID{id}, Claims: claims, Known: true}
}

func claim(scope api.ID, name string) judge.Claim {
	return judge.Claim{Scope: scope, Name: name}
}

// nested returns the If, and the Let in it.
func nested(a *arena.Arena) (api.ID, api.ID) {
	lets := trial.Kind(a, arena.Let)
	return trial.Kind(a, arena.If)[0], lets[len(lets)-1]
}

func TestScope(t *testing.T) {
	a := trial.Moved(trial.Right(t, program), 100)
	m, e, main := trial.Kind(a, arena.Module)[0], trial.Kind(a, arena.Module)[1], trial.Kind(a, arena.Module)[2]
	functions, params := trial.Kind(a, arena.Func), trial.Kind(a, arena.Param)
	_, inner := nested(a)
	want := map[api.ID]api.ID{
		m: 1, e: 1, main: 1,
		functions[0]: m, functions[1]: m, functions[2]: e, functions[3]: main,
		params[0]: functions[0], params[1]: functions[0], params[2]: functions[1],
		trial.Named(t, a, "x"): functions[0], trial.Named(t, a, "y"): functions[1], inner: functions[3],
	}
	for _, id := range append(a.IDs(), 0, 2, 50, math.MaxUint64) {
		if got := judge.Scope(a, id); got != want[id] {
			t.Errorf("Scope of %d: %d, want %d", id, got, want[id])
		}
	}
	if len(want) != 3+4+3+3 {
		t.Error(want)
	}
}

func TestOf(t *testing.T) {
	a := trial.Right(t, program)
	m, f, p, x := trial.Named(t, a, "m"), trial.Named(t, a, "f"), trial.Named(t, a, "p"), trial.Named(t, a, "x")
	_, inner := nested(a)
	main := trial.Named(t, a, "main") // the module comes first
	sum, product, equal := trial.Find(t, a, "(p + q)"), trial.Find(t, a, "(x * 2)"), trial.Find(t, a, "(1 == 2)")
	for _, c := range []struct {
		o    op.Op
		want judge.Print
	}{
		{rename(op.RenameModule, m, "k"), written(m, claim(1, "k"), claim(1, "m"))},
		{rename(op.RenameModule, m, "e"), written(m, claim(1, "e"), claim(1, "m"))},
		{rename(op.RenameModule, main, "k"), written(main, claim(1, "k"), claim(1, "main"))},
		{rename(op.RenameFunc, f, "k"), written(f, claim(m, "k"), claim(m, "f"))},
		{rename(op.RenameFunc, f, "g"), written(f, claim(m, "g"), claim(m, "f"))},
		{rename(op.RenameParam, p, "k"), written(p, claim(f, "k"), claim(f, "p"))},
		{rename(op.RenameLet, x, "p"), written(x, claim(f, "p"), claim(f, "x"))},
		{rename(op.RenameLet, inner, "k"), written(inner, claim(trial.Kind(a, arena.Func)[3], "k"), claim(trial.Kind(a, arena.Func)[3], "x"))},
		{rename(op.RenameLet, x, "x"), written(x, claim(f, "x"), claim(f, "x"))},
		{swap(sum), written(sum)},
		{swap(product), written(product)},
		{swap(equal), written(equal)},
	} {
		wantPrint(t, c.o.Text(), judge.Of(a, c.o), c.want)
	}
}

// TestOfUnsafe: a Bin is enough, also if its parts cannot be swapped.
func TestOfUnsafe(t *testing.T) {
	a := trial.Right(t, "module main { func main() int { return (read / 2); } }")
	bin := trial.Find(t, a, "(read / 2)")
	wantPrint(t, "a quotient", judge.Of(a, swap(bin)), written(bin))
}

// TestOfOthers: of all other operations, and of other nodes, nothing is known.
func TestOfOthers(t *testing.T) {
	a := trial.Right(t, program)
	kinds := map[byte]byte{op.RenameModule: arena.Module, op.RenameFunc: arena.Func, op.RenameParam: arena.Param, op.RenameLet: arena.Let, op.SwapParts: arena.Bin}
	known := 0
	for kind := range 256 {
		for _, id := range append(a.IDs(), 0, 1000, math.MaxUint64) {
			for _, o := range []op.Op{{Kind: byte(kind), A: id}, {Kind: byte(kind), A: id, Name: "k"}, {Kind: byte(kind), A: id, B: 2}, {Kind: byte(kind), A: id, B: 2, Name: "k"}} {
				n, ok := a.Get(id)
				if want, is := kinds[byte(kind)]; ok && is && n.Kind == want {
					known++
					if got := judge.Of(a, o); !got.Known || !slices.Equal(got.Writes, []api.ID{id}) {
						t.Errorf("%v: %+v", o, got)
					}
					continue
				}
				wantPrint(t, o.Text(), judge.Of(a, o), judge.Print{})
			}
		}
	}
	if known == 0 {
		t.Error("nothing is known")
	}
}

func TestMeets(t *testing.T) {
	print := func(writes []api.ID, claims ...judge.Claim) judge.Print {
		return judge.Print{Writes: writes, Claims: claims, Known: true}
	}
	ids := func(l ...api.ID) []api.ID { return l }
	for _, c := range []struct {
		p, q judge.Print
		want bool
	}{
		{print(nil), print(nil), false},
		{print(ids()), print(ids(3)), false},
		{print(ids(3)), print(ids(3)), true},
		{print(ids(3)), print(ids(4)), false},
		{print(ids(0)), print(ids(0)), true},
		{print(ids(1, 2, 3)), print(ids(4, 5, 6)), false},
		{print(ids(1, 2, 3)), print(ids(4, 5, 3)), true},
		{print(ids(1, 2, 3)), print(ids(1, 5, 6, 7)), true},
		{print(ids(1, 1)), print(ids(2, 2)), false},
		{print(nil, claim(2, "a")), print(nil, claim(2, "a")), true},
		{print(nil, claim(2, "a")), print(nil, claim(2, "b")), false},
		{print(nil, claim(2, "a")), print(nil, claim(3, "a")), false},
		{print(nil, claim(2, "a"), claim(3, "b")), print(nil, claim(3, "a"), claim(2, "b")), false},
		{print(nil, claim(2, "a"), claim(3, "b")), print(nil, claim(3, "a"), claim(3, "b")), true},
		{print(ids(2), claim(0, "")), print(ids(3), claim(0, "")), true},
		{print(ids(2), claim(3, "a")), print(ids(3), claim(2, "a")), false},
		{print(ids(2), claim(3, "a")), print(ids(2), claim(2, "a")), true},
		{judge.Print{}, print(nil), true},
		{judge.Print{}, judge.Print{}, true},
		{judge.Print{Writes: ids(2)}, print(ids(3)), true},
	} {
		if got := c.p.Meets(c.q); got != c.want {
			t.Errorf("%+v meets %+v: %v", c.p, c.q, got)
		}
		if got := c.q.Meets(c.p); got != c.want {
			t.Errorf("%+v meets %+v: %v", c.q, c.p, got)
		}
	}
}

// TestExample is about two functions.
func TestExample(t *testing.T) {
	a := trial.Right(t, program)
	f, g := trial.Named(t, a, "f"), trial.Named(t, a, "g")
	if !judge.Commute(a, rename(op.RenameFunc, f, "h"), rename(op.RenameFunc, g, "k")) {
		t.Error("different new names do not commute")
	}
	if judge.Commute(a, rename(op.RenameFunc, f, "h"), rename(op.RenameFunc, g, "h")) {
		t.Error("equal new names commute")
	}
}

func TestCommute(t *testing.T) {
	a := trial.Right(t, program)
	m, e, f, g, p, q, x := trial.Named(t, a, "m"), trial.Named(t, a, "e"), trial.Named(t, a, "f"), trial.Named(t, a, "g"), trial.Named(t, a, "p"), trial.Named(t, a, "q"), trial.Named(t, a, "x")
	other := trial.Kind(a, arena.Func)[2] // f of e
	sum, product := trial.Find(t, a, "(p + q)"), trial.Find(t, a, "(x * 2)")
	for _, c := range []struct {
		x, y op.Op
		want bool
	}{
		{rename(op.RenameModule, m, "k"), rename(op.RenameModule, e, "l"), true},
		{rename(op.RenameModule, m, "k"), rename(op.RenameModule, e, "m"), false}, // possible in one order only
		{rename(op.RenameModule, m, "k"), rename(op.RenameModule, m, "l"), false},
		{rename(op.RenameModule, m, "k"), rename(op.RenameModule, m, "k"), false},
		{rename(op.RenameModule, m, "k"), rename(op.RenameFunc, f, "k"), true},
		{rename(op.RenameModule, m, "f"), rename(op.RenameFunc, f, "m"), true},
		{rename(op.RenameFunc, f, "k"), rename(op.RenameFunc, other, "k"), true}, // of another module
		{rename(op.RenameFunc, f, "k"), rename(op.RenameFunc, g, "f"), false},
		{rename(op.RenameParam, p, "k"), rename(op.RenameParam, q, "l"), true},
		{rename(op.RenameParam, p, "k"), rename(op.RenameParam, q, "k"), false},
		{rename(op.RenameParam, p, "k"), rename(op.RenameLet, x, "k"), false},
		{rename(op.RenameParam, p, "k"), rename(op.RenameLet, x, "p"), false},
		{rename(op.RenameParam, p, "k"), rename(op.RenameLet, trial.Named(t, a, "y"), "k"), true}, // of another function
		{rename(op.RenameParam, p, "k"), rename(op.RenameFunc, f, "k"), true},
		{swap(sum), swap(product), true},
		{swap(sum), swap(sum), false},
		{swap(sum), rename(op.RenameParam, p, "k"), true},
		{swap(sum), swap(x), false},
		{swap(sum), op.Op{Kind: op.FlipIf, A: trial.Kind(a, arena.If)[0]}, false},
		{op.Op{Kind: op.AddModule, Name: "k"}, op.Op{Kind: op.AddModule, Name: "l"}, false},
		{rename(op.RenameModule, 1000, "k"), swap(sum), false},
		{op.Op{}, op.Op{}, false},
	} {
		for _, turned := range []bool{false, true} {
			x, y := c.x, c.y
			if turned {
				x, y = y, x
			}
			if got := judge.Commute(a, x, y); got != c.want {
				t.Errorf("%s and %s: %v", x.Text(), y.Text(), got)
			}
		}
	}
}

func TestApart(t *testing.T) {
	a := trial.Right(t, program)
	f, g, p := trial.Named(t, a, "f"), trial.Named(t, a, "g"), trial.Named(t, a, "p")
	sum, product := trial.Find(t, a, "(p + q)"), trial.Find(t, a, "(x * 2)")
	unknown := op.Op{Kind: op.AddModule, Name: "k"}
	ops := func(l ...op.Op) []op.Op { return l }
	for _, c := range []struct {
		l, m []op.Op
		want bool
	}{
		{nil, nil, true},
		{nil, ops(swap(sum)), true},
		{nil, ops(unknown, op.Op{}), true},
		{ops(unknown), ops(swap(sum)), false},
		{ops(unknown), ops(unknown), false},
		{ops(swap(sum), unknown), ops(swap(product)), false},
		{ops(swap(sum)), ops(swap(product)), true},
		{ops(swap(sum), swap(sum)), ops(swap(product), swap(product)), true}, // within one list they may meet
		{ops(swap(sum), swap(product)), ops(swap(product)), false},
		{ops(swap(sum), rename(op.RenameFunc, f, "k")), ops(swap(product), rename(op.RenameFunc, g, "l"), rename(op.RenameParam, p, "k")), true},
		{ops(rename(op.RenameFunc, f, "k"), rename(op.RenameFunc, f, "l")), ops(rename(op.RenameFunc, g, "h"), rename(op.RenameFunc, g, "k")), false},
		{ops(rename(op.RenameFunc, f, "k"), rename(op.RenameFunc, f, "f")), ops(rename(op.RenameFunc, g, "h")), true},
		{ops(rename(op.RenameFunc, f, "k")), ops(rename(op.RenameFunc, g, "h"), rename(op.RenameFunc, g, "f")), false},
	} {
		if got := judge.Apart(a, c.l, c.m); got != c.want {
			t.Errorf("%v and %v: %v", c.l, c.m, got)
		}
		if got := judge.Apart(a, c.m, c.l); got != c.want {
			t.Errorf("%v and %v: %v", c.m, c.l, got)
		}
	}
}

// TestNil: of no arena, nothing is known.
func TestNil(t *testing.T) {
	for _, a := range []*arena.Arena{nil, arena.New()} {
		for _, o := range []op.Op{{}, swap(1), swap(0), rename(op.RenameModule, 2, "k"), rename(op.RenameFunc, 0, "k")} {
			wantPrint(t, o.Text(), judge.Of(a, o), judge.Print{})
			if judge.Commute(a, o, o) || judge.Apart(a, []op.Op{o}, []op.Op{o}) || judge.Scope(a, o.A) != 0 {
				t.Errorf("%v commutes", o)
			}
		}
		if !judge.Apart(a, nil, nil) || !judge.Apart(a, []op.Op{{}}, nil) {
			t.Error("nothing is not apart")
		}
	}
}

// TestDisorder: an arena need not be a program.
func TestDisorder(t *testing.T) {
	a := arena.New()
	a.Put(1, api.Node{Kind: arena.Let, Kids: []api.ID{1, 2}})
	a.Put(2, api.Node{Kind: arena.Param, Name: "p", Kids: []api.ID{3}})
	a.Put(3, api.Node{Kind: arena.Module, Name: "m", Kids: []api.ID{2}})
	a.Put(4, api.Node{Kind: arena.Func, Name: "f", Kids: []api.ID{5, 5}})
	a.Put(5, api.Node{Kind: arena.Let, Name: "x", Kids: []api.ID{4}})
	a.Put(6, api.Node{Kind: arena.Func, Name: "lost"})
	a.Put(7, api.Node{})
	for id, want := range map[api.ID]api.ID{1: 0, 2: 0, 3: 1, 4: 5, 5: 4, 6: 0, 7: 0, 8: 0} {
		if got := judge.Scope(a, id); got != want {
			t.Errorf("Scope of %d: %d, want %d", id, got, want)
		}
	}
	wantPrint(t, "below itself", judge.Of(a, rename(op.RenameLet, 5, "k")), written(5, claim(4, "k"), claim(4, "x")))
	wantPrint(t, "without a module", judge.Of(a, rename(op.RenameFunc, 6, "k")), written(6, claim(0, "k"), claim(0, "lost")))
	wantPrint(t, "no name", judge.Of(a, rename(op.RenameFunc, 6, "")), written(6, claim(0, ""), claim(0, "lost")))
	for kind := range 256 {
		wantPrint(t, "a node of no kind", judge.Of(a, op.Op{Kind: byte(kind), A: 7}), judge.Print{})
	}
}

// TestMemory: results are new, and arguments stay as they are.
func TestMemory(t *testing.T) {
	a := trial.Right(t, program)
	before := a.Copy()
	o := rename(op.RenameFunc, trial.Named(t, a, "f"), "k")
	p := judge.Of(a, o)
	want := judge.Of(a, o)
	trial.Spoil(p.Writes, 77)
	trial.Spoil(p.Claims, claim(77, "spoiled"))
	wantPrint(t, "again", judge.Of(a, o), want)
	q := judge.Of(a, rename(op.RenameFunc, trial.Named(t, a, "g"), "h"))
	writes, claims := slices.Clone(q.Writes), slices.Clone(q.Claims)
	if want.Meets(q) || !want.Meets(want) {
		t.Error("Meets is wrong")
	}
	wantPrint(t, "after Meets", q, judge.Print{Writes: writes, Claims: claims, Known: true})
	l := make([]op.Op, 1, 3)
	l[0] = o
	kept := slices.Clone(l[:3])
	if judge.Apart(a, l, l) || !slices.Equal(l[:3], kept) || !arena.Same(a, before) {
		t.Error("an argument has changed")
	}
}
