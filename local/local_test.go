package local_test

import (
	"math"
	"strings"
	"testing"

	"hourglass/api"
	"hourglass/arena"
	"hourglass/local"
	"hourglass/text"
	"hourglass/trial"
)

// around returns a program in which a function with the parameters a and b has
// that body.
func around(body string) string {
	return "module main { func f(a int, b bool) int { " + body + " } func g(z int) int { let y int = z; return y; } func main() int { return 0; } }"
}

// wantBody expects a success, and a program around that body.
func wantBody(t *testing.T, what string, got trial.Result, body string) {
	t.Helper()
	trial.WantProgram(t, what, got, around(body))
}

func extract(t *testing.T, body, e, name string, ids ...api.ID) trial.Result {
	t.Helper()
	a := trial.Right(t, around(body))
	return trial.Of(local.Extract(a, trial.Find(t, a, e), name, trial.From(ids...).Next))
}

func inline(t *testing.T, body, let string, ids ...api.ID) trial.Result {
	t.Helper()
	a := trial.Right(t, around(body))
	return trial.Of(local.Inline(a, trial.Named(t, a, let), trial.From(ids...).Next))
}

func TestExample(t *testing.T) {
	wantBody(t, "(a + 1)", extract(t, "print (a + 1); return 0;", "(a + 1)", "x", 1000, 1001), "let x int = (a + 1); print x; return 0;")
}

// extractions are bodies, expressions in them, and what they become with that as
// x.
func extractions() [][3]string {
	return [][3]string{
		{"let v int = (a + 1); return v;", "(a + 1)", "let x int = (a + 1); let v int = x; return v;"},
		{"let v int = (a + 1); return v;", "a", "let x int = a; let v int = (x + 1); return v;"},
		{"let v int = (a + 1); return v;", "1", "let x int = 1; let v int = (a + x); return v;"},
		{"let v int = 1; return v;", "v", "let v int = 1; let x int = v; return x;"},
		{"a = (a * 2); return a;", "(a * 2)", "let x int = (a * 2); a = x; return a;"},
		{"a = (a * 2); return a;", "a", "let x int = a; a = (x * 2); return a;"},
		{"print 1; print (2 - a); print 3; return a;", "(2 - a)", "print 1; let x int = (2 - a); print x; print 3; return a;"},
		{"print true; return a;", "true", "let x bool = true; print x; return a;"},
		{"print !(a == 1); return a;", "!(a == 1)", "let x bool = !(a == 1); print x; return a;"},
		{"return --a;", "-a", "let x int = -a; return -x;"},
		{"return 7;", "7", "let x int = 7; return x;"},
		{"if (a < 1) { print 1; } else { print 2; } return a;", "(a < 1)", "let x bool = (a < 1); if x { print 1; } else { print 2; } return a;"},
		{"if (a < 1) { print 1; } else { print 2; } return a;", "a", "let x int = a; if (x < 1) { print 1; } else { print 2; } return a;"},
		{"if b { print (a + 1); } else { print 2; } return a;", "(a + 1)", "if b { let x int = (a + 1); print x; } else { print 2; } return a;"},
		{"if b { print 1; } else { print 3; print 2; } return a;", "2", "if b { print 1; } else { print 3; let x int = 2; print x; } return a;"},
		{"while b { b = (a < 1); } return a;", "(a < 1)", "while b { let x bool = (a < 1); b = x; } return a;"},
		{"while b { while b { if b { print 1; } else { } } } return a;", "1", "while b { while b { if b { let x int = 1; print x; } else { } } } return a;"},
		{"while b { if (b && !b) { } else { } } return a;", "(b && !b)", "while b { let x bool = (b && !b); if x { } else { } } return a;"},
		{"do main.f((a + 1), (b || b)); return a;", "(b || b)", "let x bool = (b || b); do main.f((a + 1), x); return a;"},
		{"print main.g((a + main.f(1, (b != true)))); return a;", "(b != true)", "let x bool = (b != true); print main.g((a + main.f(1, x))); return a;"},
		{"print (read + (a / (a + 1))); return a;", "(a + 1)", "let x int = (a + 1); print (read + (a / x)); return a;"},
		{"print (b && (a > 0)); return a;", "(a > 0)", "let x bool = (a > 0); print (b && x); return a;"},
	}
}

func TestExtract(t *testing.T) {
	for _, c := range extractions() {
		wantBody(t, c[1]+" in "+c[0], extract(t, c[0], c[1], "x", 1000, 1001), c[2])
		wantBody(t, c[1]+" in "+c[0], extract(t, c[0], c[1], "x", math.MaxUint64, 500), c[2])
	}
	wantBody(t, "another name", extract(t, "return a;", "a", strings.Repeat("v", api.MaxName), 1000, 1001), "let "+strings.Repeat("v", api.MaxName)+" int = a; return "+strings.Repeat("v", api.MaxName)+";")
}

// TestExtractedNodes: the first new node is the Let, the second one the Var, and
// the expression stays the node that it was.
func TestExtractedNodes(t *testing.T) {
	a := trial.Right(t, around("print (a + 1); return 0;"))
	const block, print, sum = 6, 7, 8
	for _, ids := range [][]api.ID{{1000, 1001}, {1001, 1000}, {math.MaxUint64, 500}} {
		s := trial.From(append(ids, 2000)...)
		want := trial.With(a, block, func(n *api.Node) { n.Kids = append([]api.ID{ids[0]}, n.Kids...) })
		want.Put(ids[0], api.Node{Kind: arena.Let, Name: "x", Type: arena.Number, Kids: []api.ID{sum}})
		want.Put(print, api.Node{Kind: arena.Print, Kids: []api.ID{ids[1]}})
		want.Put(ids[1], api.Node{Kind: arena.Var, Ref: ids[0]})
		trial.WantArena(t, "Extract", trial.Of(local.Extract(a, sum, "x", s.Next)), want)
		if s.Asked != 2 {
			t.Errorf("%d new IDs", s.Asked)
		}
	}
}

// TestExtractWithSmallIDs: the new nodes may have smaller IDs than all others.
func TestExtractWithSmallIDs(t *testing.T) {
	for _, c := range extractions() {
		a := trial.Moved(trial.Right(t, around(c[0])), 5000)
		for _, s := range []*trial.Source{trial.From(2, 3), trial.From(3, 2), trial.From(2, 9000), trial.From(9000, 2)} {
			wantBody(t, c[1]+" in "+c[0], trial.Of(local.Extract(a, trial.Find(t, a, c[1]), "x", s.Next)), c[2])
		}
	}
}

func TestExtractErrors(t *testing.T) {
	a := trial.Right(t, around("let x int = (a + main.g(1)); while b { print read; } if b { a = -a; } else { do main.g(2); } return (x % 2);"))
	for id, n := range a.Walk(1) {
		_, e := text.Expr(a, id)
		unnamed, unused := api.ErrNone, api.ErrNone
		if e == api.OK {
			unnamed, unused = api.ErrName, api.ErrFull
			printed, _ := text.Expr(a, id)
			parent, _ := a.Parent(id)
			p, _ := a.Get(parent)
			if p.Kind == arena.While || strings.ContainsAny(printed, "%") || strings.Contains(printed, "main.g(") || printed == "read" {
				unused = api.ErrUnsafe
			}
		}
		s := trial.From()
		for _, name := range trial.NoNames() {
			trial.WantError(t, "no name", trial.Of(local.Extract(a, id, name, s.Next)), unnamed)
			trial.WantError(t, "no name", trial.Of(local.Extract(a, id, name, nil)), unnamed)
		}
		if s.Asked > 0 {
			t.Error("fresh was called, although the name is none")
		}
		trial.WantError(t, "no ID", trial.Of(local.Extract(a, id, "v", s.Next)), unused)
		if unused != api.ErrFull && s.Asked > 0 {
			t.Errorf("fresh was called, although %v cannot be extracted", n)
		}
	}
	for _, id := range []api.ID{0, 1000, math.MaxUint64} {
		trial.WantError(t, "no node", trial.Of(local.Extract(a, id, "", nil)), api.ErrNone)
	}
}

func TestExtractUnsafe(t *testing.T) {
	for _, e := range []string{
		"(a / 1)", "(a % 1)", "read", "main.g(1)", "main.f(1, b)", "-(1 / 1)", "(1 + (2 * (3 % 4)))", "(read + 1)", "(1 + -read)",
		"(main.g(1) - 1)", "main.g((a / 1))", "!(main.g(1) == 1)", "(b && (read < 1))", "(false && (1 == (1 / 0)))",
	} {
		trial.WantError(t, e, extract(t, "print "+e+"; return 0;", e, "x", 1000, 1001), api.ErrUnsafe)
		trial.WantError(t, e+", a clash, and no ID", extract(t, "print "+e+"; return 0;", e, "a"), api.ErrUnsafe)
	}
	for _, e := range []string{"(b && (a < (1 + 2)))", "b", "(a < (1 + 2))", "a", "(1 + 2)", "1"} {
		for _, body := range []string{"while (b && (a < (1 + 2))) { print 3; } return 4;", "if true { while (b && (a < (1 + 2))) { } } else { } return 4;", "while true { while (b && (a < (1 + 2))) { } } return 4;"} {
			trial.WantError(t, e+" in "+body, extract(t, body, e, "x", 1000, 1001), api.ErrUnsafe)
		}
	}
}

func TestExtractFull(t *testing.T) {
	const body = "print (a + 1); return 0;"
	for what, ids := range map[string][]api.ID{
		"no ID": {}, "one ID": {1000}, "0": {0, 1000}, "0 as the second": {1000, 0}, "the root's": {1, 1000}, "the root's as the second": {1000, 1},
		"that of the expression": {8, 1000}, "that of the expression as the second": {1000, 8}, "the same": {1000, 1000},
	} {
		trial.WantError(t, what, extract(t, body, "(a + 1)", "x", ids...), api.ErrFull)
		trial.WantError(t, what+", and a clash", extract(t, body, "(a + 1)", "a", ids...), api.ErrFull)
	}
	a := trial.Right(t, around(body))
	trial.WantError(t, "no function", trial.Of(local.Extract(a, trial.Find(t, a, "(a + 1)"), "x", nil)), api.ErrFull)
}

func TestExtractClash(t *testing.T) {
	const body = "if b { let v int = 1; } else { print (a + 1); } let w int = 1; return 0;"
	for _, name := range []string{"a", "b", "v", "w"} {
		trial.WantError(t, name, extract(t, body, "(a + 1)", name, 1000, 1001), api.ErrClash)
	}
	for _, name := range []string{"main", "f", "g", "z", "y", "A"} {
		wantBody(t, name, extract(t, body, "(a + 1)", name, 1000, 1001), "if b { let v int = 1; } else { let "+name+" int = (a + 1); print "+name+"; } let w int = 1; return 0;")
	}
}

const twice = "module main { func main() int { let x int = 1; print x; print x;"

func TestRoom(t *testing.T) {
	for size, want := range map[int]api.Errno{api.MaxNodes - 2: api.OK, api.MaxNodes: api.ErrFull} {
		a := trial.Crowd(t, twice, size)
		b, e := local.Extract(a, trial.Find(t, a, "1"), "y", trial.From(30000, 30001).Next)
		if e != want || (e == api.OK) != (b != nil) {
			t.Errorf("Extract of %d nodes: error %d", size, e)
		}
		// Each clone is made before the variable that it replaces is removed.
		b, e = local.Inline(a, trial.Named(t, a, "x"), trial.From(30000, 30001).Next)
		if e != want || (e == api.OK) != (b != nil) {
			t.Errorf("Inline in %d nodes: error %d", size, e)
		}
	}
	a := trial.Crowd(t, twice, api.MaxNodes-2)
	b, _ := local.Extract(a, trial.Find(t, a, "1"), "y", trial.From(30000, 30001).Next)
	if b.Len() != api.MaxNodes {
		t.Error(b.Len())
	}
	trial.WantError(t, "no room", trial.Of(local.Inline(b, 30000, trial.From(30002).Next)), api.ErrFull)
	c := trial.Crowd(t, "module main { func main() int { let x int = 1;", api.MaxNodes)
	if d, e := local.Inline(c, trial.Named(t, c, "x"), nil); e != api.OK || d.Len() != c.Len()-2 {
		t.Errorf("Inline without new nodes: error %d", e)
	}
}

// TestOddRoom: there is room for one new node. That is too little for a Let and a
// Var, but enough for one clone after the other.
func TestOddRoom(t *testing.T) {
	p := trial.Crowd(t, twice, api.MaxNodes-1)
	trial.WantError(t, "Extract", trial.Of(local.Extract(p, trial.Find(t, p, "1"), "y", trial.From(30000, 30001).Next)), api.ErrFull)
	q, e := local.Inline(p, trial.Named(t, p, "x"), trial.From(30000, 30001).Next)
	if e != api.OK || q.Len() != p.Len()-2 {
		t.Errorf("Inline: error %d", e)
	}
}

// TestNotRight makes both calls, with arguments that fit and ones that do not.
func TestNotRight(t *testing.T) {
	program := around("let u int = 1; print (u + a); return 0;")
	a := trial.Right(t, program)
	let, sum := trial.Named(t, a, "u"), trial.Find(t, a, "(u + a)")
	s := trial.From()
	for _, w := range trial.Wrongs(t, program) {
		for _, id := range []api.ID{0, 1, let, sum, 1000} {
			trial.WantError(t, w.Why, trial.Of(local.Extract(w.Arena, id, "v", s.Next)), api.ErrForm)
			trial.WantError(t, w.Why, trial.Of(local.Extract(w.Arena, id, "", nil)), api.ErrForm)
			trial.WantError(t, w.Why, trial.Of(local.Inline(w.Arena, id, s.Next)), api.ErrForm)
			trial.WantError(t, w.Why, trial.Of(local.Inline(w.Arena, id, nil)), api.ErrForm)
		}
	}
	if s.Asked > 0 {
		t.Error("fresh was called")
	}
}
