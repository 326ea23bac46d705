package outline_test

import (
	"math"
	"slices"
	"strings"
	"testing"

	"hourglass/api"
	"hourglass/arena"
	"hourglass/op"
	"hourglass/outline"
	"hourglass/text"
	"hourglass/trial"
)

// laid returns a program in which a function with the parameters a and b has that
// body. One of the modules also has another function.
func laid(module, function, body string) string {
	in := map[string]string{module: function}
	return "module m { func h(p int, q bool) int { print p; return (p / 2); } " + in["m"] + " } " +
		"module main { func f(a int, b bool) int { " + body + " } func main() int { return main.f(read, (read < 3)); } " + in["main"] + " } " +
		"module empty { " + in["empty"] + " }"
}

func around(body string) string {
	return laid("", "", body)
}

// wantBehavior expects that a program does what it did before, with up to three
// times as much fuel or as little.
func wantBehavior(t *testing.T, before, after *arena.Arena) {
	t.Helper()
	for _, input := range [][]int64{nil, {1}, {2, 3, -5}, {5, 1, 0, 3, 4}, {-1, 2, 0, 7}, {math.MinInt64, math.MaxInt64}} {
		trial.WantAlike(t, before, after, input, 3000, 3)
	}
}

// extract makes a function n of the module m.
func extract(t *testing.T, body, e, n string, ids ...api.ID) trial.Result {
	t.Helper()
	a := trial.Right(t, around(body))
	return trial.Of(outline.Extract(a, trial.Find(t, a, e), trial.Named(t, a, "m"), n, trial.From(ids...).Next))
}

func TestExample(t *testing.T) {
	got := extract(t, "print (a + 1); return 0;", "(a + 1)", "f", trial.Row(1000, 6)...)
	trial.WantProgram(t, "(a + 1)", got, laid("m", "func f(a int) int { return (a + 1); }", "print m.f(a); return 0;"))
}

// extractions are bodies, expressions in them, what they become with that as a
// function new of the module m, and the rest of this function.
func extractions() [][4]string {
	return [][4]string{
		{"print (a + 1); return 0;", "(a + 1)", "print m.new(a); return 0;", "(a int) int { return (a + 1); }"},
		{"print (a + 1); return 0;", "a", "print (m.new(a) + 1); return 0;", "(a int) int { return a; }"},
		{"print (a + 1); return 0;", "1", "print (a + m.new()); return 0;", "() int { return 1; }"},
		{"print true; return a;", "true", "print m.new(); return a;", "() bool { return true; }"},
		{"print read; print read; return a;", "read", "print m.new(); print read; return a;", "() int { return read; }"},
		{"print (read - -read); return a;", "-read", "print (read - m.new()); return a;", "() int { return -read; }"},
		{"print !b; return a;", "!b", "print m.new(b); return a;", "(b bool) bool { return !b; }"},
		{"print !b; return a;", "b", "print !m.new(b); return a;", "(b bool) bool { return b; }"},
		{"print (7 / a); return (7 % a);", "(7 / a)", "print m.new(a); return (7 % a);", "(a int) int { return (7 / a); }"},
		{"print (7 / a); return (7 % a);", "(7 % a)", "print (7 / a); return m.new(a);", "(a int) int { return (7 % a); }"},
		{"let c int = 5; print ((c - a) * (a + c)); return a;", "((c - a) * (a + c))", "let c int = 5; print m.new(c, a); return a;", "(c int, a int) int { return ((c - a) * (a + c)); }"},
		{"print ((a == 1) && b); return a;", "((a == 1) && b)", "print m.new(a, b); return a;", "(a int, b bool) bool { return ((a == 1) && b); }"},
		{"print (b && ((1 / (a - 1)) == 1)); return a;", "((1 / (a - 1)) == 1)", "print (b && m.new(a)); return a;", "(a int) bool { return ((1 / (a - 1)) == 1); }"},
		{"let c int = (a + 1); return c;", "(a + 1)", "let c int = m.new(a); return c;", "(a int) int { return (a + 1); }"},
		{"let c int = (a + 1); return c;", "c", "let c int = (a + 1); return m.new(c);", "(c int) int { return c; }"},
		{"a = (a * 2); return a;", "(a * 2)", "a = m.new(a); return a;", "(a int) int { return (a * 2); }"},
		{"a = (a * 2); return a;", "a", "a = (m.new(a) * 2); return a;", "(a int) int { return a; }"},
		{"if (a < 1) { print 1; } else { print 2; } return a;", "(a < 1)", "if m.new(a) { print 1; } else { print 2; } return a;", "(a int) bool { return (a < 1); }"},
		{"if b { print (a + 1); } else { print 2; } return a;", "(a + 1)", "if b { print m.new(a); } else { print 2; } return a;", "(a int) int { return (a + 1); }"},
		{"if b { print 1; } else { print (a + 2); } return a;", "(a + 2)", "if b { print 1; } else { print m.new(a); } return a;", "(a int) int { return (a + 2); }"},
		{"while (a < 1) { a = (a + 1); } return a;", "(a < 1)", "while m.new(a) { a = (a + 1); } return a;", "(a int) bool { return (a < 1); }"},
		{"while (a < 1) { a = (a + 1); } return a;", "1", "while (a < m.new()) { a = (a + 1); } return a;", "() int { return 1; }"},
		{"while (read != 0) { } return a;", "(read != 0)", "while m.new() { } return a;", "() bool { return (read != 0); }"},
		{"while b { let c int = (a + 1); b = (c < 3); a = c; } return a;", "(c < 3)", "while b { let c int = (a + 1); b = m.new(c); a = c; } return a;", "(c int) bool { return (c < 3); }"},
		{"do m.h(a, b); return a;", "m.h(a, b)", "do m.new(a, b); return a;", "(a int, b bool) int { return m.h(a, b); }"},
		{"do m.h(a, (b || b)); return a;", "(b || b)", "do m.h(a, m.new(b)); return a;", "(b bool) bool { return (b || b); }"},
		{"print (m.h(read, true) + m.h(a, b)); return a;", "m.h(a, b)", "print (m.h(read, true) + m.new(a, b)); return a;", "(a int, b bool) int { return m.h(a, b); }"},
		{"print m.h(m.h(a, (read < 1)), b); return a;", "m.h(a, (read < 1))", "print m.h(m.new(a), b); return a;", "(a int) int { return m.h(a, (read < 1)); }"},
		{"if (a == 0) { } else { print main.main(); } return a;", "main.main()", "if (a == 0) { } else { print m.new(); } return a;", "() int { return main.main(); }"},
	}
}

// TestExtract makes a function of each module.
func TestExtract(t *testing.T) {
	for _, c := range extractions() {
		for _, module := range []string{"m", "main", "empty"} {
			what := c[1] + " in " + c[0] + " to " + module
			a := trial.Right(t, around(c[0]))
			b := a.Copy()
			got := trial.Of(outline.Extract(a, trial.Find(t, a, c[1]), trial.Named(t, a, module), "new", op.Fresh(1)))
			trial.WantProgram(t, what, got, laid(module, "func new"+c[3], strings.ReplaceAll(c[2], "m.new", module+".new")))
			wantBehavior(t, a, got.Arena)
			if !arena.Same(a, b) {
				t.Errorf("%s: the argument has changed", what)
			}
		}
	}
	for _, name := range []string{"_", "H", "m", "a", "b", "p", strings.Repeat("v", api.MaxName)} {
		want := laid("m", "func "+name+"(a int) int { return a; }", "return m."+name+"(a);")
		trial.WantProgram(t, name, extract(t, "return a;", "a", name, trial.Row(1000, 6)...), want)
	}
}

// TestExtractedNodes: the new ones are made in their order, and the expression
// stays the nodes that it was, apart from what its Vars refer to.
func TestExtractedNodes(t *testing.T) {
	a := trial.Right(t, "module m { func h() int { return 1; } } module main { func f(x int, y bool) int { print (y && ((x + 1) < x)); return x; } func main() int { return main.f(1, true); } }")
	const m, h, x, y, print, and, left, less, sum, x1, x2 = 2, 3, 9, 10, 12, 13, 14, 15, 16, 17, 19
	for _, ids := range [][]api.ID{
		{1000, 1001, 1002, 1003, 1004, 1005, 1006, 1007},
		{1007, 1006, 1005, 1004, 1003, 1002, 1001, 1000},
		{500, math.MaxUint64, 700, 65537, 600, 1 << 40, 550, 900},
	} {
		s := trial.From(append(ids, 2000)...)
		want := a.Copy()
		want.Put(m, api.Node{Kind: arena.Module, Name: "m", Kids: []api.ID{h, ids[0]}})
		want.Put(ids[0], api.Node{Kind: arena.Func, Name: "new", Type: arena.Truth, Kids: []api.ID{ids[1], ids[2], ids[3]}})
		want.Put(ids[1], api.Node{Kind: arena.Param, Name: "y", Type: arena.Truth})
		want.Put(ids[2], api.Node{Kind: arena.Param, Name: "x", Type: arena.Number})
		want.Put(ids[3], api.Node{Kind: arena.Block, Kids: []api.ID{ids[4]}})
		want.Put(ids[4], api.Node{Kind: arena.Return, Kids: []api.ID{and}})
		want.Put(ids[5], api.Node{Kind: arena.Call, Ref: ids[0], Kids: []api.ID{ids[6], ids[7]}})
		want.Put(ids[6], api.Node{Kind: arena.Var, Ref: y})
		want.Put(ids[7], api.Node{Kind: arena.Var, Ref: x})
		want.Put(print, api.Node{Kind: arena.Print, Kids: []api.ID{ids[5]}})
		want.Put(left, api.Node{Kind: arena.Var, Ref: ids[1]})
		want.Put(x1, api.Node{Kind: arena.Var, Ref: ids[2]})
		want.Put(x2, api.Node{Kind: arena.Var, Ref: ids[2]})
		trial.WantArena(t, "Extract", trial.Of(outline.Extract(a, and, m, "new", s.Next)), want)
		if s.Asked != 8 {
			t.Errorf("%d new IDs", s.Asked)
		}
	}
	for id, want := range map[api.ID]string{and: "(y && ((x + 1) < x))", left: "y", less: "((x + 1) < x)", sum: "(x + 1)", x1: "x", x2: "x"} {
		if got, _ := text.Expr(a, id); got != want {
			t.Errorf("%d is %s, want %s", id, got, want)
		}
	}
}

// TestExtractWithSmallIDs: the new nodes may have smaller IDs than all others, or
// ones between.
func TestExtractWithSmallIDs(t *testing.T) {
	for _, c := range extractions() {
		a := trial.Moved(trial.Right(t, around(c[0])), 5000)
		falling := trial.Row(2, 8)
		slices.Reverse(falling)
		for _, ids := range [][]api.ID{trial.Row(2, 8), falling, {9000, 2, 9001, 3, 9002, 4, 9003, 5}, {2, 9000, 3, 9001, 4, 9002, 5, 9003}} {
			got := trial.Of(outline.Extract(a, trial.Find(t, a, c[1]), trial.Named(t, a, "m"), "new", trial.From(ids...).Next))
			trial.WantProgram(t, c[1]+" in "+c[0], got, laid("m", "func new"+c[3], c[2]))
		}
	}
}

// statements has all kinds of nodes.
const statements = "let x int = (a + m.h(1, b)); while b { print read; b = false; } if b { a = -a; } else { do m.h(2, !b); } return (x % 2);"

// TestExtractErrors: each node as the expression, and as the module.
func TestExtractErrors(t *testing.T) {
	a := trial.Right(t, around(statements))
	const module = 2
	one := trial.Find(t, a, "1")
	ids := append(a.IDs(), 0, 1000, math.MaxUint64)
	for _, id := range ids {
		_, e := text.Expr(a, id)
		n, _ := a.Get(id)
		s := trial.From()
		for _, c := range []struct {
			e, module api.ID
			ok        bool
		}{{id, module, e == api.OK}, {one, id, n.Kind == arena.Module}, {id, id, false}} {
			unnamed, full := api.ErrNone, api.ErrNone
			if c.ok {
				unnamed, full = api.ErrName, api.ErrFull
			}
			for _, name := range trial.NoNames() {
				trial.WantError(t, "no name", trial.Of(outline.Extract(a, c.e, c.module, name, s.Next)), unnamed)
			}
			trial.WantError(t, "no name, no function", trial.Of(outline.Extract(a, c.e, c.module, "", nil)), unnamed)
			if s.Asked > 0 {
				t.Error("fresh was called, although the name is none")
			}
			trial.WantError(t, "no function", trial.Of(outline.Extract(a, c.e, c.module, "new", nil)), full)
			trial.WantError(t, "no ID", trial.Of(outline.Extract(a, c.e, c.module, "new", trial.From().Next)), full)
		}
	}
}

// TestExtractFull: eight IDs are needed, which do not exist, each another one.
func TestExtractFull(t *testing.T) {
	const body, e = "print ((a < 1) && b); return 0;", "((a < 1) && b)"
	for _, name := range []string{"new", "h"} { // also where the name clashes
		for count := range 8 {
			trial.WantError(t, "too few IDs", extract(t, body, e, name, trial.Row(1000, count)...), api.ErrFull)
			for _, id := range []api.ID{0, 1, 2, trial.Find(t, trial.Right(t, around(body)), e), 1000} {
				if count == 0 && id == 1000 {
					continue // it does not exist yet
				}
				ids := slices.Concat(trial.Row(1000, count), []api.ID{id}, trial.Row(2000, 8))
				trial.WantError(t, "an ID that exists", extract(t, body, e, name, ids...), api.ErrFull)
			}
		}
	}
	want := laid("m", "func new(a int, b bool) bool { return ((a < 1) && b); }", "print m.new(a, b); return 0;")
	trial.WantProgram(t, "eight IDs", extract(t, body, e, "new", trial.Row(1000, 8)...), want)
	a := trial.Right(t, around(body))
	trial.WantError(t, "the stamp 0", trial.Of(outline.Extract(a, trial.Find(t, a, e), 2, "new", op.Fresh(0))), api.ErrFull)
}

func TestExtractClash(t *testing.T) {
	a := trial.Right(t, around("print (a + 1); return 0;"))
	for module, names := range map[string][2]string{"m": {"h", "main"}, "main": {"main", "h"}, "empty": {"", "main"}} {
		for i, name := range names {
			got := trial.Of(outline.Extract(a, trial.Find(t, a, "(a + 1)"), trial.Named(t, a, module), name, op.Fresh(1)))
			switch {
			case i > 0:
				want := laid(module, "func "+name+"(a int) int { return (a + 1); }", "print "+module+"."+name+"(a); return 0;")
				trial.WantProgram(t, name+" in "+module, got, want)
			case name != "":
				trial.WantError(t, name+" in "+module, got, api.ErrClash)
			}
		}
	}
}

// TestExtractTooDeep: a call is nested one deeper than a variable.
func TestExtractTooDeep(t *testing.T) {
	deep := func(signs int) string { return strings.Repeat("!", signs) + "b" }
	body := func(e string) string { return "print " + e + "; return 0;" }
	want := laid("m", "func new(b bool) bool { return b; }", body(strings.Repeat("!", 89)+"m.new(b)"))
	ids := trial.Row(1000, 6)
	b := func(signs int, ids []api.ID) trial.Result {
		a := trial.Right(t, around(body(deep(signs))))
		vars := trial.Kind(a, arena.Var)
		return trial.Of(outline.Extract(a, vars[len(vars)-1], 2, "new", trial.From(ids...).Next))
	}
	trial.WantProgram(t, "89 signs", b(89, ids), want)
	trial.WantError(t, "90 signs", b(90, ids), api.ErrForm)
	trial.WantError(t, "90 signs, and too few IDs", b(90, ids[:5]), api.ErrFull)
	whole := laid("m", "func new(b bool) bool { return "+deep(90)+"; }", body("m.new(b)"))
	trial.WantProgram(t, "all of it", extract(t, body(deep(90)), deep(90), "new", ids...), whole)
}

// TestExtractRoom: six nodes are new.
func TestExtractRoom(t *testing.T) {
	for size, want := range map[int]api.Errno{api.MaxNodes - 6: api.OK, api.MaxNodes - 5: api.ErrFull, api.MaxNodes: api.ErrFull} {
		a := trial.Crowd(t, "module main { func main() int { let x int = 1; print x;", size)
		b, e := outline.Extract(a, trial.Find(t, a, "x"), trial.Named(t, a, "main"), "new", op.Fresh(1))
		if e != want || (e == api.OK) != (b != nil) {
			t.Errorf("Extract of %d nodes: error %d", size, e)
		}
		if e == api.OK && b.Len() != api.MaxNodes {
			t.Error(b.Len(), "nodes")
		}
	}
}

// TestExtractWithManyVariables: each of them is a parameter.
func TestExtractWithManyVariables(t *testing.T) {
	const count = 4000
	var parameters, arguments []string
	for i := range count {
		name := "x" + string(rune('a'+i/26/26)) + string(rune('a'+i/26%26)) + string(rune('a'+i%26))
		parameters = append(parameters, name+" int")
		arguments = append(arguments, name)
	}
	call := func(f string) string { return "main." + f + "(" + strings.Join(arguments, ", ") + ")" }
	function := func(f, body string) string {
		return " func " + f + "(" + strings.Join(parameters, ", ") + ") int { return " + body + "; } "
	}
	program := func(f, g string) string {
		return "module main { func main() int { return 1; } " + function("f", f) + g + " }"
	}
	a := trial.Right(t, program(call("f"), ""))
	got := trial.Of(outline.Extract(a, trial.Kind(a, arena.Call)[0], 2, "g", op.Fresh(1)))
	want := trial.Right(t, program(call("g"), function("g", call("f"))))
	if got.Error != api.OK || !arena.Alike(got.Arena, want) {
		t.Errorf("error %d, %d nodes", got.Error, got.Arena.Len())
	}
}
