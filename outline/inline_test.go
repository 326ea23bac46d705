package outline_test

import (
	"math"
	"strings"
	"testing"

	"hourglass/api"
	"hourglass/arena"
	"hourglass/op"
	"hourglass/outline"
	"hourglass/text"
	"hourglass/trial"
)

// calling returns a program with these functions and a function whose parameters
// are a and b, which has that body.
func calling(functions, body string) string {
	return "module m { " + functions + " } module main { func main() int { return main.all(read, (read < 3)); } func all(a int, b bool) int { " + body + " } func loud(x int) int { print x; return x; } }"
}

// inline is for the first call that is printed like that.
func inline(t *testing.T, program, call string, ids ...api.ID) trial.Result {
	t.Helper()
	a := trial.Right(t, program)
	return trial.Of(outline.Inline(a, trial.Find(t, a, call), trial.From(ids...).Next))
}

// inlining is functions, a call, a body with it, and what this becomes.
type inlining struct {
	functions, call, body, want string
}

func inlinings() []inlining {
	return []inlining{
		{"func f(x int) int { return (x + 1); }", "m.f(a)", "print m.f(a); return 0;", "print (a + 1); return 0;"},
		{"func f(x int) int { return (x + 1); }", "m.f(7)", "print m.f(a); return m.f(7);", "print m.f(a); return (7 + 1);"},
		{"func f() int { return 7; }", "m.f()", "print (m.f() + a); return 0;", "print (7 + a); return 0;"},
		{"func f(x bool) bool { return x; }", "m.f(!b)", "print m.f(!b); return 0;", "print !b; return 0;"},
		{"func f(x int, y bool) int { return 7; }", "m.f((a * 2), !b)", "return m.f((a * 2), !b);", "return 7;"},
		{"func f(x int, y int) int { return ((y - x) * y); }", "m.f((a + 1), -a)", "return m.f((a + 1), -a);", "return ((-a - (a + 1)) * -a);"},
		{"func f(b bool, a int) bool { return (b == (a < 1)); }", "m.f((a == 1), (a + a))", "print m.f((a == 1), (a + a)); return 0;", "print ((a == 1) == ((a + a) < 1)); return 0;"},
		{"func f(x int) int { return (read / x); }", "m.f(a)", "print m.f(a); return read;", "print (read / a); return read;"},
		{"func f(x int) int { return (7 % x); }", "m.f(a)", "print (b && (m.f(a) == 1)); return 0;", "print (b && ((7 % a) == 1)); return 0;"},
		{"func f(x int) int { return main.loud((x + 1)); }", "m.f(a)", "print m.f(a); return a;", "print main.loud((a + 1)); return a;"},
		{"func f(x int) int { return main.loud((x + 1)); }", "m.f(a)", "do m.f(a); return a;", "do main.loud((a + 1)); return a;"},
		{"func f(x int) int { return (main.loud(x) + main.loud(-x)); }", "m.f(-a)", "print m.f(-a); return a;", "print (main.loud(-a) + main.loud(--a)); return a;"},
		{"func f(x int) int { return (x * x); }", "m.f(a)", "let c int = m.f(a); return c;", "let c int = (a * a); return c;"},
		{"func f(x int) int { return (x * x); }", "m.f(a)", "a = m.f(a); return a;", "a = (a * a); return a;"},
		{"func f(x int) int { return (x * x); }", "m.f(c)", "let c int = 5; c = 6; print m.f(c); return a;", "let c int = 5; c = 6; print (c * c); return a;"},
		{"func f(x int) bool { return (x < 3); }", "m.f(a)", "if m.f(a) { print 1; } else { print 2; } return a;", "if (a < 3) { print 1; } else { print 2; } return a;"},
		{"func f(x int) bool { return (x < 3); }", "m.f(a)", "while m.f(a) { a = (a + 1); } return a;", "while (a < 3) { a = (a + 1); } return a;"},
		{"func f() bool { return (read == 1); }", "m.f()", "while m.f() { } return a;", "while (read == 1) { } return a;"},
		{"func f(x int) int { return -x; }", "m.f(c)", "while b { let c int = (a + 1); a = m.f(c); b = false; } return a;", "while b { let c int = (a + 1); a = -c; b = false; } return a;"},
		{"func f(x int) int { return -x; }", "m.f(2)", "print main.loud(main.loud((1 + m.f(2)))); return a;", "print main.loud(main.loud((1 + -2))); return a;"},
		{"func f(x int) int { return m.g(x, m.g(x, 1)); } func g(x int, y int) int { return (x + y); }", "m.f(a)", "return m.f(a);", "return m.g(a, m.g(a, 1));"},
		{"func f(x int) int { return m.g(x, m.g(x, 1)); } func g(x int, y int) int { return (x + y); }", "m.g(a, -a)", "return m.g(a, -a);", "return (a + -a);"},
	}
}

func TestInline(t *testing.T) {
	for _, c := range inlinings() {
		a := trial.Right(t, calling(c.functions, c.body))
		b := a.Copy()
		for _, stamp := range []uint32{1, math.MaxUint32} {
			got := trial.Of(outline.Inline(a, trial.Find(t, a, c.call), op.Fresh(stamp)))
			trial.WantProgram(t, c.call+" in "+c.body, got, calling(c.functions, c.want))
			wantBehavior(t, a, got.Arena)
		}
		if !arena.Same(a, b) {
			t.Errorf("%s: the argument has changed", c.body)
		}
	}
}

// TestInlineInside: also in a function that calls itself, and calls of Main.
func TestInlineInside(t *testing.T) {
	for _, c := range [][4]string{
		{"func f(x int) bool { return ((x < 1) || m.f((x - 1))); }", "m.f((x - 1))", "if m.f(a) { print 1; } else { } return a;",
			"func f(x int) bool { return ((x < 1) || (((x - 1) < 1) || m.f(((x - 1) - 1)))); }"},
		{"func f(x int, y int) bool { return ((x < y) && m.f(y, x)); }", "m.f(y, x)", "print m.f(a, 5); return a;",
			"func f(x int, y int) bool { return ((x < y) && ((y < x) && m.f(x, y))); }"},
		{"func f(x int) int { return m.f(x); }", "m.f(x)", "if b { a = m.f(a); } else { } return a;",
			"func f(x int) int { return m.f(x); }"},
		{"func f(x int) int { print x; return m.g((x - 1)); } func g(y int) int { return (2 * y); }", "m.g((x - 1))", "return m.f(a);",
			"func f(x int) int { print x; return (2 * (x - 1)); } func g(y int) int { return (2 * y); }"},
		{"func f() int { if (read == 0) { } else { print main.main(); } return read; }", "main.main()", "return m.f();",
			"func f() int { if (read == 0) { } else { print main.all(read, (read < 3)); } return read; }"},
	} {
		a := trial.Right(t, calling(c[0], c[2]))
		got := trial.Of(outline.Inline(a, trial.Find(t, a, c[1]), op.Fresh(1)))
		trial.WantProgram(t, c[1]+" in "+c[0], got, calling(c[3], c[2]))
		wantBehavior(t, a, got.Arena)
	}
}

// TestInlinedNodes: the clone's nodes are made in their order, and the call's are
// gone.
func TestInlinedNodes(t *testing.T) {
	a := trial.Right(t, "module main { func f(x int, y int) int { return (y + (x * y)); } func main() int { let z int = 4; print main.f((z - 1), 2); return z; } }")
	const z, print, call, last = 15, 17, 18, 22
	if got, _ := text.Expr(a, call); got != "main.f((z - 1), 2)" {
		t.Fatal(got)
	}
	for _, ids := range [][]api.ID{trial.Row(1000, 7), {1006, 1005, 1004, 1003, 1002, 1001, 1000}, {50, math.MaxUint64, 40, 65537, 30, 1 << 40, 35}} {
		s := trial.From(append(ids, 2000)...)
		want := a.Copy()
		for id := api.ID(call); id <= last; id++ {
			want.Drop(id)
		}
		want.Put(ids[0], api.Node{Kind: arena.Int, Num: 2})
		want.Put(ids[1], api.Node{Kind: arena.Var, Ref: z})
		want.Put(ids[2], api.Node{Kind: arena.Int, Num: 1})
		want.Put(ids[3], api.Node{Kind: arena.Bin, Num: 2, Kids: []api.ID{ids[1], ids[2]}})
		want.Put(ids[4], api.Node{Kind: arena.Int, Num: 2})
		want.Put(ids[5], api.Node{Kind: arena.Bin, Num: 3, Kids: []api.ID{ids[3], ids[4]}})
		want.Put(ids[6], api.Node{Kind: arena.Bin, Num: 1, Kids: []api.ID{ids[0], ids[5]}})
		want.Put(print, api.Node{Kind: arena.Print, Kids: []api.ID{ids[6]}})
		trial.WantArena(t, "Inline", trial.Of(outline.Inline(a, call, s.Next)), want)
		if s.Asked != 7 {
			t.Errorf("%d new IDs", s.Asked)
		}
	}
}

// TestInlineWithSmallIDs: the clone's nodes may have smaller IDs than all others.
func TestInlineWithSmallIDs(t *testing.T) {
	for _, c := range inlinings() {
		a := trial.Moved(trial.Right(t, calling(c.functions, c.body)), 5000)
		got := trial.Of(outline.Inline(a, trial.Find(t, a, c.call), trial.From(trial.Row(2, 20)...).Next))
		trial.WantProgram(t, c.call+" in "+c.body, got, calling(c.functions, c.want))
	}
}

func TestInlineErrors(t *testing.T) {
	a := trial.Right(t, around(statements))
	for _, id := range append(a.IDs(), 0, 1000, math.MaxUint64) {
		if n, _ := a.Get(id); n.Kind == arena.Call {
			continue
		}
		trial.WantError(t, "no call", trial.Of(outline.Inline(a, id, op.Fresh(1))), api.ErrNone)
		trial.WantError(t, "no call, no function", trial.Of(outline.Inline(a, id, nil)), api.ErrNone)
	}
}

// TestInlineUnsafe: a body with another statement, or an argument that is not
// Safe, also where there are no IDs.
func TestInlineUnsafe(t *testing.T) {
	wantUnsafe := func(functions, call string) {
		t.Helper()
		program := calling(functions, "print "+call+"; return a;")
		trial.WantError(t, call+" of "+functions, inline(t, program, call, trial.Row(1000, 20)...), api.ErrUnsafe)
		trial.WantError(t, call+" of "+functions+", and no ID", inline(t, program, call), api.ErrUnsafe)
	}
	for _, s := range []string{"print 1;", "let y int = 1;", "x = 1;", "if true { } else { }", "while (x < 0) { }", "do main.loud(1);", "print 1; print 2;"} {
		wantUnsafe("func f(x int) int { "+s+" return x; }", "m.f(a)")
		wantUnsafe("func f(x int) int { "+s+" return 1; }", "m.f(read)")
	}
	for _, e := range []string{
		"read", "(a / 1)", "(7 % 3)", "main.loud(a)", "m.f(a, a)", "-read", "(1 + (a / 2))", "(main.loud(1) * 0)", "((a + 1) - -(2 % a))",
	} {
		for _, body := range []string{"(x + y)", "x", "y", "1"} {
			f := "func f(x int, y int) int { return " + body + "; }"
			wantUnsafe(f, "m.f("+e+", 1)")
			wantUnsafe(f, "m.f(a, "+e+")")
		}
	}
}

// TestInlineFull: five IDs are needed, which do not exist, each another one. While
// the clone is made, the call's nodes exist.
func TestInlineFull(t *testing.T) {
	const call = "m.f(-a)"
	program := calling("func f(x int) int { return (x * x); }", "print "+call+"; return 0;")
	a := trial.Right(t, program)
	id := trial.Find(t, a, call)
	n, _ := a.Get(id)
	for count := range 5 {
		trial.WantError(t, "too few IDs", inline(t, program, call, trial.Row(1000, count)...), api.ErrFull)
		for _, other := range []api.ID{0, 1, id, n.Kids[0], n.Kids[0] + 1, 1000} {
			if count == 0 && other == 1000 {
				continue // it does not exist yet
			}
			ids := append(append(trial.Row(1000, count), other), trial.Row(2000, 8)...)
			trial.WantError(t, "an ID that exists", inline(t, program, call, ids...), api.ErrFull)
		}
	}
	want := calling("func f(x int) int { return (x * x); }", "print (-a * -a); return 0;")
	trial.WantProgram(t, "five IDs", inline(t, program, call, trial.Row(1000, 5)...), want)
	trial.WantError(t, "no function", trial.Of(outline.Inline(a, id, nil)), api.ErrFull)
	trial.WantError(t, "the stamp 0", trial.Of(outline.Inline(a, id, op.Fresh(0))), api.ErrFull)
}

// TestInlineOfDo: what is done must be a call.
func TestInlineOfDo(t *testing.T) {
	for _, e := range []string{"x", "1", "(x + 1)", "-x", "read", "-main.loud(x)", "(main.loud(x) + 1)"} {
		program := calling("func f(x int) int { return "+e+"; }", "do m.f(a); return 0;")
		trial.WantError(t, e, inline(t, program, "m.f(a)", trial.Row(1000, 20)...), api.ErrForm)
		trial.WantError(t, e+", and no ID", inline(t, program, "m.f(a)"), api.ErrFull)
	}
	program := calling("func f(x int) bool { return !true; }", "do m.f(a); return 0;")
	trial.WantError(t, "!true", inline(t, program, "m.f(a)", trial.Row(1000, 20)...), api.ErrForm)
}

// TestInlineTooDeep: a program cannot be nested more deeply than layer 9 reads.
func TestInlineTooDeep(t *testing.T) {
	minus := func(signs int) string { return strings.Repeat("-", signs) }
	f := "func f(x int) int { return " + minus(30) + "x; }"
	deep := func(outside, inside int) (program, call string) {
		call = "m.f(" + minus(inside) + "a)"
		return calling(f, "print "+minus(outside)+call+"; return 0;"), call
	}
	for _, c := range []struct {
		outside, inside int
		want            api.Errno
	}{{0, 60, api.OK}, {60, 0, api.OK}, {20, 40, api.OK}, {0, 61, api.ErrForm}, {61, 0, api.ErrForm}, {21, 40, api.ErrForm}, {20, 41, api.ErrForm}} {
		program, call := deep(c.outside, c.inside)
		got := inline(t, program, call, trial.Row(1000, 31+c.inside)...)
		if c.want != api.OK {
			trial.WantError(t, call, got, c.want)
			trial.WantError(t, call+", and too few IDs", inline(t, program, call, trial.Row(1000, 30+c.inside)...), api.ErrFull)
			continue
		}
		trial.WantProgram(t, call, got, calling(f, "print "+minus(90)+"a; return 0;"))
	}
}

// TestInlineRoom: for three new nodes, before those of the call are removed.
func TestInlineRoom(t *testing.T) {
	for size, want := range map[int]api.Errno{api.MaxNodes - 3: api.OK, api.MaxNodes - 2: api.ErrFull, api.MaxNodes: api.ErrFull} {
		a := trial.Crowd(t, "module main { func f(x int) int { return (x + 1); } func main() int { print main.f(1);", size)
		b, e := outline.Inline(a, trial.Find(t, a, "main.f(1)"), op.Fresh(1))
		if e != want || (e == api.OK) != (b != nil) {
			t.Errorf("Inline in %d nodes: error %d", size, e)
		}
		if e == api.OK && b.Len() != size+3-2 {
			t.Error(b.Len(), "nodes")
		}
	}
}

// TestInlineOfMuch: a clone for which there is no room, since each of the
// parameter's uses is as large as the argument.
func TestInlineOfMuch(t *testing.T) {
	sum := func(x string, doublings int) string {
		for range doublings {
			x = "(" + x + " + " + x + ")"
		}
		return x
	}
	for doublings, want := range map[int]api.Errno{6: api.OK, 7: api.ErrFull} {
		program := "module main { func f(x int) int { return " + sum("x", doublings) + "; } func main() int { return main.f(" + sum("1", doublings) + "); } }"
		a := trial.Right(t, program)
		next := api.ID(100000)
		got := trial.Of(outline.Inline(a, trial.Kind(a, arena.Call)[0], func() (api.ID, bool) {
			next++
			return next, true
		}))
		if want != api.OK {
			trial.WantError(t, "too much", got, want)
		} else if got.Error != api.OK || got.Arena.Len() != a.Len()-(2*64-1)-1+(2*64*64-1) {
			t.Errorf("error %d, %d nodes", got.Error, got.Arena.Len())
		}
	}
}
