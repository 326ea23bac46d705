package local_test

import (
	"math"
	"slices"
	"strings"
	"testing"

	"hourglass/api"
	"hourglass/arena"
	"hourglass/local"
	"hourglass/op"
	"hourglass/trial"
)

func TestInline(t *testing.T) {
	for _, c := range [][2]string{
		{"let x int = (a + 1); print x; return 0;", "print (a + 1); return 0;"},
		{"let x int = 1; return 0;", "return 0;"},
		{"let x int = -a; return x;", "return -a;"},
		{"let x int = (a * 2); return (x + (x - main.g(x)));", "return ((a * 2) + ((a * 2) - main.g((a * 2))));"},
		{"let x bool = (b && true); print x; print !x; return 0;", "print (b && true); print !(b && true); return 0;"},
		{"let x bool = !b; if x { if x { print x; } else { print x; } } else { while x { print x; } } return 0;", "if !b { if !b { print !b; } else { print !b; } } else { while !b { print !b; } } return 0;"},
		{"print 1; let x int = 2; let v int = 3; v = x; return v;", "print 1; let v int = 3; v = 2; return v;"},
		{"let w int = a; let x int = (w + w); let v int = x; return x;", "let w int = a; let v int = (w + w); return (w + w);"},
		{"if b { let x int = 1; print x; } else { print 2; } return 0;", "if b { print 1; } else { print 2; } return 0;"},
		{"while b { let w int = a; let x int = w; print x; b = false; } return 0;", "while b { let w int = a; print w; b = false; } return 0;"},
		{"do main.f(1, true); let x int = 1; do main.f(x, true); return 0;", "do main.f(1, true); do main.f(1, true); return 0;"},
		{"let v int = 1; v = 2; let x int = a; v = 3; return (x + v);", "let v int = 1; v = 2; v = 3; return (a + v);"},
		{"let x int = 1; print (read / x); return (x % 2);", "print (read / 1); return (1 % 2);"},
		{"let x int = a; if b { let v int = x; v = 1; } else { } return 0;", "if b { let v int = a; v = 1; } else { } return 0;"},
	} {
		a := trial.Right(t, around(c[0]))
		wantBody(t, c[0], trial.Of(local.Inline(a, trial.Named(t, a, "x"), op.Fresh(1))), c[1])
		wantBody(t, c[0], trial.Of(local.Inline(a, trial.Named(t, a, "x"), op.Fresh(math.MaxUint32))), c[1])
	}
}

// TestInlinedNodes: clones are made for one variable after the other, by their
// IDs.
func TestInlinedNodes(t *testing.T) {
	const block, letX, sum, one, print = 4, 5, 6, 7, 9
	a := trial.Right(t, "module main { func main() int { let x int = (1 + 2); print x; print x; return x; } }")
	// The Vars are 10, 12 and 14: the first one of the text becomes 50.
	a.Put(50, api.Node{Kind: arena.Var, Ref: letX})
	a.Put(print, api.Node{Kind: arena.Print, Kids: []api.ID{50}})
	a.Drop(10)
	s := trial.From(103, 102, 101, 203, 202, 201, 303, 302, 301, 400)
	want := a.Copy()
	for parent, id := range map[api.ID]api.ID{11: 100, 13: 200, print: 300} {
		n, _ := want.Get(parent)
		want.Drop(n.Kids[0])
		n.Kids[0] = id + 1
		want.Put(parent, n)
		want.Put(id+3, api.Node{Kind: arena.Int, Num: 1})
		want.Put(id+2, api.Node{Kind: arena.Int, Num: 2})
		want.Put(id+1, api.Node{Kind: arena.Bin, Num: 1, Kids: []api.ID{id + 3, id + 2}})
	}
	want.Put(block, api.Node{Kind: arena.Block, Kids: []api.ID{print, 11, 13}})
	want.Drop(letX)
	trial.WantArena(t, "Inline", trial.Of(local.Inline(a, letX, s.Next)), want)
	if s.Asked != 9 {
		t.Errorf("%d new IDs", s.Asked)
	}
}

// TestInlineTakesIDsAgain: that of a variable is free once it is removed.
func TestInlineTakesIDsAgain(t *testing.T) {
	const body = "let x int = 1; print x; return x;"
	const first, second = 10, 12
	for what, c := range map[string]struct {
		ids  []api.ID
		want api.Errno
	}{
		"the first one's, for the second one": {[]api.ID{1000, first}, api.OK},
		"the first one's, for it":             {[]api.ID{first, 1000}, api.ErrFull},
		"the second one's":                    {[]api.ID{second, 1000}, api.ErrFull},
		"that of the Let":                     {[]api.ID{7, 1000}, api.ErrFull},
		"that of its expression":              {[]api.ID{1000, 8}, api.ErrFull},
	} {
		got := inline(t, body, "x", c.ids...)
		if c.want != api.OK {
			trial.WantError(t, what, got, c.want)
			continue
		}
		wantBody(t, what, got, "print 1; return 1;")
	}
}

func TestInlineErrors(t *testing.T) {
	a := trial.Right(t, around("let x int = (a + main.g(1)); while b { print read; } if b { a = -a; } else { do main.g(2); } return (x % 2);"))
	for id, n := range a.Walk(1) {
		if n.Kind != arena.Let {
			trial.WantError(t, "no Let", trial.Of(local.Inline(a, id, op.Fresh(1))), api.ErrNone)
			trial.WantError(t, "no Let, no ID", trial.Of(local.Inline(a, id, nil)), api.ErrNone)
		}
	}
	for _, id := range []api.ID{0, 1000, math.MaxUint64} {
		trial.WantError(t, "no node", trial.Of(local.Inline(a, id, op.Fresh(1))), api.ErrNone)
	}
}

func TestInlineUnsafe(t *testing.T) {
	for _, body := range []string{
		"let x int = 1; x = 2; return x;",
		"let x int = 1; x = x; return x;",
		"let x int = 1; x = 2; return 0;",
		"let x int = 1; if b { while b { x = 2; } } else { } return x;",
		"let x int = (a / 1); return x;",
		"let x int = (a / 1); return 0;",
		"let x int = -(a % 1); return x;",
		"let x int = read; return x;",
		"let x bool = (read == 1); return 0;",
		"let x int = main.g(1); return x;",
		"let x int = (1 + main.g(1)); return x;",
		"let x int = a; a = 1; return x;",
		"let x int = a; a = 1; return 0;",
		"a = 1; let x int = a; return x;",
		"let v int = 1; v = 2; let x int = v; return x;",
		"let v int = 1; let x int = (a + (1 - v)); if b { } else { v = 2; } return x;",
		"let x bool = (b || true); while x { b = true; } return 0;",
		"if b { let x int = a; print x; } else { a = 1; } return 0;",
	} {
		trial.WantError(t, body, inline(t, body, "x", 1000, 1001, 1002, 1003, 1004, 1005), api.ErrUnsafe)
		trial.WantError(t, body+" without an ID", inline(t, body, "x"), api.ErrUnsafe)
	}
}

func TestInlineFull(t *testing.T) {
	const body = "let x int = (a + 1); print x; return (x * x);"
	for count := range 9 {
		ids := trial.Row(1000, count)
		trial.WantError(t, "too few IDs", inline(t, body, "x", ids...), api.ErrFull)
		for _, id := range []api.ID{0, 1, 8, 1000} {
			if count > 0 || id != 1000 {
				trial.WantError(t, "an ID that exists", inline(t, body, "x", slices.Concat(ids, []api.ID{id}, trial.Row(2001, 8))...), api.ErrFull)
			}
		}
	}
	a := trial.Right(t, around(body))
	trial.WantError(t, "no function", trial.Of(local.Inline(a, trial.Named(t, a, "x"), nil)), api.ErrFull)
	wantBody(t, "just enough IDs", inline(t, body, "x", 1000, 1001, 1002, 1003, 1004, 1005, 1006, 1007, 1008), "print (a + 1); return ((a + 1) * (a + 1));")
	unused := trial.Right(t, around("let x int = (a + 1); return 0;"))
	wantBody(t, "no ID is needed", trial.Of(local.Inline(unused, trial.Named(t, unused, "x"), nil)), "return 0;")
}

// TestInlineTooDeep: a program cannot be nested more deeply than layer 9 reads.
func TestInlineTooDeep(t *testing.T) {
	deep := func(signs int) string {
		return "let x int = " + strings.Repeat("-", 40) + "1; print " + strings.Repeat("-", signs) + "x; return 0;"
	}
	ids := trial.Row(1000, 41)
	wantBody(t, "90 signs", inline(t, deep(50), "x", ids...), "print "+strings.Repeat("-", 90)+"1; return 0;")
	trial.WantError(t, "91 signs", inline(t, deep(51), "x", ids...), api.ErrForm)
	trial.WantError(t, "91 signs, and too few IDs", inline(t, deep(51), "x", ids[:40]...), api.ErrFull)
}
