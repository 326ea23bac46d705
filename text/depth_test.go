package text_test

import (
	"strings"
	"testing"

	"hourglass/api"
	"hourglass/arena"
	"hourglass/grammar"
	"hourglass/text"
)

func wantDepth(t *testing.T, a *arena.Arena, id api.ID, want int) {
	t.Helper()
	if got := text.Depth(a, id); got != want {
		n, _ := a.Get(id)
		t.Errorf("Depth of %d, %v: %d, want %d", id, n, got, want)
	}
}

func TestDepthOfExpressions(t *testing.T) {
	cases := map[string]int{
		"0": 0, "true": 0, "read": 0, "a": 0, "!b": 1, "-1": 1, "!!b": 2, "-!-1": 3, "(1 + 2)": 1, "(1 + (2 + 3))": 2, "((1 + 2) + (3 + 4))": 2, "(-1 + !(2 + 3))": 3,
		"m.f()": 1, "m.f(1, 2)": 1, "m.f(-1)": 2, "m.f(1, 2, -3)": 2, "m.f(m.f(), 2)": 2, "-m.f((1 + m.f()))": 4,
	}
	for e, want := range cases {
		a := parsed(t, returning(e))
		for _, id := range []api.ID{1, 2, 3, 6, 7, 8} { // Program, Module, Func, Block, Return, and the expression
			wantDepth(t, a, id, want)
		}
		wantDepth(t, a, 4, 0)
		wantDepth(t, a, 0, 0)
		wantDepth(t, a, 1000, 0)
	}
}

func TestDepthOfStatements(t *testing.T) {
	cases := map[string]int{
		"let x int = 1;": 0, "let x int = -1;": 1, "a = 1;": 0, "a = (1 + 2);": 1, "print 1;": 0, "print !1;": 1, "do m.f();": 1, "do m.f(-1);": 2,
		"if b {} else {}": 1, "if !b {} else {}": 1, "if !!b {} else {}": 2, "if b { print 1; } else {}": 1, "if b { print -1; } else {}": 2, "if b { } else { print !!1; }": 3,
		"while b {}": 1, "while !!b {}": 2, "while b { print -1; }": 2, "while b { while b {} }": 2, "while b { if b {} else { while !!!b {} } print -1; }": 5,
		"while b { if b { print 1; } else {} }": 2, "if b {} else { if b {} else { if b {} else {} } }": 3,
	}
	for s, want := range cases {
		a := parsed(t, strings.Replace(returning("0"), "return", s+" return", 1))
		for _, id := range []api.ID{1, 2, 3, 6, 7} {
			wantDepth(t, a, id, want)
		}
	}
}

// TestDepthIsTheLargest: of several modules, functions, statements.
func TestDepthIsTheLargest(t *testing.T) {
	a := parsed(t, "module m { func f() int { print !1; print --1; return 0; } func g() int { return 1; } } module n { func f() int { return -!-1; } }")
	wantDepth(t, a, 1, 3)
	wantDepth(t, a, 2, 2)
	n, _ := a.Get(2)
	wantDepth(t, a, n.Kids[0], 2)
	wantDepth(t, a, n.Kids[1], 0)
	root, _ := a.Get(1)
	wantDepth(t, a, root.Kids[1], 3)
}

// TestDepthOfABlock: the braces belong to the If or the While.
func TestDepthOfABlock(t *testing.T) {
	a := parsed(t, strings.Replace(returning("0"), "return", "if b { print -1; } else {} while b {} return", 1))
	for id, n := range a.Walk(a.Root()) {
		want := 0
		for below, m := range a.Walk(id) {
			if m.Kind == arena.Neg && below != 0 {
				want = 1
			}
		}
		if n.Kind == arena.Block && id != 6 {
			wantDepth(t, a, id, want)
		}
	}
}

func TestDepthOfWhatIsNoTree(t *testing.T) {
	a := parsed(t, returning("-(1 + 2)"))
	wantDepth(t, a, 8, 2)
	b := a.Copy()
	b.Put(100, api.Node{Kind: arena.Int})
	wantDepth(t, b, 8, 0)
	b = a.Copy()
	b.Put(4, api.Node{Kind: arena.Param, Name: "a", Type: 1, Ref: 1000})
	wantDepth(t, b, 8, 0)
	b = a.Copy()
	b.Put(9, api.Node{Kind: arena.Bin, Num: 1, Kids: []api.ID{8, 10}})
	wantDepth(t, b, 8, 0)
	b = a.Copy()
	b.Drop(1)
	wantDepth(t, b, 1, 0)
}

// TestDepthOfOtherTrees: a Tree that is not Shaped has a depth, too.
func TestDepthOfOtherTrees(t *testing.T) {
	a := parsed(t, returning("-(1 + 2)"))
	a.Put(4, api.Node{Kind: 77, Num: 5, Ref: 8})
	if text.Shaped(a) {
		t.Fatal("it is Shaped")
	}
	wantDepth(t, a, 3, 2)
	wantDepth(t, a, 8, 2)
	wantDepth(t, a, 9, 1)
}

// TestDepthAndParse adds to each expression as much as it can be nested in.
func TestDepthAndParse(t *testing.T) {
	a := parsed(t, all)
	for id := range a.Walk(a.Root()) {
		s, e := text.Expr(a, id)
		if e != api.OK {
			continue
		}
		left := 90 - text.Depth(a, id)
		if _, e := grammar.Parse(returning(strings.Repeat("!", left) + s)); e == api.ErrText {
			t.Errorf("%s cannot be nested in %d", s, left)
		}
		if _, e := grammar.Parse(returning(strings.Repeat("!", left+1) + s)); e != api.ErrText {
			t.Errorf("%s can be nested in more than %d", s, left)
		}
	}
}

// nested returns a program with that many constructs around an Int, made node
// by node.
func nested(t *testing.T, times int, kind byte) *arena.Arena {
	t.Helper()
	a := parsed(t, returning("0"))
	for i := range api.ID(times) {
		under, n := 100+i, api.Node{Kind: kind, Kids: []api.ID{101 + i}}
		switch kind {
		case arena.Bin:
			a.Put(1000+i, api.Node{Kind: arena.Int})
			n.Num, n.Kids = 1, []api.ID{1000 + i, 101 + i}
		case arena.Call:
			n.Ref = 3
		}
		a.Put(under, n)
	}
	a.Put(100+api.ID(times), api.Node{Kind: arena.Int})
	a.Put(7, api.Node{Kind: arena.Return, Kids: []api.ID{100}})
	a.Drop(8)
	return a
}

// blocks returns a program with that many While or If statements within each
// other, made node by node.
func blocks(t *testing.T, times int, kind byte) *arena.Arena {
	t.Helper()
	a := parsed(t, returning("0"))
	for i := range api.ID(times) {
		id := 100 + 10*i
		n := api.Node{Kind: kind, Kids: []api.ID{id + 1, id + 2}}
		a.Put(id+1, api.Node{Kind: arena.Bool})
		if kind == arena.If {
			n.Kids = append(n.Kids, id+3)
			a.Put(id+3, api.Node{Kind: arena.Block})
		}
		a.Put(id, n)
		inner := api.Node{Kind: arena.Block, Kids: []api.ID{id + 10}}
		if i == api.ID(times)-1 {
			inner.Kids = nil
		}
		a.Put(id+2, inner)
	}
	a.Put(6, api.Node{Kind: arena.Block, Kids: []api.ID{100, 7}})
	return a
}

func TestDepthOfShapedPrograms(t *testing.T) {
	for _, times := range []int{1, 2, 89, 90, 91, 92, 150} {
		for _, kind := range []byte{arena.Not, arena.Neg, arena.Bin, arena.Call, arena.While, arena.If} {
			a := nested(t, times, kind)
			if kind == arena.While || kind == arena.If {
				if a = blocks(t, times, kind); times > 95 {
					continue // it is no Tree any more
				}
			}
			if !a.Tree() || text.Shaped(a) != (times <= 90) {
				t.Fatalf("%d of kind %d: Shaped is %v", times, kind, text.Shaped(a))
			}
			wantDepth(t, a, 3, times)
			s, e := text.Print(a)
			if (e == api.OK) != (times <= 90) {
				t.Fatalf("%d of kind %d: error %d", times, kind, e)
			}
			if b, f := grammar.Parse(s); f != api.OK || e == api.OK && !arena.Alike(a, b) {
				t.Fatalf("%d of kind %d: error %d", times, kind, f)
			}
		}
	}
}
