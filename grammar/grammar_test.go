package grammar_test

import (
	"slices"
	"strings"
	"testing"

	"hourglass/api"
	"hourglass/arena"
	"hourglass/grammar"
)

// The signs of the document, in its order.
var writtenSigns = []string{"+", "-", "*", "/", "%", "<", "<=", ">", ">=", "==", "!=", "&&", "||"}

// wantNodes checks that a text has these nodes, with the IDs 1, 2, ..
func wantNodes(t *testing.T, text string, want ...api.Node) {
	t.Helper()
	a, e := grammar.Parse(text)
	if e != api.OK || a == nil {
		t.Fatalf("%.300q: error %d", text, e)
	}
	if a.Len() != len(want) {
		t.Fatalf("%.300q: %d nodes, want %d", text, a.Len(), len(want))
	}
	for i, n := range want {
		got, ok := a.Get(api.ID(i + 1))
		if !ok || got.Kind != n.Kind || got.Name != n.Name || got.Num != n.Num || got.Type != n.Type || got.Ref != n.Ref || !slices.Equal(got.Kids, n.Kids) {
			t.Fatalf("%.300q: node %d is %v, want %v", text, i+1, got, n)
		}
	}
}

func wantError(t *testing.T, text string, want api.Errno) {
	t.Helper()
	if a, e := grammar.Parse(text); e != want || (a == nil) != (want != api.OK) {
		t.Errorf("%.300q: error %d, want %d", text, e, want)
	}
}

// body puts statements into a function in which the number a and the truth b
// are parameters.
func body(statements string) string {
	return "module m { func f(a int, b bool) int {" + statements + " return 0; } }"
}

// wantStatements checks the nodes of statements. The first of them is 7, and
// the last two nodes, the Return and its Int, are not to be given.
func wantStatements(t *testing.T, statements string, top []api.ID, want ...api.Node) {
	t.Helper()
	last := api.ID(7 + len(want))
	l := []api.Node{
		{Kind: arena.Program, Kids: []api.ID{2}},
		{Kind: arena.Module, Name: "m", Kids: []api.ID{3}},
		{Kind: arena.Func, Name: "f", Type: arena.Number, Kids: []api.ID{4, 5, 6}},
		{Kind: arena.Param, Name: "a", Type: arena.Number},
		{Kind: arena.Param, Name: "b", Type: arena.Truth},
		{Kind: arena.Block, Kids: append(slices.Clone(top), last)},
	}
	l = append(l, want...)
	l = append(l, api.Node{Kind: arena.Return, Kids: []api.ID{last + 1}}, api.Node{Kind: arena.Int})
	wantNodes(t, body(statements), l...)
}

// wantExpression checks the nodes of an expression, of which the first is 8.
func wantExpression(t *testing.T, e string, want ...api.Node) {
	t.Helper()
	wantStatements(t, "print "+e+";", []api.ID{7}, append([]api.Node{{Kind: arena.Print, Kids: []api.ID{8}}}, want...)...)
}

func TestExample(t *testing.T) {
	wantNodes(t, "module m { func f(a int) int { return (a + 1); } }",
		api.Node{Kind: arena.Program, Kids: []api.ID{2}},
		api.Node{Kind: arena.Module, Name: "m", Kids: []api.ID{3}},
		api.Node{Kind: arena.Func, Name: "f", Type: arena.Number, Kids: []api.ID{4, 5}},
		api.Node{Kind: arena.Param, Name: "a", Type: arena.Number},
		api.Node{Kind: arena.Block, Kids: []api.ID{6}},
		api.Node{Kind: arena.Return, Kids: []api.ID{7}},
		api.Node{Kind: arena.Bin, Num: 1, Kids: []api.ID{8, 9}},
		api.Node{Kind: arena.Var, Ref: 4},
		api.Node{Kind: arena.Int, Num: 1},
	)
}

func TestModulesAndFunctions(t *testing.T) {
	wantNodes(t, "", api.Node{Kind: arena.Program})
	wantNodes(t, " # nothing", api.Node{Kind: arena.Program})
	wantNodes(t, "module m{}module n{}",
		api.Node{Kind: arena.Program, Kids: []api.ID{2, 3}},
		api.Node{Kind: arena.Module, Name: "m"},
		api.Node{Kind: arena.Module, Name: "n"},
	)
	wantNodes(t, "module m{func m()bool{return true;}func f(f bool)bool{return f;}}module n{func f()int{return 1;}}",
		api.Node{Kind: arena.Program, Kids: []api.ID{2, 12}},
		api.Node{Kind: arena.Module, Name: "m", Kids: []api.ID{3, 7}},
		api.Node{Kind: arena.Func, Name: "m", Type: arena.Truth, Kids: []api.ID{4}},
		api.Node{Kind: arena.Block, Kids: []api.ID{5}},
		api.Node{Kind: arena.Return, Kids: []api.ID{6}},
		api.Node{Kind: arena.Bool, Num: 1},
		api.Node{Kind: arena.Func, Name: "f", Type: arena.Truth, Kids: []api.ID{8, 9}},
		api.Node{Kind: arena.Param, Name: "f", Type: arena.Truth},
		api.Node{Kind: arena.Block, Kids: []api.ID{10}},
		api.Node{Kind: arena.Return, Kids: []api.ID{11}},
		api.Node{Kind: arena.Var, Ref: 8},
		api.Node{Kind: arena.Module, Name: "n", Kids: []api.ID{13}},
		api.Node{Kind: arena.Func, Name: "f", Type: arena.Number, Kids: []api.ID{14}},
		api.Node{Kind: arena.Block, Kids: []api.ID{15}},
		api.Node{Kind: arena.Return, Kids: []api.ID{16}},
		api.Node{Kind: arena.Int, Num: 1},
	)
}

func TestStatements(t *testing.T) {
	truth := api.Node{Kind: arena.Bool, Num: 1}
	wantStatements(t, "", nil)
	wantStatements(t, "let x int = a; let y bool = b;", []api.ID{7, 9},
		api.Node{Kind: arena.Let, Name: "x", Type: arena.Number, Kids: []api.ID{8}}, api.Node{Kind: arena.Var, Ref: 4},
		api.Node{Kind: arena.Let, Name: "y", Type: arena.Truth, Kids: []api.ID{10}}, api.Node{Kind: arena.Var, Ref: 5},
	)
	wantStatements(t, "let x int = 2; x = x; a = 3;", []api.ID{7, 9, 11},
		api.Node{Kind: arena.Let, Name: "x", Type: arena.Number, Kids: []api.ID{8}}, api.Node{Kind: arena.Int, Num: 2},
		api.Node{Kind: arena.Assign, Ref: 7, Kids: []api.ID{10}}, api.Node{Kind: arena.Var, Ref: 7},
		api.Node{Kind: arena.Assign, Ref: 4, Kids: []api.ID{12}}, api.Node{Kind: arena.Int, Num: 3},
	)
	wantStatements(t, "if true {} else {}", []api.ID{7},
		api.Node{Kind: arena.If, Kids: []api.ID{8, 9, 10}}, truth, api.Node{Kind: arena.Block}, api.Node{Kind: arena.Block},
	)
	wantStatements(t, "if true { print 1; print 2; } else { print 3; }", []api.ID{7},
		api.Node{Kind: arena.If, Kids: []api.ID{8, 9, 14}}, truth,
		api.Node{Kind: arena.Block, Kids: []api.ID{10, 12}},
		api.Node{Kind: arena.Print, Kids: []api.ID{11}}, api.Node{Kind: arena.Int, Num: 1},
		api.Node{Kind: arena.Print, Kids: []api.ID{13}}, api.Node{Kind: arena.Int, Num: 2},
		api.Node{Kind: arena.Block, Kids: []api.ID{15}},
		api.Node{Kind: arena.Print, Kids: []api.ID{16}}, api.Node{Kind: arena.Int, Num: 3},
	)
	wantStatements(t, "while b { while true {} } print 9;", []api.ID{7, 13},
		api.Node{Kind: arena.While, Kids: []api.ID{8, 9}}, api.Node{Kind: arena.Var, Ref: 5},
		api.Node{Kind: arena.Block, Kids: []api.ID{10}},
		api.Node{Kind: arena.While, Kids: []api.ID{11, 12}}, truth, api.Node{Kind: arena.Block},
		api.Node{Kind: arena.Print, Kids: []api.ID{14}}, api.Node{Kind: arena.Int, Num: 9},
	)
	wantStatements(t, "do m.f(1, b);", []api.ID{7},
		api.Node{Kind: arena.Do, Kids: []api.ID{8}},
		api.Node{Kind: arena.Call, Ref: 3, Kids: []api.ID{9, 10}}, api.Node{Kind: arena.Int, Num: 1}, api.Node{Kind: arena.Var, Ref: 5},
	)
}

func TestExpressions(t *testing.T) {
	wantExpression(t, "0", api.Node{Kind: arena.Int})
	wantExpression(t, "9223372036854775807", api.Node{Kind: arena.Int, Num: 9223372036854775807})
	wantExpression(t, "true", api.Node{Kind: arena.Bool, Num: 1})
	wantExpression(t, "false", api.Node{Kind: arena.Bool})
	wantExpression(t, "read", api.Node{Kind: arena.Read})
	wantExpression(t, "a", api.Node{Kind: arena.Var, Ref: 4})
	wantExpression(t, "!b", api.Node{Kind: arena.Not, Kids: []api.ID{9}}, api.Node{Kind: arena.Var, Ref: 5})
	wantExpression(t, "-1", api.Node{Kind: arena.Neg, Kids: []api.ID{9}}, api.Node{Kind: arena.Int, Num: 1})
	wantExpression(t, "-!-a",
		api.Node{Kind: arena.Neg, Kids: []api.ID{9}}, api.Node{Kind: arena.Not, Kids: []api.ID{10}},
		api.Node{Kind: arena.Neg, Kids: []api.ID{11}}, api.Node{Kind: arena.Var, Ref: 4},
	)
	wantExpression(t, "m.f()", api.Node{Kind: arena.Call, Ref: 3})
	wantExpression(t, "m.f(m.f(1), 2)",
		api.Node{Kind: arena.Call, Ref: 3, Kids: []api.ID{9, 11}},
		api.Node{Kind: arena.Call, Ref: 3, Kids: []api.ID{10}},
		api.Node{Kind: arena.Int, Num: 1}, api.Node{Kind: arena.Int, Num: 2},
	)
	wantExpression(t, "(-a - (b - -3))",
		api.Node{Kind: arena.Bin, Num: 2, Kids: []api.ID{9, 11}},
		api.Node{Kind: arena.Neg, Kids: []api.ID{10}}, api.Node{Kind: arena.Var, Ref: 4},
		api.Node{Kind: arena.Bin, Num: 2, Kids: []api.ID{12, 13}}, api.Node{Kind: arena.Var, Ref: 5},
		api.Node{Kind: arena.Neg, Kids: []api.ID{14}}, api.Node{Kind: arena.Int, Num: 3},
	)
	for i, s := range writtenSigns {
		wantExpression(t, "(1"+s+"2)",
			api.Node{Kind: arena.Bin, Num: int64(i + 1), Kids: []api.ID{9, 10}}, api.Node{Kind: arena.Int, Num: 1}, api.Node{Kind: arena.Int, Num: 2})
	}
}

func TestCallsOfAnyFunction(t *testing.T) {
	wantNodes(t, "module m { func f() int { return n.f(m.g()); } func g() int { return 0; } } module n { func f() int { return n.f(); } }",
		api.Node{Kind: arena.Program, Kids: []api.ID{2, 12}},
		api.Node{Kind: arena.Module, Name: "m", Kids: []api.ID{3, 8}},
		api.Node{Kind: arena.Func, Name: "f", Type: arena.Number, Kids: []api.ID{4}},
		api.Node{Kind: arena.Block, Kids: []api.ID{5}},
		api.Node{Kind: arena.Return, Kids: []api.ID{6}},
		api.Node{Kind: arena.Call, Ref: 13, Kids: []api.ID{7}},
		api.Node{Kind: arena.Call, Ref: 8},
		api.Node{Kind: arena.Func, Name: "g", Type: arena.Number, Kids: []api.ID{9}},
		api.Node{Kind: arena.Block, Kids: []api.ID{10}},
		api.Node{Kind: arena.Return, Kids: []api.ID{11}},
		api.Node{Kind: arena.Int},
		api.Node{Kind: arena.Module, Name: "n", Kids: []api.ID{13}},
		api.Node{Kind: arena.Func, Name: "f", Type: arena.Number, Kids: []api.ID{14}},
		api.Node{Kind: arena.Block, Kids: []api.ID{15}},
		api.Node{Kind: arena.Return, Kids: []api.ID{16}},
		api.Node{Kind: arena.Call, Ref: 13},
	)
}

func TestTypesAreNotChecked(t *testing.T) {
	wantError(t, body("let x int = true; x = !1; if 1 {} else {} while (true + m.f()) {} do m.f(1, 2, 3);"), api.OK)
}

func TestSignsAndNumbers(t *testing.T) {
	for i, s := range writtenSigns {
		if grammar.Sign(int64(i+1)) != s || grammar.Op(s) != int64(i+1) {
			t.Errorf("%s: %d, %s", s, grammar.Op(s), grammar.Sign(int64(i+1)))
		}
	}
	for _, op := range []int64{0, -1, 14, 15, 257, 1 << 32, 1<<32 + 1, 1 << 62, -1 << 63, 1<<63 - 1} {
		if s := grammar.Sign(op); s != "" {
			t.Errorf("Sign of %d: %s", op, s)
		}
	}
	for _, s := range []string{"", "=", "!", "(", ".", "&", "|", "===", "+ ", " +", "++", "plus", "1", "\x00"} {
		if op := grammar.Op(s); op != 0 {
			t.Errorf("Op of %q: %d", s, op)
		}
	}
}

func TestLeast(t *testing.T) {
	for _, id := range []api.ID{1, 2, 3, 1 << 40, 1<<64 - 1} {
		if got := grammar.Least(id); got != id {
			t.Errorf("Least of %d: %d", id, got)
		}
	}
	if got := grammar.Least(0); got != 1 {
		t.Errorf("Least of 0: %d", got)
	}
}

func TestResultsAreIndependent(t *testing.T) {
	text := body("let x int = (a + 1); while b { print m.f(x, b); }")
	a, _ := grammar.Parse(text)
	b, _ := grammar.Parse(text)
	want := b.Copy()
	if !arena.Same(a, b) || !a.Tree() {
		t.Fatal("the same text is another arena, or it is not a Tree")
	}
	a.Drop(a.Root())
	if c, _ := grammar.Parse(text); !arena.Same(b, want) || !arena.Same(c, want) {
		t.Fatal("a change of a result changes another one")
	}
}

func TestLargeTextsEnd(t *testing.T) {
	for _, s := range []string{"(", "!", "-", "m.f(", "{", "module m {", "module m { func f() int {", "x", ";", "x = ", "print ", "m.", "(1 + ", "if true {", "else", "return 0; "} {
		text := strings.Repeat(s, api.MaxText/len(s))
		wantError(t, text, api.ErrText)
		if start := body("print "); len(s) < 10 {
			wantError(t, start[:len(start)-len(" return 0; } }")]+text[:len(text)-len(start)], api.ErrText)
		}
	}
}
