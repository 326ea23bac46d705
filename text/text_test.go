package text_test

import (
	"strings"
	"testing"

	"hourglass/api"
	"hourglass/arena"
	"hourglass/grammar"
	"hourglass/text"
)

// parsed returns the arena of a text.
func parsed(t *testing.T, s string) *arena.Arena {
	t.Helper()
	a, e := grammar.Parse(s)
	if e != api.OK {
		t.Fatalf("%.300q: error %d", s, e)
	}
	return a
}

func wantPrint(t *testing.T, a *arena.Arena, want string) {
	t.Helper()
	if s, e := text.Print(a); e != api.OK || s != want {
		t.Fatalf("error %d, %q, want %q", e, s, want)
	}
}

func wantError(t *testing.T, a *arena.Arena, want api.Errno) {
	t.Helper()
	if s, e := text.Print(a); e != want || s != "" {
		t.Fatalf("error %d, %.300q, want error %d", e, s, want)
	}
}

// lines joins lines, each of which ends.
func lines(l ...string) string {
	return strings.Join(l, "\n") + "\n"
}

// all has each kind of node; no two nodes have the same name.
var all = lines(
	"module m {",
	"\tfunc f(a int, b bool) int {",
	"\t\tlet x int = (a + 1);",
	"\t\tlet y bool = !b;",
	"\t\tx = -x;",
	"\t\tif (y && true) {",
	"\t\t\tprint read;",
	"\t\t\twhile false {",
	"\t\t\t\tlet z int = 0;",
	"\t\t\t\tz = x;",
	"\t\t\t\tprint z;",
	"\t\t\t}",
	"\t\t} else {",
	"\t\t\tdo n.g(x, y);",
	"\t\t\tif b {",
	"\t\t\t} else {",
	"\t\t\t}",
	"\t\t\twhile y {",
	"\t\t\t}",
	"\t\t}",
	"\t\tdo m.h();",
	"\t\treturn m.f(n.g((x - -3), b), !!false);",
	"\t}",
	"\tfunc h() bool {",
	"\t\treturn (1 != read);",
	"\t}",
	"}",
	"module empty {",
	"}",
	"module n {",
	"\tfunc g(c int, d bool) int {",
	"\t\treturn c;",
	"\t}",
	"}",
)

func TestPrint(t *testing.T) {
	wantPrint(t, parsed(t, all), all)
	wantPrint(t, parsed(t, strings.Join(strings.Fields(all), " ")), all)
	wantPrint(t, arena.New(), "")
	wantPrint(t, parsed(t, "module m{}"), "module m {\n}\n")
	wantPrint(t, parsed(t, "module m{func f(a int)int{return a;}}"), lines("module m {", "\tfunc f(a int) int {", "\t\treturn a;", "\t}", "}"))
	wantPrint(t, parsed(t, "module m{func f()bool{return true;}}module n{}"), lines("module m {", "\tfunc f() bool {", "\t\treturn true;", "\t}", "}", "module n {", "}"))
}

// returning is a program whose only expression is this one.
func returning(e string) string {
	return lines("module m {", "\tfunc f(a int, b bool) int {", "\t\treturn "+e+";", "\t}", "}")
}

func TestPrintOfExpressions(t *testing.T) {
	l := []string{
		"0", "7", "9223372036854775807", "true", "false", "read", "a", "b", "!b", "-a", "-7", "!!b", "--a", "-!-!1", "m.f()", "m.f(1)", "m.f(1, true, a)", "m.f(m.f(), -m.f(2))",
		"(a + (b - 1))", "((a + b) - 1)", "!(a && b)", "-(a - -b)", "(-a - -b)", "(m.f(1) == !m.f((a + 2)))",
	}
	for op := int64(1); op <= 13; op++ {
		l = append(l, "(a "+grammar.Sign(op)+" b)")
	}
	for _, e := range l {
		a := parsed(t, returning(e))
		wantPrint(t, a, returning(e))
		if s, err := text.Expr(a, 8); err != api.OK || s != e {
			t.Errorf("Expr: %q, error %d, want %q", s, err, e)
		}
	}
}

func TestExpr(t *testing.T) {
	a := parsed(t, returning("(m.f(1, read) + -a)"))
	want := map[api.ID]string{8: "(m.f(1, read) + -a)", 9: "m.f(1, read)", 10: "1", 11: "read", 12: "-a", 13: "a"}
	for id := api.ID(0); id < 20; id++ {
		s, e := text.Expr(a, id)
		if w := want[id]; s != w || (e == api.OK) != (w != "") || w == "" && e != api.ErrForm {
			t.Errorf("%d: %q, error %d, want %q", id, s, e, w)
		}
	}
	a = parsed(t, all)
	for id, n := range a.Walk(a.Root()) {
		if _, e := text.Expr(a, id); (e == api.OK) != (n.Kind >= arena.Int && n.Kind <= arena.Read) {
			t.Errorf("kind %d: error %d", n.Kind, e)
		}
	}
}

// TestOtherIDs: what is printed depends on the order of the children, not on
// that of the IDs.
func TestOtherIDs(t *testing.T) {
	a := parsed(t, all)
	b := arena.New()
	other := func(id api.ID) api.ID {
		if id <= 1 {
			return id
		}
		return 1<<63 - 7*id
	}
	for id, n := range a.Walk(a.Root()) {
		n.Ref = other(n.Ref)
		for i := range n.Kids {
			n.Kids[i] = other(n.Kids[i])
		}
		b.Put(other(id), n)
	}
	if !arena.Alike(a, b) || arena.Same(a, b) || !text.Shaped(b) {
		t.Fatal("not Alike")
	}
	wantPrint(t, b, all)
	for id := range a.Walk(a.Root()) {
		s, e := text.Expr(a, id)
		if o, f := text.Expr(b, other(id)); s != o || e != f || text.Depth(a, id) != text.Depth(b, other(id)) {
			t.Fatalf("node %d: %q, error %d, and %q, error %d", id, s, e, o, f)
		}
	}
}

// TestNamesAreNotChecked: names that clash or are not visible are printed.
func TestNamesAreNotChecked(t *testing.T) {
	a := parsed(t, lines("module m {", "\tfunc f(a int) int {", "\t\tlet x int = 1;", "\t\treturn a;", "\t}", "}", "module n {", "}"))
	for id, n := range a.Walk(a.Root()) {
		if n.Name != "" {
			n.Name = "x"
		}
		if n.Kind == arena.Int {
			n = api.Node{Kind: arena.Var, Ref: 6} // in its own Let
		}
		a.Put(id, n)
	}
	wantPrint(t, a, lines("module x {", "\tfunc x(x int) int {", "\t\tlet x int = x;", "\t\treturn x;", "\t}", "}", "module x {", "}"))
}

// TestCallsAcrossModules: a call is printed with the module that has the
// function now.
func TestCallsAcrossModules(t *testing.T) {
	a := parsed(t, "module m{func f()int{return m.f();}}module n{}")
	a.Put(2, api.Node{Kind: arena.Module, Name: "m"})
	a.Put(7, api.Node{Kind: arena.Module, Name: "n", Kids: []api.ID{3}})
	wantPrint(t, a, lines("module m {", "}", "module n {", "\tfunc f() int {", "\t\treturn n.f();", "\t}", "}"))
}

// sized prints to that many bytes.
func sized(t *testing.T, bytes int) *arena.Arena {
	t.Helper()
	a := arena.New()
	var kids []api.ID
	id := api.ID(1)
	for bytes > 0 {
		size := min(bytes, 60)
		if rest := bytes - size; rest > 0 && rest < 13 {
			size -= 13
		}
		id++
		kids = append(kids, id)
		a.Put(id, api.Node{Kind: arena.Module, Name: strings.Repeat("x", size-len("module  {\n}\n"))})
		bytes -= size
	}
	a.Put(1, api.Node{Kind: arena.Program, Kids: kids})
	return a
}

func TestLong(t *testing.T) {
	for _, bytes := range []int{13, 100, 1000, api.MaxText - 1, api.MaxText} {
		s, e := text.Print(sized(t, bytes))
		if e != api.OK || len(s) != bytes {
			t.Fatalf("%d bytes: error %d, %d bytes", bytes, e, len(s))
		}
	}
	for _, bytes := range []int{api.MaxText + 1, api.MaxText + 13, 3 * api.MaxText} {
		a := sized(t, bytes)
		wantError(t, a, api.ErrLong)
		if !text.Shaped(a) {
			t.Fatal("a long program is not Shaped")
		}
		n, _ := a.Get(2)
		n.Num = 1
		a.Put(2, n)
		wantError(t, a, api.ErrForm)
	}
}

// TestLongExpr: an expression may be longer than a text.
func TestLongExpr(t *testing.T) {
	a := parsed(t, returning("m.f()"))
	call, _ := a.Get(8)
	f, _ := a.Get(3)
	f.Name = strings.Repeat("f", api.MaxName)
	a.Put(3, f)
	for id := api.ID(100); id < 10000; id++ {
		call.Kids = append(call.Kids, id)
		a.Put(id, api.Node{Kind: arena.Call, Ref: 3})
	}
	a.Put(8, call)
	wantError(t, a, api.ErrLong)
	one := "m." + f.Name + "("
	want := one + strings.TrimSuffix(strings.Repeat(one+"), ", 9900), ", ") + ")"
	if s, e := text.Expr(a, 8); e != api.OK || s != want {
		t.Fatalf("error %d, %d bytes, want %d", e, len(s), len(want))
	}
}

// TestLargest prints as many nodes as there can be.
func TestLargest(t *testing.T) {
	s := "module m{func f()int{" + strings.Repeat("print 1;", (api.MaxNodes-6)/2) + "return 1;}}"
	a := parsed(t, s)
	if a.Len() != api.MaxNodes || !text.Shaped(a) {
		t.Fatal(a.Len())
	}
	p, e := text.Print(a)
	if e != api.OK || !strings.HasPrefix(p, "module m {\n\tfunc f() int {\n\t\tprint 1;\n\t\tprint 1;\n") {
		t.Fatal(e)
	}
	if b, e := grammar.Parse(p); e != api.OK || !arena.Same(a, b) {
		t.Fatal(e)
	}
}

func TestNil(t *testing.T) {
	wantError(t, nil, api.ErrForm)
	if s, e := text.Expr(nil, 1); e != api.ErrForm || s != "" {
		t.Fatal(s, e)
	}
	if text.Shaped(nil) || text.Depth(nil, 1) != 0 {
		t.Fatal("nil is Shaped or deep")
	}
}

func TestNothingChanges(t *testing.T) {
	a := parsed(t, all)
	want := a.Copy()
	for id := range api.ID(100) {
		text.Print(a)
		text.Expr(a, id)
		text.Shaped(a)
		text.Depth(a, id)
	}
	if !arena.Same(a, want) {
		t.Fatal("the argument was changed")
	}
}
