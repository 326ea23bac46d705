package grammar_test

import (
	"strconv"
	"strings"
	"testing"

	"hourglass/api"
	"hourglass/arena"
	"hourglass/grammar"
)

func TestErrorsOfTokens(t *testing.T) {
	wantError(t, strings.Repeat(" ", api.MaxText), api.OK)
	wantError(t, strings.Repeat(" ", api.MaxText+1), api.ErrLong)
	wantError(t, strings.Repeat("$", api.MaxText+1), api.ErrLong)
	wantError(t, body("")+"module m {}"+strings.Repeat("\n", api.MaxText), api.ErrLong)
	for _, s := range []string{"$", "1a", "01", "&", "9223372036854775808", "\r", "\x00", strings.Repeat("a", api.MaxName+1)} {
		wantError(t, s, api.ErrText)
		wantError(t, body("print "+s+";"), api.ErrText)
		wantError(t, "module m {} module m {}"+s, api.ErrText)
	}
}

func TestErrorsOfTheRules(t *testing.T) {
	for _, s := range []string{
		"m", "module", "module m", "module m {", "module m }", "module {}", "module 1 {}", "module int {}", "module m {} }", "module m {};", "{}", "}",
		"func f() int { return 0; }", "module m { module n {} }", "module m { return 0; }", "module m { print 1; }", "module m {} x", "module m {} # {}\n{}",
		"module m { func }", "module m { func f }", "module m { func f() }", "module m { func f() int }", "module m { func f() int; }", "module m { func f() int {} }",
		"module m { func f() { return 0; } }", "module m { func f() m { return 0; } }", "module m { func f int { return 0; } }", "module m { func () int { return 0; } }",
		"module m { func f() int { return 0 } }", "module m { func f() int { return; } }", "module m { func f() int { return 0; }", "module m { func f() int { return 0; } } }",
		"module m { func f() int { return 0; return 0; } }", "module m { func f() int { return 0; print 1; } }", "module m { func f() int { print 1; } }",
		"module m { func f() int return 0; }", "module m { func m.f() int { return 0; } }", "module m.n {}",
		"module m { func f(a) int { return 0; } }", "module m { func f(int a) int { return 0; } }", "module m { func f(a int,) int { return 0; } }",
		"module m { func f(, a int) int { return 0; } }", "module m { func f(a int b int) int { return 0; } }", "module m { func f(a, b int) int { return 0; } }",
		"module m { func f(a int; b int) int { return 0; } }", "module m { func f(1 int) int { return 0; } }", "module m { func f(a int int) int { return 0; } }",
		"module m { func f(a int { return 0; } }", "module m { func f(int) int { return 0; } }",
	} {
		wantError(t, s, api.ErrText)
	}
}

func TestErrorsInStatements(t *testing.T) {
	for _, s := range []string{
		";", "a;", "a = ;", "a = 1", "a == 1;", "1 = a;", "a = b = 1;", "= 1;", "m.a = 1;", "(a) = 1;", "{}", "{ print 1; }", "1;", "m.f();", "int x = 1;", "x int = 1;",
		"let x = 1;", "let x int;", "let int x = 1;", "let x int 1;", "let x int == 1;", "let x int = 1", "let 1 int = 1;", "let x y = 1;", "let x int = let y int = 1;", "let if int = 1;",
		"if b {}", "if b {} else", "if b else {}", "if {} else {}", "if b {} {}", "if b {}; else {}", "if b {} else {};", "if b {} else if b {} else {}", "if b print 1; else print 2;",
		"if b { return 0; } else {}", "if b {} else { return 0; }", "else {}", "if b {} else {} else {}", "if b {", "if b {} else {", "if b { print 1 } else {}",
		"while b", "while b;", "while {}", "while b {};", "while b {} else {}", "while b { return 0; }", "while b print 1;", "while b {", "while (b) {}",
		"print", "print;", "print 1", "print 1, 2;", "print 1;;", "print print 1;", "print a = 1;",
		"do;", "do a;", "do 1;", "do m.f()", "do m.f;", "do -m.f();", "do (m.f() + 1);", "do f();", "do read;", "do do m.f();", "do m.f(), m.f();", "do m.f() + 1;", "do (m.f());",
		"module n {}", "func g() int { return 0; }", "break;",
	} {
		wantError(t, body(s), api.ErrText)
	}
}

func TestErrorsInExpressions(t *testing.T) {
	for _, s := range []string{
		"", "a b", "a + 1", "(a)", "(1)", "()", "(a + 1", "a + 1)", "(a + 1))", "((a + 1)", "(a + 1 + 2)", "(a +)", "(+ a)", "(a 1)", "(a + + 1)", "+1", "*a", "a!", "!", "-", "(-)", "(a - )",
		"(a = 1)", "(a ! 1)", "(a . 1)", "(a , 1)", "(a ; 1)", "(a && b || b)", "(a & b)", "(a <> b)", "(a === b)", "(a =< b)", "(a and b)",
		"f()", "m.f", "m.", ".f()", "m.f(", "m.f)", "m.f(,)", "m.f(1,)", "m.f(,1)", "m.f(1 2)", "m.f(1;2)", "m.m.f()", "m.f()()", "m.f().f()", "m.1()", "1.f()", "m.if()", "if.f()", "m.f{}", "m(1)", "m.f(a int)",
		"int", "bool", "let", "while", "print 1", "return", "return 1", "do m.f()", "true false", "read()", "true.f()", "read.f()", "true = 1", "{1}", "1.5", "a.b", "(m.f)",
	} {
		wantError(t, body("print "+s+";"), api.ErrText)
		wantError(t, body("let x int = "+s+";"), api.ErrText)
		wantError(t, body("if "+s+" {} else {}"), api.ErrText)
		wantError(t, body("print m.f("+s+" + 1);"), api.ErrText)
		wantError(t, body("print (1 + "+s+");"), api.ErrText)
	}
}

func TestNesting(t *testing.T) {
	kinds := []struct{ first, before, inner, after, last string }{
		{"print ", "!", "b", "", ";"},
		{"print ", "-", "1", "", ";"},
		{"print ", "(", "1", " + 2)", ";"},
		{"print ", "(1 <= ", "2", ")", ";"},
		{"print m.f(", "m.f(", "", ")", ");"},
		{"do m.f(1, ", "m.f(1, ", "2", ")", ");"},
		{"", "if b {", "", "} else {}", ""},
		{"", "if b {} else {", "", "}", ""},
		{"", "while b {", "", "}", ""},
	}
	for _, k := range kinds {
		wantNested := func(times int, want api.Errno) {
			if strings.HasSuffix(k.first, "(") || strings.HasSuffix(k.first, ", ") {
				times-- // the outermost call is one already
			}
			wantError(t, body(k.first+strings.Repeat(k.before, times)+k.inner+strings.Repeat(k.after, times)+k.last), want)
		}
		for _, times := range []int{1, 2, 45, 89, 90} {
			wantNested(times, api.OK)
		}
		for _, times := range []int{91, 92, 180, 1000} {
			wantNested(times, api.ErrText)
		}
	}
}

// TestNestingOfDifferentKinds nests each kind within each other one.
func TestNestingOfDifferentKinds(t *testing.T) {
	outer := [][2]string{{"if b {", "} else {}"}, {"if b {} else {", "}"}, {"while true {", "}"}}
	inner := [][2]string{{"!", ""}, {"-", ""}, {"(", "+1)"}, {"(1-", ")"}, {"m.f(", ")"}, {"m.f(1,", ",2)"}}
	for i, o := range outer {
		for j, n := range inner {
			for _, m := range inner {
				text := func(x, y, z int) string {
					e := strings.Repeat(n[0], y) + strings.Repeat(m[0], z) + "a" + strings.Repeat(m[1], z) + strings.Repeat(n[1], y)
					s := "print " + e + ";"
					if (i+j)%2 == 0 {
						s = "while " + e + " {}"
					}
					return body(strings.Repeat(o[0], x) + s + strings.Repeat(o[1], x))
				}
				wantError(t, text(30, 30, 30), api.OK)
				wantError(t, text(31, 30, 30), api.ErrText)
				wantError(t, text(30, 31, 30), api.ErrText)
				wantError(t, text(30, 30, 31), api.ErrText)
				wantError(t, text(1, 1, 88), api.OK)
				wantError(t, text(88, 1, 2), api.ErrText)
			}
		}
	}
}

func TestWhatDoesNotNest(t *testing.T) {
	deep := func(times int) string { return strings.Repeat("!", times) + "b" }
	wantError(t, body(strings.Repeat("if b {} else {} while b {} print !(1 + m.f()); do m.f(1);", 100)), api.OK)
	wantError(t, body("print "+deep(90)+"; print "+deep(90)+"; if "+deep(90)+" {} else {} while "+deep(90)+" {}"), api.OK)
	wantError(t, body("if "+deep(90)+" { print "+deep(89)+"; } else { print "+deep(89)+"; }"), api.OK)
	wantError(t, body("if b { print "+deep(90)+"; } else {}"), api.ErrText)
	wantError(t, body("if b {} else { print "+deep(90)+"; }"), api.ErrText)
	wantError(t, body("do m.f("+deep(89)+", "+deep(89)+");"), api.OK)
	wantError(t, body("do m.f(1, "+deep(90)+");"), api.ErrText)
	wantError(t, body("print ("+deep(89)+" == "+deep(89)+");"), api.OK)
	wantError(t, body("print (1 == "+deep(90)+");"), api.ErrText)
	wantError(t, strings.ReplaceAll(body(""), "return 0;", "return "+deep(90)+";"), api.OK)
	wantError(t, strings.ReplaceAll(body(""), "return 0;", "return "+deep(91)+";"), api.ErrText)
}

// TestDeepestIsATree: the deepest programs are within the depth of a Tree.
func TestDeepestIsATree(t *testing.T) {
	for _, s := range []string{"while b {", "if b {"} {
		after := "}"
		if s == "if b {" {
			after = "} else {}"
		}
		a, e := grammar.Parse(body(strings.Repeat(s, 90) + "let x int = 1;" + strings.Repeat(after, 90)))
		if e != api.OK || !a.Tree() {
			t.Fatal(e)
		}
	}
}

// many has that many nodes, at least 9 and of an even number.
func many(nodes int) string {
	return body(strings.Repeat("print 1;", (nodes-8)/2))
}

func TestFull(t *testing.T) {
	a, e := grammar.Parse(many(api.MaxNodes))
	if e != api.OK || a.Len() != api.MaxNodes || !a.Tree() {
		t.Fatal(e)
	}
	wantError(t, many(api.MaxNodes+2), api.ErrFull)
	wantError(t, strings.Replace(many(api.MaxNodes), "1", "-1", 1), api.ErrFull)
	wantError(t, strings.Replace(many(api.MaxNodes), "print 1;", "", 1), api.OK)
	wantError(t, many(api.MaxNodes)+"module n {}", api.ErrFull)
	wantError(t, many(2*api.MaxNodes), api.ErrFull)
}

func TestFullAmongErrors(t *testing.T) {
	full := many(api.MaxNodes + 2)
	wantError(t, full+";", api.ErrText)
	wantError(t, full+"$", api.ErrText)
	wantError(t, full[:len(full)-1], api.ErrText)
	wantError(t, strings.Replace(full, "print 1;", "print x;", 1), api.ErrFull)
	wantError(t, strings.Replace(full, "print 1;", "print x.y();", 1), api.ErrFull)
	wantError(t, strings.Replace(full, "print 1;", "let a int = 1;", 1), api.ErrFull)
	wantError(t, "module m {}"+full, api.ErrFull)
	wantError(t, full+strings.Repeat(" ", api.MaxText), api.ErrLong)
}

func TestClashes(t *testing.T) {
	f := func(name string) string { return " func " + name + "() int { return 0; } " }
	for _, s := range []string{
		"module m {} module m {}", "module m {} module n {} module m {}", "module m {" + f("f") + "} module m {" + f("g") + "}",
		"module m {" + f("f") + f("f") + "}", "module m {" + f("f") + f("g") + f("f") + "}", "module n {} module m {" + f("n") + f("n") + "}",
		"module m { func f(x int, x int) int { return 0; } }", "module m { func f(x int, y int, x bool) int { return 0; } }",
		body("let a int = 1;"), body("let b int = 1;"), body("let x int = 1; let x int = 2;"), body("let x int = 1; let y int = 1; let x bool = true;"),
		body("if b { let a int = 1; } else {}"), body("if b { let x int = 1; } else { let x int = 1; }"), body("while b { let x int = 1; } while b { let x int = 1; }"),
		body("while b { let x int = 1; } let x int = 1;"), body("let x int = 1; while b { if b {} else { let x int = 1; } }"),
	} {
		wantError(t, s, api.ErrClash)
	}
	for _, s := range []string{
		"module m {} module M {} module m1 {}", "module m {" + f("f") + "} module n {" + f("f") + "}", "module m {" + f("m") + f("main") + "}",
		"module m { func f(f int, m int) int { let g int = 1; return g; }" + f("g") + "}",
		"module m { func f(x int) int { let y int = 1; return y; } func g(y int) int { let x int = 1; return x; } }",
	} {
		wantError(t, s, api.OK)
	}
}

func TestVariablesThatAreNotVisible(t *testing.T) {
	for _, s := range []string{
		"print x;", "print m;", "print f;", "x = 1;", "m = 1;", "f = 1;", "a = x;", "let x int = x;", "let x int = (1 + -x);", "print x; let x int = 1;", "x = 1; let x int = 1;",
		"if b { let x int = 1; } else {} print x;", "if b { let x int = 1; } else { print x; }", "if b { print x; } else { let x int = 1; }", "if b { let x int = 1; } else { x = 2; }",
		"while b { let x int = 1; } x = 1;", "while b { while b { let x int = 1; } print x; }", "while x { let x int = 1; }", "if x { let x int = 1; } else {}",
		"while b { print x; let x int = 1; }", "while b { print x; } let x int = 1;", "print A;", "print aa;", "do m.f(x);", "print m.f(1, m.f(x));", "if x {} else {}", "while !x {}",
	} {
		wantError(t, body(s), api.ErrName)
	}
	other := "module m { func g(x int) int { let y int = x; return y; } func f() int { "
	wantError(t, other+"return x; } }", api.ErrName)
	wantError(t, other+"return y; } }", api.ErrName)
	wantError(t, other+"x = 1; return 0; } }", api.ErrName)
}

func TestVariablesThatAreVisible(t *testing.T) {
	for _, s := range []string{
		"print a; a = 1; print b; b = true;", "let x int = a; print x; x = x;", "let x int = 1; while b { print x; if b { x = 2; } else { print x; } }",
		"while b { let x int = 1; print x; while b { x = 2; } print x; }", "let x int = 1; let y int = x; while b { let z int = (x + y); } print (x + y);",
		"if b { let x int = 1; print x; } else { let y int = 1; print y; }",
	} {
		wantError(t, body(s), api.OK)
	}
}

// TestReferences looks at which variable it is, after blocks have ended.
func TestReferences(t *testing.T) {
	a, e := grammar.Parse(body("let x int = 1; while b { let y int = x; while b { let z int = y; } print y; } print x; a = x;"))
	if e != api.OK {
		t.Fatal(e)
	}
	var names []string
	for _, n := range a.Walk(a.Root()) {
		if n.Kind == arena.Var || n.Kind == arena.Assign {
			to, _ := a.Get(n.Ref)
			names = append(names, to.Name)
		}
	}
	if got := strings.Join(names, " "); got != "b x b y y x a x" {
		t.Fatal(got)
	}
}

func TestCallsOfNothing(t *testing.T) {
	for _, s := range []string{"do m.g();", "do n.f();", "do f.m();", "do m.m();", "do f.f();", "print a.f();", "print m.a();", "print m.F();", "let m int = 1; print m.m();"} {
		wantError(t, body(s), api.ErrName)
	}
	wantError(t, body("print n.f();")+"module n {}", api.ErrName)
	wantError(t, body("print n.f();")+"module n { func g() int { return 0; } }", api.ErrName)
	wantError(t, body("print n.g();")+"module n { func g() int { return 0; } }", api.OK)
	wantError(t, body("let m int = 1; let f int = 1; print m.f(m, f);"), api.OK)
}

func TestFirstErrorOfNames(t *testing.T) {
	wantError(t, body("print x; let a int = 1;"), api.ErrName)
	wantError(t, body("let a int = 1; print x;"), api.ErrClash)
	wantError(t, body("let a int = x;"), api.ErrName)
	wantError(t, body("let a int = (1 + m.f(1, x));"), api.ErrName)
	wantError(t, body("let a int = a; print x;"), api.ErrClash)
	wantError(t, "module m {} module m { func f() int { return x; } }", api.ErrClash)
	wantError(t, "module m { func f() int { return x; } } module m {}", api.ErrName)
	wantError(t, "module m { func f() int { return 0; } func f() int { return x; } }", api.ErrClash)
	wantError(t, "module m { func f() int { return x; } func f() int { return 0; } }", api.ErrName)
	wantError(t, "module m { func f(a int, a int) int { return x; } }", api.ErrClash)
	wantError(t, "module m { func f() int { return 0; } func f(a int) int { return x; } }", api.ErrClash)
	wantError(t, body("print m.g();")+"module m {}", api.ErrClash)
	wantError(t, body("print m.g(); let a int = 1;"), api.ErrClash)
	wantError(t, body("print m.g(); print x;"), api.ErrName)
	wantError(t, body("x = (1 + );  let a int = 1;"), api.ErrText)
	wantError(t, body("let a int = 1;")+"}", api.ErrText)
	wantError(t, body("print x;")+"$", api.ErrText)
}

// TestManyNames has as many variables and blocks as a text can have.
func TestManyNames(t *testing.T) {
	var b strings.Builder
	for i := 0; i < 6000; i++ {
		b.WriteString("let v" + strconv.Itoa(i) + " int=0;")
	}
	b.WriteString(strings.Repeat("while b{}", 2600))
	b.WriteString("print v5999;")
	wantError(t, body(b.String()), api.OK)
	wantError(t, body(b.String()+"let v3000 int = 1;"), api.ErrClash)
}
