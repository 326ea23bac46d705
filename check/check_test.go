package check_test

import (
	"strconv"
	"strings"
	"testing"

	"hourglass/api"
	"hourglass/arena"
	"hourglass/check"
	"hourglass/grammar"
)

func parsed(t *testing.T, s string) *arena.Arena {
	t.Helper()
	a, e := grammar.Parse(s)
	if e != api.OK {
		t.Fatalf("Parse of %q: error %d", s, e)
	}
	return a
}

// within returns a program whose Main has these statements. They can call f, i,
// b and n, and read p and q, if they do it in the function of another module.
func within(statements string) string {
	return "module main { func main() int { " + statements + " return 0; } } " + helpers
}

const helpers = "module m { func f(x int, y bool) int { return x; } func i() int { return 1; } func b() bool { return true; } func n(x int) int { return x; } }"

func wantRight(t *testing.T, a *arena.Arena, want api.Errno, what string) {
	t.Helper()
	before := a.Copy()
	if got := check.Right(a); got != want {
		t.Errorf("%s: Right is %d, want %d", what, got, want)
	}
	if !arena.Same(a, before) {
		t.Errorf("%s: Right changed the arena", what)
	}
}

func TestRight(t *testing.T) {
	for _, s := range []string{
		"module main { func main() int { return 0; } }",
		"module m { } module main { func f(x int) bool { return true; } func main() int { return 0; } }",
		within(""),
		within("let x int = 1; let y bool = (x < 2); if y { x = 2; } else { y = !y; } while (y || (x == 3)) { print x; print y; do m.f(x, y); }"),
	} {
		wantRight(t, parsed(t, s), api.OK, s)
	}
}

// expressions are of each kind, by type.
func expressions() map[string][]string {
	return map[string][]string{
		"int":  {"1", "-1", "read", "i", "j", "(1 + 1)", "(1 % 1)", "m.i()", "m.f(1, true)"},
		"bool": {"true", "false", "!true", "b", "c", "(1 < 1)", "(1 == 1)", "(true == true)", "(true && true)", "m.b()"},
	}
}

// wantTypes checks whether a program is right in which an expression is right.
func wantTypes(t *testing.T, s string, right bool) {
	t.Helper()
	want := api.OK
	if !right {
		want = api.ErrType
	}
	wantRight(t, parsed(t, "module main { func main() int { return 0; } func other(i int, b bool) int { let j int = i; let c bool = b; "+s+" return 0; } } "+helpers), want, s)
}

func TestTypesOfStatements(t *testing.T) {
	for e, l := range expressions() {
		for _, s := range l {
			wantTypes(t, "let x int = "+s+";", e == "int")
			wantTypes(t, "let x bool = "+s+";", e == "bool")
			wantTypes(t, "i = "+s+";", e == "int")
			wantTypes(t, "j = "+s+";", e == "int")
			wantTypes(t, "b = "+s+";", e == "bool")
			wantTypes(t, "c = "+s+";", e == "bool")
			wantTypes(t, "print "+s+";", true)
			wantTypes(t, "if "+s+" { } else { }", e == "bool")
			wantTypes(t, "while "+s+" { }", e == "bool")
			wantTypes(t, "if true { print -"+s+"; } else { }", e == "int")
			wantTypes(t, "if true { } else { print -"+s+"; }", e == "int")
			wantTypes(t, "while true { print -"+s+"; }", e == "int")
		}
	}
	for _, s := range []string{"do m.i();", "do m.b();", "do m.f(1, true);"} {
		wantTypes(t, s, true)
	}
}

func TestTypesOfReturns(t *testing.T) {
	for e, l := range expressions() {
		for _, s := range l {
			for _, result := range []string{"int", "bool"} {
				want := api.OK
				if e != result {
					want = api.ErrType
				}
				wantRight(t, parsed(t, "module main { func main() int { return 0; } func other(i int, b bool, j int, c bool) "+result+" { return "+s+"; } } "+helpers), want, result+" from "+s)
			}
		}
	}
	wantRight(t, parsed(t, "module main { func main() int { return true; } }"), api.ErrType, "a truth from Main")
}

// TestTypesOfOperands: each sign with each types of operands.
func TestTypesOfOperands(t *testing.T) {
	all := expressions()
	for e, l := range all {
		for _, s := range l {
			wantTypes(t, "print !"+s+";", e == "bool")
			wantTypes(t, "print -"+s+";", e == "int")
			wantTypes(t, "print !-"+s+";", false)
			wantTypes(t, "print -!"+s+";", false)
			for op := int64(1); op <= 13; op++ {
				for e2, l2 := range all {
					sign := grammar.Sign(op)
					numbers, equal := strings.Contains("+ - * / % < <= > >=", sign), sign == "==" || sign == "!="
					wantTypes(t, "print ("+s+" "+sign+" "+l2[int(op)%len(l2)]+");", equal && e == e2 || !equal && e == e2 && (e == "int") == numbers)
				}
			}
		}
	}
	for op := int64(1); op <= 13; op++ {
		for e, s := range map[string]string{"int": "1", "bool": "true"} {
			sign := grammar.Sign(op)
			if e == "int" == strings.Contains("&& ||", sign) || e == "bool" && !strings.Contains("== != && ||", sign) {
				continue
			}
			wantTypes(t, "let x int = ("+s+" "+sign+" "+s+");", op <= 5)
			wantTypes(t, "let x bool = ("+s+" "+sign+" "+s+");", op > 5)
		}
	}
}

func TestTypesOfArguments(t *testing.T) {
	for s, right := range map[string]bool{
		"m.i()": true, "m.i(1)": false, "m.i(true)": false,
		"m.n(1)": true, "m.n(true)": false, "m.n()": false, "m.n(1, 1)": false, "m.n(m.i())": true, "m.n(m.b())": false, "m.n(m.n(true))": false,
		"m.f(1, true)": true, "m.f(true, 1)": false, "m.f(1, 1)": false, "m.f(true, true)": false, "m.f(1)": false, "m.f()": false, "m.f(1, true, 1)": false, "m.f(1, true, true)": false,
		"m.f((1 + 1), (1 < 1))": true, "m.f(-i, !b)": true, "m.f(b, i)": false,
	} {
		wantTypes(t, "do "+s+";", right)
		wantTypes(t, "print "+s+";", right)
		wantTypes(t, "let x int = (1 + "+s+");", right)
	}
}

// TestTypesInside: what is wrong deep within something has an own type that is
// right.
func TestTypesInside(t *testing.T) {
	for _, s := range []string{
		"let x int = (1 + -true);", "let x int = (true + 1);", "let x int = --true;", "let x bool = !!1;", "let x bool = ((1 == true) && true);", "i = m.f(-true, b);",
		"if (1 < true) { } else { }", "while !(1 && true) { }", "print m.f(1, (i && b));", "if b { if b { } else { while b { let x int = true; } } } else { }",
	} {
		wantTypes(t, s, false)
	}
}

func TestMain(t *testing.T) {
	for s, want := range map[string]api.ID{
		"":                0,
		"module main { }": 0,
		"module main { func main() int { return 0; } }":                                                                            3,
		"module main { func main() bool { return true; } }":                                                                        0,
		"module main { func main(x int) int { return 0; } }":                                                                       0,
		"module main { func Main() int { return 0; } }":                                                                            0,
		"module Main { func main() int { return 0; } }":                                                                            0,
		"module m { func main() int { return 0; } }":                                                                               0,
		"module main { func f() int { return 0; } }":                                                                               0,
		"module main { func f() int { return 0; } } module m { func main() int { return 0; } }":                                    0,
		"module m { func main(x int) int { return 0; } } module main { func f() int { return 0; } func main() int { return 0; } }": 13,
	} {
		a := parsed(t, s)
		if got := check.Main(a); got != want {
			t.Errorf("Main of %q: %d, want %d", s, got, want)
		}
		e := api.OK
		if want == 0 {
			e = api.ErrNone
		}
		wantRight(t, a, e, s)
	}
}

func TestMainHasAType(t *testing.T) {
	a := parsed(t, "module main { func main() int { return 0; } }")
	n, _ := a.Get(3)
	n.Type = arena.Truth
	a.Put(3, n)
	if got := check.Main(a); got != 0 {
		t.Errorf("Main, which returns a truth: %d", got)
	}
	wantRight(t, a, api.ErrType, "Main returns 0 as a truth")
}

// renamed returns a program in which the first node with one name gets another.
func renamed(t *testing.T, s, from, to string) *arena.Arena {
	t.Helper()
	a := parsed(t, s)
	for id, n := range a.Walk(a.Root()) {
		if n.Name == from {
			n.Name = to
			a.Put(id, n)
			return a
		}
	}
	t.Fatalf("no %s in %q", from, s)
	return nil
}

const crowded = "module main { func main() int { return 0; } func f(p int, q int) int { let x int = 1; if true { let y int = 1; } else { let z int = 1; while true { let w int = 1; } } let v int = 1; return 1; } func g(r int) int { return 1; } } module m { func f(p int) int { let x int = 2; return 2; } func h() int { return 2; } }"

func TestClash(t *testing.T) {
	wantRight(t, parsed(t, crowded), api.OK, "no names changed")
	variables := []string{"p", "q", "x", "y", "z", "w", "v"}
	for _, from := range variables {
		for _, to := range variables {
			if from != to {
				wantRight(t, renamed(t, crowded, from, to), api.ErrClash, from+" to "+to)
			}
		}
		for _, to := range []string{"r", "f", "g", "h", "m", "main", "other", strings.ToUpper(from)} {
			wantRight(t, renamed(t, crowded, from, to), api.OK, from+" to "+to)
		}
	}
	for from, l := range map[string][2]string{
		"f": {"g main", "h m p q x other F"},
		"g": {"f main", "h m p r x other"},
		"h": {"f", "g main m p x other"},
		"m": {"main", "f g h p x other M"},
		"r": {"", "g f p x main r"},
	} {
		for i, want := range []api.Errno{api.ErrClash, api.OK} {
			for _, to := range strings.Fields(l[i]) {
				wantRight(t, renamed(t, crowded, from, to), want, from+" to "+to)
			}
		}
	}
}

// at returns the nth node of a kind, in the order of the text.
func at(t *testing.T, a *arena.Arena, kind byte, nth int) api.ID {
	t.Helper()
	for id, n := range a.Walk(a.Root()) {
		if n.Kind == kind {
			if nth == 0 {
				return id
			}
			nth--
		}
	}
	t.Fatalf("too few nodes of kind %d", kind)
	return 0
}

// refer returns a program in which a node refers to another one.
func refer(a *arena.Arena, from, to api.ID) *arena.Arena {
	b := a.Copy()
	n, _ := b.Get(from)
	n.Ref = to
	b.Put(from, n)
	return b
}

// TestNames makes each Var and Assign of a program refer to each parameter and
// Let. What they can refer to is written in the order of the text.
func TestNames(t *testing.T) {
	a := parsed(t, `module main { func main() int { return 0; }
		func f(p int, q int) int {
			let x int = p;
			x = p;
			if (p == p) { p = p; let y int = p; print p; } else { let z int = p; z = p; while (p == p) { let w int = p; print p; } print p; }
			let v int = p;
			return p;
		} }
		module m { func f(p int) int { print p; let x int = p; return p; } }`)
	seen := map[byte][]string{
		arena.Var: {"p q", // let x
			"p q x", "p q x", "p q x", // x =, if
			"p q x", "p q x", "p q x y", // p =, let y, print
			"p q x", "p q x z", "p q x z", "p q x z", // let z, z =, while
			"p q x z", "p q x z w", "p q x z", // let w, print, print
			"p q x", "p q x v", // let v, return
			"P", "P", "P X"},
		arena.Assign: {"p q x", "p q x", "p q x z"},
	}
	names := map[api.ID]string{}
	for id, n := range a.Walk(a.Root()) {
		if n.Kind == arena.Param || n.Kind == arena.Let {
			names[id] = n.Name
			if a.Above(id, arena.Module) == at(t, a, arena.Module, 1) {
				names[id] = strings.ToUpper(n.Name)
			}
		}
	}
	for kind, l := range seen {
		for i, visible := range l {
			id := at(t, a, kind, i)
			for v, name := range names {
				want := api.ErrName
				if strings.Contains(" "+visible+" ", " "+name+" ") {
					want = api.OK
				}
				wantRight(t, refer(a, id, v), want, "kind "+strconv.Itoa(int(kind))+", "+strconv.Itoa(i)+" to "+name)
			}
		}
	}
}

func TestForm(t *testing.T) {
	wantRight(t, nil, api.ErrForm, "nil")
	wantRight(t, arena.New(), api.ErrNone, "an empty program")
	a := parsed(t, within(""))
	a.Put(1000, api.Node{Kind: arena.Int})
	wantRight(t, a, api.ErrForm, "a node that is no child")
	a = parsed(t, within("print -1;"))
	id := at(t, a, arena.Neg, 0)
	a.Put(id, api.Node{Kind: arena.Neg})
	wantRight(t, a, api.ErrForm, "a Neg without an operand")
	wantRight(t, parsed(t, within("print "+strings.Repeat("-", 90)+"1;")), api.OK, "a depth of 90")
	a = parsed(t, within("print "+strings.Repeat("-", 90)+"1;"))
	id = at(t, a, arena.Print, 0)
	a.Put(1000, api.Node{Kind: arena.Neg, Kids: []api.ID{id + 1}})
	a.Put(id, api.Node{Kind: arena.Print, Kids: []api.ID{1000}})
	wantRight(t, a, api.ErrForm, "a depth of 91")
}

// TestOrderOfErrors takes the faults of a program away, one after the other.
func TestOrderOfErrors(t *testing.T) {
	a := parsed(t, "module main { func other(p int) int { let x int = true; print p; return 0; } func f(p int) int { return 1; } }")
	n, _ := a.Get(3)
	n.Num = 1
	a.Put(3, n)
	n, _ = a.Get(6)
	n.Name = "p"
	a.Put(6, n)
	a = refer(a, at(t, a, arena.Var, 0), at(t, a, arena.Param, 1))
	wantRight(t, a, api.ErrForm, "a Num")
	n, _ = a.Get(3)
	n.Num = 0
	a.Put(3, n)
	wantRight(t, a, api.ErrClash, "a clash")
	n, _ = a.Get(6)
	n.Name = "x"
	a.Put(6, n)
	wantRight(t, a, api.ErrName, "an invisible variable")
	a = refer(a, at(t, a, arena.Var, 0), at(t, a, arena.Param, 0))
	wantRight(t, a, api.ErrType, "a wrong type")
	n, _ = a.Get(6)
	n.Type = arena.Truth
	a.Put(6, n)
	wantRight(t, a, api.ErrNone, "no Main")
	f := at(t, a, arena.Func, 1)
	n, _ = a.Get(f)
	n.Name = "main"
	a.Put(f, n)
	wantRight(t, a, api.ErrNone, "a Main with a parameter")
	a.Drop(n.Kids[0])
	n.Kids = n.Kids[1:]
	a.Put(f, n)
	wantRight(t, a, api.OK, "nothing wrong")
}

// TestLargest: as many nodes as there can be.
func TestLargest(t *testing.T) {
	var b strings.Builder
	b.WriteString("module main { func main() int { let x0 int = 1; ")
	for i := 1; i < 9995; i++ {
		b.WriteString("let x" + strconv.Itoa(i) + " int=1;")
	}
	b.WriteString("return x0; } }")
	a := parsed(t, b.String())
	if a.Len() < api.MaxNodes-10 {
		t.Fatal(a.Len())
	}
	wantRight(t, a, api.OK, "the largest program")
	last := at(t, a, arena.Let, 9994)
	v := at(t, a, arena.Var, 0)
	wantRight(t, refer(a, v, last), api.OK, "the last variable")
	n, _ := a.Get(last)
	n.Name = "x0"
	a.Put(last, n)
	wantRight(t, a, api.ErrClash, "the last variable's name")
	n.Name, n.Type = "x", arena.Truth
	a.Put(last, n)
	wantRight(t, a, api.ErrType, "the last variable's type")
}
