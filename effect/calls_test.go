package effect_test

import (
	"math/rand"
	"slices"
	"strconv"
	"strings"
	"testing"

	"hourglass/api"
	"hourglass/arena"
	"hourglass/effect"
)

func wantIDs(t *testing.T, what string, got []api.ID, want ...api.ID) {
	t.Helper()
	if !slices.Equal(got, want) {
		t.Errorf("%s: %v, want %v", what, got, want)
	}
}

// network returns a program with these functions, each with those that it
// calls: "a b b, b c, c" is a, which calls b twice, b, which calls c, and c.
// A function before which a colon stands is the first one of another module.
func network(t *testing.T, functions string) (*arena.Arena, map[string]api.ID) {
	t.Helper()
	modules := map[string]string{}
	current := "m0"
	var rows [][]string
	for _, row := range strings.Split(functions, ",") {
		names := strings.Fields(row)
		if strings.HasPrefix(names[0], ":") {
			names[0] = names[0][1:]
			current = "m" + strconv.Itoa(len(rows)+1)
		}
		modules[names[0]] = current
		rows = append(rows, names)
	}
	var b strings.Builder
	for i, names := range rows {
		m := modules[names[0]]
		if i == 0 || modules[rows[i-1][0]] != m {
			b.WriteString("module " + m + " { ")
		}
		b.WriteString("func " + names[0] + "() int { ")
		for j, g := range names[1:] {
			call := modules[g] + "." + g + "()"
			b.WriteString([]string{"do " + call + "; ", "if (" + call + " == 1) { } else { } ", "let x" + strconv.Itoa(j) + " int = -(1 + " + call + "); ", "if true { } else { if true { do " + call + "; } else { } } "}[j%4])
		}
		b.WriteString("return 1; } ")
		if i == len(rows)-1 || modules[rows[i+1][0]] != m {
			b.WriteString("} ")
		}
	}
	a := parsed(t, b.String())
	ids := map[string]api.ID{}
	for id, n := range a.Walk(1) {
		if n.Kind == arena.Func {
			ids[n.Name] = id
		}
	}
	return a, ids
}

// listed returns the IDs of functions, in that order.
func listed(ids map[string]api.ID, names string) []api.ID {
	var l []api.ID
	for _, name := range strings.Fields(names) {
		l = append(l, ids[name])
	}
	return l
}

func TestReaches(t *testing.T) {
	for functions, all := range map[string]map[string]string{
		"a":                             {"a": ""},
		"a a":                           {"a": "a"},
		"a b, b":                        {"a": "b", "b": ""},
		"a, b a":                        {"a": "", "b": "a"},
		"a b b b, b":                    {"a": "b"},
		"a b, b c, c d, d":              {"a": "b c d", "b": "c d", "c": "d", "d": ""},
		"a d, b a, c b, d":              {"a": "d", "b": "a d", "c": "a b d", "d": ""},
		"a b, b a, c a":                 {"a": "a b", "b": "a b", "c": "a b"},
		"a b, b c, c b, d":              {"a": "b c", "b": "b c", "c": "b c", "d": ""},
		"a d c b, b, c, d":              {"a": "b c d"},
		"a e b, b c, :c d, d, :e a, f":  {"a": "a b c d e", "e": "a b c d e", "b": "c d", "c": "d", "f": ""},
		"a b c, b d, c d, d":            {"a": "b c d"},
		"a b c d a, b b, c d, d c":      {"a": "a b c d", "b": "b", "c": "c d"},
		"a, :b a, :c b, :d c, :e d a d": {"e": "a b c d"},
	} {
		a, ids := network(t, functions)
		for f, want := range all {
			wantIDs(t, "Reaches of "+f+" in "+functions, effect.Reaches(a, ids[f]), listed(ids, want)...)
		}
		for _, id := range []api.ID{0, 100000} {
			wantIDs(t, "Reaches of no node", effect.Reaches(a, id))
		}
	}
}

// TestReachesOfParts: those that calls at and below a node reach.
func TestReachesOfParts(t *testing.T) {
	a := parsed(t, "module m { func a() int { do m.b(1); print m.c(); return (m.c() + m.b(m.d())); } func b(p int) int { return m.d(); } func c() int { let x int = 1; return x; } func d() int { return 1; } func e() int { return m.e(); } } module k { func g() int { return m.c(); } func h() int { return k.g(); } }")
	ids := map[string]api.ID{}
	for id, n := range a.Walk(1) {
		if n.Name != "" {
			ids[n.Name] = id
		}
	}
	want := func(id api.ID, names string) {
		t.Helper()
		wantIDs(t, "Reaches of "+strconv.Itoa(int(id)), effect.Reaches(a, id), listed(ids, names)...)
	}
	want(1, "b c d e g")
	want(ids["m"], "b c d e")
	want(ids["k"], "c g")
	want(at(t, a, arena.Do, 0), "b d")
	want(at(t, a, arena.Print, 0), "c")
	want(at(t, a, arena.Return, 0), "b c d")
	want(at(t, a, arena.Block, 0), "b c d")
	want(at(t, a, arena.Call, 0), "b d")
	want(at(t, a, arena.Call, 1), "c")
	want(at(t, a, arena.Call, 4), "d")
	want(at(t, a, arena.Int, 0), "")
	want(at(t, a, arena.Let, 0), "")
	want(at(t, a, arena.Var, 0), "")
	want(ids["p"], "")
}

func wantQuiet(t *testing.T, a *arena.Arena, id api.ID, want bool, what string) {
	t.Helper()
	if got := effect.Quiet(a, id); got != want {
		t.Errorf("Quiet of %s: %v", what, got)
	}
}

// TestQuiet puts each statement into a function, and into those that call it.
func TestQuiet(t *testing.T) {
	for s, want := range map[string]bool{
		"":                                       true,
		"let x int = (1 + (2 * -p));":            true,
		"let x bool = (!(p < 3) && true);":       true,
		"p = 1;":                                 true,
		"p = (4 - 5);":                           true,
		"if (p == 1) { p = 2; } else { p = 3; }": true,
		"do m.fine(p);":                          true,
		"print 1;":                               false,
		"p = read;":                              false,
		"p = (1 / p);":                           false,
		"p = (1 % p);":                           false,
		"p = (1 + -(1 % 2));":                    false,
		"while false { }":                        false,
		"if true { } else { print 1; }":          false,
		"if true { while false { } } else { }":   false,
		"do m.fine((1 / 1));":                    false,
		"do m.fine(read);":                       false,
		"do m.loop(1);":                          false,
		"do m.f(1);":                             false,
		"do m.g(1);":                             false,
		"do m.h(1);":                             false,
		"do m.shouts(1);":                        false,
	} {
		a := parsed(t, "module k { func user(p int) int { return k.next(p); } func next(p int) int { return m.f(p); } } module m { func f(p int) int { "+s+" return 1; } func g(p int) int { return m.f(p); } func h(p int) int { return m.g(p); } "+
			"func fine(p int) int { return p; } func loop(p int) int { return m.loop(p); } func shouts(p int) int { print p; return 1; } func other(p int) int { return m.fine(p); } }")
		for id, n := range a.Walk(1) {
			quiet := false
			switch n.Name {
			case "user", "next", "f", "g", "h":
				quiet = want
			case "fine", "other":
				quiet = n.Kind == arena.Func
			}
			wantQuiet(t, a, id, quiet && n.Kind == arena.Func, n.Name+" with "+s)
		}
		wantQuiet(t, a, 0, false, "0")
		wantQuiet(t, a, 100000, false, "no node")
	}
}

func TestQuietOfCycles(t *testing.T) {
	for functions, quiet := range map[string]string{
		"a":                         "a",
		"a a":                       "",
		"a b, b b":                  "",
		"a b, b a":                  "",
		"a b, b c, c a, d":          "d",
		"a b, b c, c b, d a":        "",
		"a b c, b d, c d, d":        "a b c d",
		"a b c, b d, c d, d, e e a": "a b c d",
		"a b, :b c, :c":             "a b c",
		"a b c, b, c d, d d":        "b",
	} {
		a, ids := network(t, functions)
		for f, id := range ids {
			wantQuiet(t, a, id, slices.Contains(strings.Fields(quiet), f), f+" in "+functions)
		}
	}
}

func wantOrder(t *testing.T, a *arena.Arena, want []api.ID, ok bool, what string) {
	t.Helper()
	got, gotOK := effect.Order(a)
	wantIDs(t, "Order of "+what, got, want...)
	if gotOK != ok {
		t.Errorf("Order of %s: %v", what, gotOK)
	}
}

func TestOrder(t *testing.T) {
	for functions, want := range map[string]string{
		"a":                              "a",
		"a, b, c":                        "a b c",
		"a b, b c, c":                    "c b a",
		"a c, b, c":                      "b c a",
		"a d, b, c, d":                   "b c d a",
		"a b b, b":                       "b a",
		"a e, b, :c, d b, :e d, f":       "b c d e a f",
		"a b c, b d, c d, d":             "d b c a",
		"a, b a, c a b, d a b c":         "a b c d",
		"a b c d, b c d, c d, d":         "d c b a",
		"a f, b a, c, d c, :e, f c e, g": "c d e f a b g",
	} {
		a, ids := network(t, functions)
		wantOrder(t, a, listed(ids, want), true, functions)
	}
	for _, functions := range []string{"a a", "a b, b a", "a, b b, c", "a b, b c, c a", "a b, b c, c b", "a, b c, c d, d b, e"} {
		a, _ := network(t, functions)
		wantOrder(t, a, nil, false, functions)
	}
	wantOrder(t, arena.New(), nil, true, "an empty program")
	wantOrder(t, parsed(t, "module m { } module k { }"), nil, true, "modules without functions")
}

// TestOrderTakesTheSmallestID, not the first one in the text.
func TestOrderTakesTheSmallestID(t *testing.T) {
	a, ids := network(t, "a, b, c, :d, e")
	for id, n := range a.Walk(1) {
		if n.Kind == arena.Program || n.Kind == arena.Module {
			slices.Reverse(n.Kids)
			a.Put(id, n)
		}
	}
	wantOrder(t, a, listed(ids, "a b c d e"), true, "functions in reverse")
}

// TestManyFunctions: as many as there can be, in a row and in a ring.
func TestManyFunctions(t *testing.T) {
	const many = 4990
	program := func(last string) *arena.Arena {
		var b strings.Builder
		b.WriteString("module m{")
		for i := range many {
			call := "m.f" + strconv.Itoa(i+1) + "()"
			if i == many-1 {
				call = last
			}
			b.WriteString("func f" + strconv.Itoa(i) + "()int{return " + call + ";}")
		}
		b.WriteString("}")
		return parsed(t, b.String())
	}
	row, ring := program("1"), program("m.f0()")
	order, ok := effect.Order(row)
	if len(order) != many || !ok || !slices.IsSortedFunc(order, func(x, y api.ID) int { return int(y) - int(x) }) {
		t.Errorf("Order of a row: %d, %v", len(order), ok)
	}
	wantOrder(t, ring, nil, false, "a ring")
	if n := len(effect.Reaches(row, 3)); n != many-1 {
		t.Errorf("%d functions reached in a row", n)
	}
	if n := len(effect.Reaches(ring, 3)); n != many {
		t.Errorf("%d functions reached in a ring", n)
	}
	wantQuiet(t, row, 3, true, "the first function of a row")
	wantQuiet(t, ring, 3, false, "the first function of a ring")
}

func TestResultsAreNew(t *testing.T) {
	a, ids := network(t, "a b c, b d, c d, d")
	before := a.Copy()
	for range 2 {
		l := effect.Reaches(a, ids["a"])
		wantIDs(t, "Reaches", l, listed(ids, "b c d")...)
		order, _ := effect.Order(a)
		wantIDs(t, "Order", order, listed(ids, "d b c a")...)
		for _, l := range [][]api.ID{l, order} {
			l = l[:cap(l)]
			for i := range l {
				l[i] = 77
			}
		}
		effect.Quiet(a, ids["a"])
	}
	if !arena.Same(a, before) {
		t.Error("the arena has changed")
	}
}

// wantEnd makes all calls.
func wantEnd(a *arena.Arena, ids ...api.ID) {
	effect.Order(a)
	for _, id := range ids {
		effect.Safe(a, id)
		effect.Fixed(a, id)
		effect.Stable(a, id)
		effect.Reaches(a, id)
		effect.Quiet(a, id)
		effect.Size(a, id)
		effect.Count(a, id, arena.Call)
	}
}

// TestEnd: all calls end, whatever the arena is.
func TestEnd(t *testing.T) {
	wantEnd(nil, 0, 1, 2)
	r := rand.New(rand.NewSource(1))
	for range 2000 {
		a := arena.New()
		size := 1 + r.Intn(12)
		some := func() api.ID { return api.ID(r.Intn(size + 2)) }
		for range size * 2 {
			n := api.Node{Kind: []byte{byte(r.Intn(22)), arena.Func, arena.Module, arena.Call}[r.Intn(4)], Num: int64(r.Intn(16) - 1), Type: byte(r.Intn(4)), Ref: some()}
			for range r.Intn(4) {
				n.Kids = append(n.Kids, some())
			}
			a.Put(some(), n)
		}
		if r.Intn(4) == 0 {
			a.Drop(some())
		}
		wantEnd(a, append(a.IDs(), 0, api.ID(size+2))...)
	}
}
