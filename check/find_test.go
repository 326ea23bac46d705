package check_test

import (
	"math/rand"
	"reflect"
	"slices"
	"strings"
	"testing"

	"hourglass/api"
	"hourglass/arena"
	"hourglass/check"
)

// The IDs of its nodes are their places in a walk, from 1 on.
const town = `module m { func f(p int, q bool) int {
		let x int = p;
		if q { let y int = x; print (y + p); } else { let z bool = q; q = z; }
		while q { let w int = m.g(); x = w; do m.f(x, q); }
		let v int = m.f(m.g(), q);
		return v;
	}
	func g() int { return read; } }
	module empty { }
	module main { func main() int { let p bool = true; let x int = m.g(); do m.g(); return x; } func f() bool { return !false; } }`

func wantIDs(t *testing.T, what string, got []api.ID, want ...api.ID) {
	t.Helper()
	if !slices.Equal(got, want) {
		t.Errorf("%s: %v, want %v", what, got, want)
	}
}

func named(a *arena.Arena, ids []api.ID) string {
	var l []string
	for _, id := range ids {
		n, _ := a.Get(id)
		l = append(l, n.Name)
	}
	return strings.Join(l, " ")
}

// TestSeen checks what is visible at each node of a program, by lines of it.
func TestSeen(t *testing.T) {
	a := parsed(t, town)
	want := []string{
		"", "", "", "", "p", // Program, Module, Func, p, q
		"p q", "p q", "p q", // Block, let x and p
		"p q x", "p q x", // if and q
		"p q x", "p q x", "p q x", // its block, let y and x
		"p q x y", "p q x y", "p q x y", "p q x y", // print, +, y, p
		"p q x", "p q x", "p q x", // the other block, let z and q
		"p q x z", "p q x z", // q = and z
		"p q x", "p q x", // while and q
		"p q x", "p q x", "p q x", // its block, let w and m.g()
		"p q x w", "p q x w", // x = and w
		"p q x w", "p q x w", "p q x w", "p q x w", // do, m.f, x, q
		"p q x", "p q x", "p q x", "p q x", // let v, m.f, m.g, q
		"p q x v", "p q x v", // return and v
		"", "", "", "", // func g, Block, return, read
		"", "", "", // module empty, module main, func main
		"", "", "", // Block, let p and true
		"p", "p", // let x and m.g
		"p x", "p x", "p x", "p x", // do, m.g, return, x
		"", "", "", "", "", // func f, Block, return, !, false
	}
	if len(want) != a.Len() {
		t.Fatalf("%d nodes, %d expected", a.Len(), len(want))
	}
	for i, s := range want {
		id := api.ID(i + 1)
		if got := named(a, check.Seen(a, id)); got != s {
			n, _ := a.Get(id)
			t.Errorf("Seen at %d (kind %d): %q, want %q", id, n.Kind, got, s)
		}
	}
	wantIDs(t, "Seen at 0", check.Seen(a, 0))
	wantIDs(t, "Seen at no node", check.Seen(a, 1000))
	wantIDs(t, "Seen in main", check.Seen(a, 55), 48, 50)
}

// TestSeenFollowsTheText: the IDs and the Params' types do not matter.
func TestSeenFollowsTheText(t *testing.T) {
	a := parsed(t, "module main { func f(b int, a int) int { let d int = 1; let c int = 2; return 0; } }")
	n, _ := a.Get(3)
	n.Kids[0], n.Kids[1] = n.Kids[1], n.Kids[0]
	a.Put(3, n)
	body, _ := a.Get(6)
	body.Kids[0], body.Kids[1] = body.Kids[1], body.Kids[0]
	a.Put(6, body)
	wantIDs(t, "Seen at return", check.Seen(a, body.Kids[2]), 5, 4, 9, 7)
	wantIDs(t, "Seen at let d", check.Seen(a, 7), 5, 4, 9)
	wantIDs(t, "Seen at b", check.Seen(a, 4), 5)
	if got := check.Names(a, 3); !slices.Equal(got, []string{"a", "b", "c", "d"}) {
		t.Errorf("Names: %q", got)
	}
}

func TestType(t *testing.T) {
	for e, l := range expressions() {
		want := byte(arena.Number)
		if e == "bool" {
			want = arena.Truth
		}
		for _, s := range l {
			a := parsed(t, "module main { func f(i int, b bool, j int, c bool) int { return "+s+"; } } "+helpers)
			r, _ := a.Get(at(t, a, arena.Return, 0))
			if got := check.Type(a, r.Kids[0]); got != want {
				t.Errorf("Type of %s: %d, want %d", s, got, want)
			}
		}
	}
}

// TestTypeOfKindAlone: what an expression's operands are does not matter, and
// nothing else has a type.
func TestTypeOfKindAlone(t *testing.T) {
	a := parsed(t, "module main { func f(b bool) bool { let x int = true; b = 1; if 1 { } else { } while 1 { } print !1; print -true; print (true + b); print (1 && 2); print (1 == true); do main.f(1, 2); return 1; } }")
	for id, n := range a.Walk(1) {
		want := byte(arena.None)
		switch n.Kind {
		case arena.Int, arena.Neg:
			want = arena.Number
		case arena.Bool, arena.Not, arena.Var, arena.Call:
			want = arena.Truth
		case arena.Bin:
			want = arena.Truth
			if n.Num == 1 {
				want = arena.Number
			}
		}
		if got := check.Type(a, id); got != want {
			t.Errorf("Type of %d, kind %d: %d, want %d", id, n.Kind, got, want)
		}
	}
	for _, id := range []api.ID{0, 1000} {
		if got := check.Type(a, id); got != arena.None {
			t.Errorf("Type of %d: %d", id, got)
		}
	}
	a.Put(1000, api.Node{Kind: arena.Var, Ref: 2000})
	a.Put(1001, api.Node{Kind: arena.Call, Ref: 2000})
	a.Put(1002, api.Node{Kind: arena.Var})
	for id := api.ID(1000); id <= 1002; id++ {
		if got := check.Type(a, id); got != arena.None {
			t.Errorf("Type of %d, which refers to nothing: %d", id, got)
		}
	}
}

func TestUses(t *testing.T) {
	a := parsed(t, town)
	want := func(id api.ID, reads, writes, calls []api.ID) {
		t.Helper()
		u := check.Uses(a, id)
		wantIDs(t, "Reads", u.Reads, reads...)
		wantIDs(t, "Writes", u.Writes, writes...)
		wantIDs(t, "Calls", u.Calls, calls...)
	}
	ids := func(l ...api.ID) []api.ID { return l }
	want(1, ids(4, 5, 7, 12, 19, 26, 34, 50), ids(5, 7), ids(40, 3))
	want(3, ids(4, 5, 7, 12, 19, 26, 34), ids(5, 7), ids(40, 3))
	want(9, ids(5, 7, 12, 4, 19), ids(5), nil)
	want(23, ids(5, 26, 7), ids(7), ids(40, 3))
	want(34, ids(5), nil, ids(3, 40))
	want(21, ids(19), ids(5), nil)
	want(22, ids(19), nil, nil)
	want(7, ids(4), nil, nil)
	want(40, nil, nil, nil)
	want(4, nil, nil, nil)
	want(48, nil, nil, nil)
	want(0, nil, nil, nil)
	want(1000, nil, nil, nil)
}

func TestUsers(t *testing.T) {
	a := parsed(t, town)
	wantIDs(t, "users of q", check.Users(a, 5), 10, 20, 21, 24, 33, 37)
	wantIDs(t, "users of x", check.Users(a, 7), 13, 28, 32)
	wantIDs(t, "users of z", check.Users(a, 19), 22)
	wantIDs(t, "users of f", check.Users(a, 3), 31, 35)
	wantIDs(t, "users of g", check.Users(a, 40), 27, 36, 51, 53)
	wantIDs(t, "users of the other f", check.Users(a, 56))
	wantIDs(t, "users of the other p", check.Users(a, 48))
	wantIDs(t, "users of no node", check.Users(a, 1000))
	wantIDs(t, "users of a Block", check.Users(a, 6))
	a = parsed(t, "module m { func f(x int) int { return x; } }")
	wantIDs(t, "users of 0", check.Users(a, 0), 1, 2, 3, 4, 5, 6)
	n, _ := a.Get(7)
	a.Put(7, api.Node{Kind: arena.Neg, Kids: []api.ID{100}})
	a.Put(100, api.Node{Kind: arena.Bin, Num: 1, Kids: []api.ID{200, 9}})
	a.Put(200, n)
	a.Put(9, n)
	wantIDs(t, "users of x, by ID", check.Users(a, 4), 9, 200)
}

func TestModulesAndFuncs(t *testing.T) {
	a := parsed(t, town)
	wantIDs(t, "modules", check.Modules(a), 2, 44, 45)
	wantIDs(t, "functions of m", check.Funcs(a, 2), 3, 40)
	wantIDs(t, "functions of empty", check.Funcs(a, 44))
	wantIDs(t, "functions of main", check.Funcs(a, 45), 46, 56)
	for _, id := range []api.ID{0, 1, 3, 6, 1000} {
		wantIDs(t, "functions of no module", check.Funcs(a, id))
	}
	n, _ := a.Get(1)
	slices.Reverse(n.Kids)
	a.Put(1, n)
	n, _ = a.Get(2)
	slices.Reverse(n.Kids)
	a.Put(2, n)
	wantIDs(t, "modules in order", check.Modules(a), 45, 44, 2)
	wantIDs(t, "functions in order", check.Funcs(a, 2), 40, 3)
	wantIDs(t, "modules of an empty program", check.Modules(arena.New()))
}

func TestFunc(t *testing.T) {
	a := parsed(t, town)
	for names, want := range map[[2]string]api.ID{
		{"m", "f"}: 3, {"m", "g"}: 40, {"main", "main"}: 46, {"main", "f"}: 56,
		{"main", "g"}: 0, {"m", "main"}: 0, {"empty", "f"}: 0, {"other", "f"}: 0, {"f", "m"}: 0, {"", ""}: 0, {"m", ""}: 0, {"", "f"}: 0, {"m", "p"}: 0, {"M", "f"}: 0, {"m", "F"}: 0,
	} {
		if got := check.Func(a, names[0], names[1]); got != want {
			t.Errorf("Func %s: %d, want %d", names, got, want)
		}
	}
}

// TestFuncIsTheFirst: of several with the same names, also of several modules.
func TestFuncIsTheFirst(t *testing.T) {
	a := parsed(t, "module k { func h() int { return 0; } } module m { func f() int { return 0; } func g() int { return 0; } }")
	rename := func(id api.ID, name string) {
		n, _ := a.Get(id)
		n.Name = name
		a.Put(id, n)
	}
	want := func(module, name string, want api.ID) {
		t.Helper()
		if got := check.Func(a, module, name); got != want {
			t.Errorf("Func %s.%s: %d, want %d", module, name, got, want)
		}
	}
	rename(12, "f")
	want("m", "f", 8)
	rename(2, "m")
	want("m", "f", 8)
	want("m", "h", 3)
	rename(3, "f")
	want("m", "f", 3)
	n, _ := a.Get(1)
	slices.Reverse(n.Kids)
	a.Put(1, n)
	want("m", "f", 8)
	n, _ = a.Get(7)
	slices.Reverse(n.Kids)
	a.Put(7, n)
	want("m", "f", 12)
}

func TestNamesOfFunctions(t *testing.T) {
	a := parsed(t, town)
	for id := range a.Walk(1) {
		want := map[api.ID]string{3: "p q x y z w v", 46: "p x"}[id]
		if got := strings.Join(check.Names(a, id), " "); got != want {
			t.Errorf("Names of %d: %q, want %q", id, got, want)
		}
	}
	for _, id := range []api.ID{0, 1000} {
		if got := check.Names(a, id); len(got) > 0 {
			t.Errorf("Names of %d: %q", id, got)
		}
	}
	a = renamed(t, town, "y", "p")
	if got := strings.Join(check.Names(a, 3), " "); got != "p q x p z w v" {
		t.Errorf("Names with a clash: %q", got)
	}
}

// spoil overwrites a list with its spare capacity.
func spoil[T any](l []T, with T) {
	l = l[:cap(l)]
	for i := range l {
		l[i] = with
	}
}

func TestResultsAreNew(t *testing.T) {
	a := parsed(t, town)
	before := a.Copy()
	all := func() []any {
		u := check.Uses(a, 3)
		return []any{check.Right(a), check.Seen(a, 31), u, check.Users(a, 5), check.Modules(a), check.Funcs(a, 2), check.Func(a, "m", "f"), check.Names(a, 3)}
	}
	first := all()
	for _, x := range all() {
		switch l := x.(type) {
		case []api.ID:
			spoil(l, 77)
		case []string:
			spoil(l, "spoiled")
		case check.Use:
			writes, calls := slices.Clone(l.Writes), slices.Clone(l.Calls)
			spoil(l.Reads, 77)
			wantIDs(t, "Writes beside spoiled Reads", l.Writes, writes...)
			spoil(l.Writes, 78)
			wantIDs(t, "Calls beside spoiled Writes", l.Calls, calls...)
			spoil(l.Calls, 79)
		}
	}
	if !arena.Same(a, before) {
		t.Error("the arena has changed")
	}
	if again := all(); !reflect.DeepEqual(first, again) {
		t.Errorf("%v, then %v", first, again)
	}
}

// wantEnd makes all calls.
func wantEnd(a *arena.Arena, ids ...api.ID) {
	check.Right(a)
	check.Main(a)
	check.Modules(a)
	check.Func(a, "m", "f")
	for _, id := range ids {
		check.Type(a, id)
		check.Seen(a, id)
		check.Uses(a, id)
		check.Users(a, id)
		check.Funcs(a, id)
		check.Names(a, id)
	}
}

// TestEnd: all calls end, whatever the arena is.
func TestEnd(t *testing.T) {
	wantEnd(nil, 0, 1, 2)
	if e, id := check.Right(nil), check.Main(nil); e != api.ErrForm || id != 0 {
		t.Errorf("Right and Main of nil: %d, %d", e, id)
	}
	r := rand.New(rand.NewSource(1))
	for range 2000 {
		a := arena.New()
		size := 1 + r.Intn(12)
		some := func() api.ID { return api.ID(r.Intn(size + 2)) }
		for range size * 2 {
			n := api.Node{Kind: byte(r.Intn(22)), Name: []string{"", "m", "f", "main"}[r.Intn(4)], Num: int64(r.Intn(16) - 1), Type: byte(r.Intn(4)), Ref: some()}
			for range r.Intn(4) {
				n.Kids = append(n.Kids, some())
			}
			a.Put(some(), n)
		}
		if r.Intn(4) == 0 {
			a.Drop(some())
		}
		wantEnd(a, append(a.IDs(), 0, api.ID(size+2))...)
	}
}
