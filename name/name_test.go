package name_test

import (
	"slices"
	"strings"
	"testing"

	"hourglass/api"
	"hourglass/arena"
	"hourglass/check"
	"hourglass/name"
	"hourglass/op"
	"hourglass/trial"
)

const town = `module k {
	func f(a int) int {
		let x int = (a + 1);
		return x;
	}
}
module main {
	func main() int {
		let x int = k.f(2);
		print main.g(x, true);
		return 0;
	}
	func g(a int, b bool) int {
		a = 3;
		return k.f(a);
	}
	func main2() int {
		return main.main2();
	}
}
module empty {
}
module z {
	func g() int {
		return main.main();
	}
}
`

// The nodes of town.
const (
	k        = 2
	kF       = 3
	kFA      = 4
	kFX      = 6
	kFVar    = 8 // in the expression of the let
	kFInt    = 9
	main     = 12
	mainMain = 13
	mainG    = 24
	mainGA   = 25
	main2    = 33
	empty    = 37
	z        = 38
	zG       = 39
	size     = 42
)

// named returns the IDs of what has a path of names, like main.g.a.
func named(t *testing.T, a *arena.Arena, path string) api.ID {
	t.Helper()
	id := a.Root()
	for _, part := range strings.Split(path, ".") {
		found := api.ID(0)
		for below, n := range a.Walk(id) {
			if n.Name == part && below != id && found == 0 {
				found = below
			}
		}
		if found == 0 {
			t.Fatalf("there is no %s", path)
		}
		id = found
	}
	return id
}

// no is a function that has no IDs, and counts how often it is called.
func no(times *int) func() (api.ID, bool) {
	return func() (api.ID, bool) {
		*times++
		return 0, false
	}
}

func TestExample(t *testing.T) {
	a := trial.Right(t, "module main { func main() int { return 1; } }")
	trial.WantError(t, "Rename of main.main", trial.Of(name.Rename(a, arena.Func, 3, "other")), api.ErrNone)
}

func TestTown(t *testing.T) {
	a := trial.Right(t, town)
	for path, want := range map[string]api.ID{"k": k, "k.f": kF, "k.f.a": kFA, "k.f.x": kFX, "main": main, "main.main": mainMain, "main.g": mainG, "main.g.a": mainGA, "main.main2": main2, "empty": empty, "z": z, "z.g": zG} {
		if got := named(t, a, path); got != want {
			t.Errorf("%s: %d, want %d", path, got, want)
		}
	}
	if v, _ := a.Get(kFVar); v.Kind != arena.Var || a.Len() != size {
		t.Error(v, a.Len())
	}
	trial.WantText(t, "town", trial.Of(a, api.OK), town)
}

// TestRename: everything that refers to what is renamed is printed with the
// new name, and nothing else.
func TestRename(t *testing.T) {
	a := trial.Right(t, town)
	rename := func(kind byte, path, to string, replacer ...string) {
		t.Helper()
		got := trial.Of(name.Rename(a, kind, named(t, a, path), to))
		trial.WantText(t, path+" to "+to, got, strings.NewReplacer(replacer...).Replace(town))
		trial.WantArena(t, path+" to "+to, got, trial.With(a, named(t, a, path), func(n *api.Node) { n.Name = to }))
	}
	rename(arena.Module, "k", "f", "module k", "module f", "k.f", "f.f")
	rename(arena.Module, "k", "k0", "module k", "module k0", "k.f", "k0.f")
	rename(arena.Module, "empty", "_", "empty", "_")
	rename(arena.Module, "main", "main")
	rename(arena.Func, "k.f", "main", "func f", "func main", "k.f", "k.main")
	rename(arena.Func, "main.g", "f", "func g(a", "func f(a", "main.g", "main.f")
	rename(arena.Func, "z.g", "main", "func g()", "func main()")
	rename(arena.Func, "main.main2", "z", "main2", "z")
	rename(arena.Func, "main.main", "main")
	rename(arena.Param, "k.f.a", "f", "f(a int) int", "f(f int) int", "(a + 1)", "(f + 1)")
	rename(arena.Param, "main.g.a", "main", "(a int, ", "(main int, ", "a = 3", "main = 3", "f(a);", "f(main);")
	rename(arena.Param, "main.g.b", "x", "b bool", "x bool")
	rename(arena.Let, "k.f.x", "k", "x int = (a", "k int = (a", "return x", "return k")
	rename(arena.Let, "main.main.x", strings.Repeat("x", api.MaxName), "x int = k", strings.Repeat("x", api.MaxName)+" int = k", "(x, ", "("+strings.Repeat("x", api.MaxName)+", ")
}

func TestRenameErrors(t *testing.T) {
	a := trial.Right(t, town)
	have := []byte{arena.Module, arena.Func, arena.Param, arena.Let}
	var kinds []byte
	for kind := byte(0); kind <= arena.Read+1; kind++ {
		kinds = append(kinds, kind)
	}
	kinds = append(kinds, 128, 255)
	for id, n := range a.Walk(1) {
		for _, kind := range kinds {
			want := api.ErrNone
			if n.Kind == kind && slices.Contains(have, kind) {
				want = api.ErrName
			} else {
				trial.WantError(t, "another kind", trial.Of(name.Rename(a, kind, id, "new")), api.ErrNone)
			}
			for _, to := range []string{"", "if", strings.Repeat("x", api.MaxName+1)} {
				trial.WantError(t, "no name", trial.Of(name.Rename(a, kind, id, to)), want)
			}
		}
	}
	for _, id := range []api.ID{0, size + 1, 1 << 63} {
		for _, kind := range kinds {
			trial.WantError(t, "no node", trial.Of(name.Rename(a, kind, id, "new")), api.ErrNone)
			trial.WantError(t, "no node, no name", trial.Of(name.Rename(a, kind, id, "")), api.ErrNone)
		}
	}
	for _, to := range trial.NoNames() {
		trial.WantError(t, to, trial.Of(name.Rename(a, arena.Let, kFX, to)), api.ErrName)
	}
	fails := func(kind byte, path, to string, want api.Errno) {
		t.Helper()
		trial.WantError(t, path+" to "+to, trial.Of(name.Rename(a, kind, named(t, a, path), to)), want)
	}
	fails(arena.Module, "k", "z", api.ErrClash)
	fails(arena.Module, "k", "main", api.ErrClash)
	fails(arena.Module, "main", "k", api.ErrClash)
	fails(arena.Module, "main", "new", api.ErrNone)
	fails(arena.Func, "main.g", "main2", api.ErrClash)
	fails(arena.Func, "main.g", "main", api.ErrClash)
	fails(arena.Func, "main.main", "g", api.ErrClash)
	fails(arena.Func, "main.main", "new", api.ErrNone)
	fails(arena.Param, "k.f.a", "x", api.ErrClash)
	fails(arena.Param, "main.g.a", "b", api.ErrClash)
	fails(arena.Let, "k.f.x", "a", api.ErrClash)
}

// TestRenameOfHidden: variables of a function clash also where neither is
// visible to the other one.
func TestRenameOfHidden(t *testing.T) {
	a := trial.Right(t, "module main { func main() int { if true { let x int = 1; } else { let y int = 2; } return 0; } }")
	trial.WantError(t, "x to y", trial.Of(name.Rename(a, arena.Let, named(t, a, "x"), "y")), api.ErrClash)
	trial.WantArena(t, "x to z", trial.Of(name.Rename(a, arena.Let, named(t, a, "x"), "z")), trial.With(a, named(t, a, "x"), func(n *api.Node) { n.Name = "z" }))
}

const rows = "module a { func f() int { return 1; } func g() int { return a.f(); } func h() int { return b.f(); } } module main { func main() int { return a.h(); } } module b { func f() int { return 2; } } module c { }"

// TestMove compares the rows of functions.
func TestMove(t *testing.T) {
	a := trial.Right(t, rows)
	for _, c := range []struct{ f, module, a, main, b, c string }{
		{"a.f", "main", "g h", "main f", "f", ""},
		{"a.g", "main", "f h", "main g", "f", ""},
		{"a.h", "main", "f g", "main h", "f", ""},
		{"a.f", "c", "g h", "main", "f", "f"},
		{"a.h", "c", "f g", "main", "f", "h"},
		{"b.f", "c", "f g h", "main", "", "f"},
		{"a.g", "b", "f h", "main", "f g", ""},
		{"a.f", "a", "g h f", "main", "f", ""},
		{"a.g", "a", "f h g", "main", "f", ""},
		{"a.h", "a", "f g h", "main", "f", ""},
		{"b.f", "b", "f g h", "main", "f", ""},
		{"main.main", "main", "f g h", "main", "f", ""},
	} {
		what := c.f + " into " + c.module
		f := named(t, a, c.f)
		b, e := name.Move(a, f, named(t, a, c.module))
		if e != api.OK {
			t.Errorf("%s: error %d", what, e)
			continue
		}
		for module, want := range map[string]string{"a": c.a, "main": c.main, "b": c.b, "c": c.c} {
			if got := functions(b, named(t, b, module)); got != want {
				t.Errorf("%s: in %s are %q, want %q", what, module, got, want)
			}
		}
		parent, _ := b.Parent(f)
		if parent != named(t, a, c.module) || b.Len() != a.Len() {
			t.Errorf("%s: %d is in %d", what, f, parent)
		}
		for id, n := range a.Walk(1) {
			m, _ := b.Get(id)
			if n.Kind != arena.Module && !slices.Equal(n.Kids, m.Kids) || m.Name != n.Name || m.Ref != n.Ref {
				t.Errorf("%s: %v has become %v", what, n, m)
			}
		}
	}
}

// functions returns the names of a module's.
func functions(a *arena.Arena, module api.ID) string {
	n, _ := a.Get(module)
	var l []string
	for _, f := range n.Kids {
		n, _ := a.Get(f)
		l = append(l, n.Name)
	}
	return strings.Join(l, " ")
}

// TestMoveText: calls are printed with the new module.
func TestMoveText(t *testing.T) {
	a := trial.Right(t, town)
	const f = "\tfunc f(a int) int {\n\t\tlet x int = (a + 1);\n\t\treturn x;\n\t}\n"
	without := strings.ReplaceAll(strings.Replace(town, f, "", 1), "k.f", "empty.f")
	want := strings.Replace(without, "module empty {\n", "module empty {\n"+f, 1)
	trial.WantText(t, "k.f into empty", trial.Of(name.Move(a, kF, empty)), want)
}

func TestMoveErrors(t *testing.T) {
	a := trial.Right(t, town)
	for id, n := range a.Walk(1) {
		if n.Kind != arena.Func {
			trial.WantError(t, "no function", trial.Of(name.Move(a, id, empty)), api.ErrNone)
		}
		if n.Kind != arena.Module {
			trial.WantError(t, "no module", trial.Of(name.Move(a, kF, id)), api.ErrNone)
		}
		trial.WantError(t, "into itself", trial.Of(name.Move(a, id, id)), api.ErrNone)
	}
	for _, id := range []api.ID{0, size + 1, 1 << 63} {
		trial.WantError(t, "no node", trial.Of(name.Move(a, id, empty)), api.ErrNone)
		trial.WantError(t, "no node", trial.Of(name.Move(a, kF, id)), api.ErrNone)
	}
	trial.WantError(t, "main.g into z", trial.Of(name.Move(a, mainG, z)), api.ErrClash)
	trial.WantError(t, "z.g into main", trial.Of(name.Move(a, zG, main)), api.ErrClash)
	trial.WantError(t, "main.main into empty", trial.Of(name.Move(a, mainMain, empty)), api.ErrNone)
}

func TestAddModule(t *testing.T) {
	a := trial.Right(t, town)
	for _, id := range []api.ID{size + 1, size + 2, 1000, 1<<64 - 1} {
		for _, called := range []string{"new", "a", "f", "_", "Main", strings.Repeat("x", api.MaxName)} {
			want := trial.With(a, 1, func(n *api.Node) { n.Kids = append(n.Kids, id) })
			want.Put(id, api.Node{Kind: arena.Module, Name: called})
			got := trial.Of(name.AddModule(a, called, trial.One(id)))
			trial.WantArena(t, called, got, want)
			trial.WantText(t, called, got, town+"module "+called+" {\n}\n")
		}
	}
}

// TestAddModuleTakesOneID: the next one of fresh, each time.
func TestAddModuleTakesOneID(t *testing.T) {
	a := trial.Right(t, town)
	fresh := op.Fresh(1)
	for i, called := range []string{"x", "y", "v"} {
		b, e := name.AddModule(a, called, fresh)
		if last := check.Modules(b); e != api.OK || last[len(last)-1] != api.ID(65537+i) {
			t.Fatalf("%s: error %d, modules %d", called, e, last)
		}
		a = b
	}
	if got := a.Len(); got != size+3 {
		t.Error(got, "nodes")
	}
}

func TestAddModuleErrors(t *testing.T) {
	a := trial.Right(t, town)
	for _, called := range trial.NoNames() {
		times := 0
		trial.WantError(t, called, trial.Of(name.AddModule(a, called, no(&times))), api.ErrName)
		trial.WantError(t, called, trial.Of(name.AddModule(a, called, nil)), api.ErrName)
		trial.WantError(t, called, trial.Of(name.AddModule(a, called, trial.One(kF))), api.ErrName)
		if times > 0 {
			t.Error("fresh was called, although the name is none")
		}
	}
	for _, called := range []string{"new", "k", "main"} {
		times := 0
		trial.WantError(t, "no ID", trial.Of(name.AddModule(a, called, no(&times))), api.ErrFull)
		trial.WantError(t, "no function", trial.Of(name.AddModule(a, called, nil)), api.ErrFull)
		trial.WantError(t, "the ID 0", trial.Of(name.AddModule(a, called, trial.One(0))), api.ErrFull)
		trial.WantError(t, "the stamp 0", trial.Of(name.AddModule(a, called, op.Fresh(0))), api.ErrFull)
		for id := range a.Walk(1) {
			trial.WantError(t, "an ID that exists", trial.Of(name.AddModule(a, called, trial.One(id))), api.ErrFull)
		}
		trial.WantError(t, "an ID beside false", trial.Of(name.AddModule(a, called, func() (api.ID, bool) { return size + 1, false })), api.ErrFull)
	}
	for _, called := range []string{"k", "main", "empty", "z"} {
		trial.WantError(t, called, trial.Of(name.AddModule(a, called, trial.One(size+1))), api.ErrClash)
	}
}

// TestAddModuleToMany: there is room for MaxNodes nodes.
func TestAddModuleToMany(t *testing.T) {
	a := trial.Crowd(t, "module main { func main() int {", api.MaxNodes-1)
	b, e := name.AddModule(a, "one", trial.One(100000))
	if e != api.OK || b.Len() != api.MaxNodes {
		t.Fatalf("error %d", e)
	}
	trial.WantError(t, "no room", trial.Of(name.AddModule(b, "two", trial.One(100001))), api.ErrFull)
	if c, e := name.Rename(b, arena.Module, 100000, "two"); e != api.OK || c.Len() != api.MaxNodes {
		t.Errorf("error %d", e)
	}
}

func TestDropModule(t *testing.T) {
	a := trial.Right(t, town)
	got := trial.Of(name.DropModule(a, empty))
	want := trial.With(a, 1, func(n *api.Node) { n.Kids = []api.ID{k, main, z} })
	want.Drop(empty)
	trial.WantArena(t, "empty", got, want)
	trial.WantText(t, "empty", got, strings.Replace(town, "module empty {\n}\n", "", 1))
	for id, n := range a.Walk(1) {
		switch {
		case n.Kind != arena.Module:
			trial.WantError(t, "no module", trial.Of(name.DropModule(a, id)), api.ErrNone)
		case id != empty:
			trial.WantError(t, "with functions", trial.Of(name.DropModule(a, id)), api.ErrUsed)
		}
	}
	for _, id := range []api.ID{0, size + 1, 1 << 63} {
		trial.WantError(t, "no node", trial.Of(name.DropModule(a, id)), api.ErrNone)
	}
}

// TestDropModuleAnywhere: as the first, a middle and the last one.
func TestDropModuleAnywhere(t *testing.T) {
	a := trial.Right(t, "module x { } module y { } module main { func main() int { return 1; } } module z { }")
	for path, want := range map[string]string{"x": "y main z", "y": "x main z", "z": "x y main"} {
		b, e := name.DropModule(a, named(t, a, path))
		if got := functions(b, 1); e != api.OK || got != want {
			t.Errorf("%s: error %d, then %q, want %q", path, e, got, want)
		}
	}
}

func TestDropFunc(t *testing.T) {
	a := trial.Right(t, town)
	without := func(f, module api.ID, kids ...api.ID) {
		t.Helper()
		want := trial.With(a, module, func(n *api.Node) { n.Kids = kids })
		want.Drop(f)
		trial.WantArena(t, "DropFunc", trial.Of(name.DropFunc(a, f)), want)
	}
	without(main2, main, mainMain, mainG) // it calls itself
	without(zG, z)
	for id, n := range a.Walk(1) {
		if n.Kind != arena.Func {
			trial.WantError(t, "no function", trial.Of(name.DropFunc(a, id)), api.ErrNone)
		}
	}
	for _, id := range []api.ID{0, size + 1, 1 << 63} {
		trial.WantError(t, "no node", trial.Of(name.DropFunc(a, id)), api.ErrNone)
	}
	trial.WantError(t, "k.f", trial.Of(name.DropFunc(a, kF)), api.ErrUsed)
	trial.WantError(t, "main.g", trial.Of(name.DropFunc(a, mainG)), api.ErrUsed)
	trial.WantError(t, "main.main, which z.g calls", trial.Of(name.DropFunc(a, mainMain)), api.ErrUsed)
	b, _ := name.DropFunc(a, zG)
	trial.WantError(t, "main.main", trial.Of(name.DropFunc(b, mainMain)), api.ErrNone)
}

// TestDropFuncThatIsCalled: calls anywhere in another function count, also in one
// that is called by nobody, and beside calls by itself.
func TestDropFuncThatIsCalled(t *testing.T) {
	for call, want := range map[string]api.Errno{
		"":                                    api.OK,
		"print 1;":                            api.OK,
		"do main.g(1);":                       api.OK,
		"do main.f(1);":                       api.ErrUsed,
		"print main.f(1);":                    api.ErrUsed,
		"let x int = (1 + main.f(1));":        api.ErrUsed,
		"a = -main.f(1);":                     api.ErrUsed,
		"while (main.f(1) == 1) { }":          api.ErrUsed,
		"if true { } else { do main.f(1); }":  api.ErrUsed,
		"do main.g(main.g(main.f(1)));":       api.ErrUsed,
		"if true { do main.g(1); } else { } ": api.OK,
	} {
		a := trial.Right(t, "module main { func main() int { return 1; } func f(a int) int { print main.f((main.f(a) - 1)); return main.g(1); } func g(a int) int { "+call+" return 1; } }")
		f := named(t, a, "main.f")
		if got := trial.Of(name.DropFunc(a, f)); want != api.OK {
			trial.WantError(t, call, got, want)
		} else if _, left := got.Arena.Get(f); got.Error != api.OK || left {
			t.Errorf("%s: error %d", call, got.Error)
		}
	}
}

func TestChecked(t *testing.T) {
	for s, want := range map[string]api.Errno{
		"module main { func main() int { return true; } }":  api.ErrType,
		"module main { func main() bool { return true; } }": api.ErrNone,
		"module main { }": api.ErrNone,
		"module m { func main() int { return 1; } }": api.ErrNone,
		"": api.ErrNone,
	} {
		trial.WantError(t, s, trial.Of(name.Checked(trial.Parsed(t, s))), want)
	}
	a := trial.Right(t, town)
	trial.WantArena(t, "town", trial.Of(name.Checked(a)), a)
	trial.WantError(t, "nil", trial.Of(name.Checked(nil)), api.ErrForm)
	trial.WantError(t, "no Num", trial.Of(name.Checked(trial.With(a, kFInt, func(n *api.Node) { n.Num = -1 }))), api.ErrForm)
	trial.WantError(t, "two modules z", trial.Of(name.Checked(trial.With(a, k, func(n *api.Node) { n.Name = "z" }))), api.ErrClash)
	trial.WantError(t, "two modules z, and no type", trial.Of(name.Checked(trial.With(trial.With(a, k, func(n *api.Node) { n.Name = "z" }), kFX, func(n *api.Node) { n.Type = arena.Truth }))), api.ErrClash)
	trial.WantError(t, "a variable of another function", trial.Of(name.Checked(trial.With(a, kFVar, func(n *api.Node) { n.Ref = mainGA }))), api.ErrName)
	trial.WantError(t, "another type", trial.Of(name.Checked(trial.With(a, kFX, func(n *api.Node) { n.Type = arena.Truth }))), api.ErrType)
	trial.WantError(t, "no Main", trial.Of(name.Checked(trial.With(a, mainMain, func(n *api.Node) { n.Name = "man" }))), api.ErrNone)
}

// wantForm makes all calls but Checked, with arguments that fit town and ones
// that do not.
func wantForm(t *testing.T, what string, a *arena.Arena) {
	t.Helper()
	times := 0
	for _, id := range []api.ID{0, 1, k, kF, kFX, main, mainG, empty, zG, 1000} {
		for _, to := range []string{"new", ""} {
			for _, kind := range []byte{arena.Module, arena.Func, arena.Let, arena.Int} {
				trial.WantError(t, what+", Rename", trial.Of(name.Rename(a, kind, id, to)), api.ErrForm)
			}
			trial.WantError(t, what+", AddModule", trial.Of(name.AddModule(a, to, no(&times))), api.ErrForm)
			trial.WantError(t, what+", AddModule", trial.Of(name.AddModule(a, to, nil)), api.ErrForm)
		}
		trial.WantError(t, what+", Move", trial.Of(name.Move(a, id, empty)), api.ErrForm)
		trial.WantError(t, what+", Move", trial.Of(name.Move(a, kF, id)), api.ErrForm)
		trial.WantError(t, what+", DropModule", trial.Of(name.DropModule(a, id)), api.ErrForm)
		trial.WantError(t, what+", DropFunc", trial.Of(name.DropFunc(a, id)), api.ErrForm)
	}
	if times > 0 {
		t.Errorf("%s: fresh was called", what)
	}
}

func TestNotRight(t *testing.T) {
	for _, w := range trial.Wrongs(t, town) {
		wantForm(t, w.Why, w.Arena)
	}
}
