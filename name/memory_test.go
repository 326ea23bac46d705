package name_test

import (
	"math/rand"
	"testing"

	"hourglass/api"
	"hourglass/arena"
	"hourglass/check"
	"hourglass/name"
)

// spoil changes each node of an arena, and drops some.
func spoil(a *arena.Arena) {
	for _, id := range a.IDs() {
		n, _ := a.Get(id)
		for i := range n.Kids {
			n.Kids[i]++
		}
		n.Name += "x"
		a.Put(id, n)
	}
	a.Drop(kF)
	a.Drop(zG)
}

// TestResultsAreNew: what is returned and what was passed in do not change
// with each other.
func TestResultsAreNew(t *testing.T) {
	for what, call := range map[string]func(a *arena.Arena) (*arena.Arena, api.Errno){
		"Rename": func(a *arena.Arena) (*arena.Arena, api.Errno) {
			return name.Rename(a, arena.Let, kFX, "other")
		},
		"Rename to the same": func(a *arena.Arena) (*arena.Arena, api.Errno) {
			return name.Rename(a, arena.Let, kFX, "x")
		},
		"Move":            func(a *arena.Arena) (*arena.Arena, api.Errno) { return name.Move(a, kF, z) },
		"Move to the end": func(a *arena.Arena) (*arena.Arena, api.Errno) { return name.Move(a, main2, main) },
		"AddModule":       func(a *arena.Arena) (*arena.Arena, api.Errno) { return name.AddModule(a, "new", one(99)) },
		"DropModule":      func(a *arena.Arena) (*arena.Arena, api.Errno) { return name.DropModule(a, empty) },
		"DropFunc":        func(a *arena.Arena) (*arena.Arena, api.Errno) { return name.DropFunc(a, main2) },
		"Checked":         name.Checked,
	} {
		a := right(t, town)
		before := a.Copy()
		b, e := call(a)
		if e != api.OK || b == nil {
			t.Fatalf("%s: error %d", what, e)
		}
		if !arena.Same(a, before) {
			t.Errorf("%s has changed its argument", what)
		}
		returned := b.Copy()
		spoil(a)
		if !arena.Same(b, returned) {
			t.Errorf("%s: the result has changed with the argument", what)
		}
		c, _ := call(before)
		spoil(b)
		if !arena.Same(c, returned) || !arena.Same(before, right(t, town)) {
			t.Errorf("%s: something has changed with the result", what)
		}
	}
}

// TestGarbage: all calls end, whatever the arena is, and return ErrForm if it
// is not right.
func TestGarbage(t *testing.T) {
	r := rand.New(rand.NewSource(1))
	for range 300 {
		a := right(t, town)
		some := func() api.ID { return api.ID(r.Intn(size + 2)) }
		for range 1 + r.Intn(4) {
			id := some()
			n, _ := a.Get(some())
			if r.Intn(2) == 0 {
				n.Kids = append(n.Kids, some(), some())
			}
			a.Put(id, n)
		}
		wrong := check.Right(a) != api.OK
		for what, got := range map[string]result{
			"Rename":     of(name.Rename(a, byte(r.Intn(8)), some(), "new")),
			"Move":       of(name.Move(a, some(), some())),
			"AddModule":  of(name.AddModule(a, "new", one(some()))),
			"DropModule": of(name.DropModule(a, some())),
			"DropFunc":   of(name.DropFunc(a, some())),
		} {
			if wrong {
				wantError(t, what, got, api.ErrForm)
			}
			if (got.a == nil) != (got.e != api.OK) {
				t.Errorf("%s: error %d with %v", what, got.e, got.a)
			}
		}
		if b, e := name.Checked(a); e != check.Right(a) || (b == nil) != wrong {
			t.Errorf("Checked: error %d", e)
		}
	}
}
