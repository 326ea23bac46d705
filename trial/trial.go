// Package trial has what the tests share of the layers that change programs.
package trial

import (
	"slices"

	"hourglass/api"
	"hourglass/arena"
	"hourglass/check"
	"hourglass/grammar"
	"hourglass/text"
)

// T is a *testing.T, of which no more is needed.
type T interface {
	Helper()
	Errorf(format string, arguments ...any)
	Fatalf(format string, arguments ...any)
}

func Parsed(t T, s string) *arena.Arena {
	t.Helper()
	a, e := grammar.Parse(s)
	if e != api.OK {
		t.Fatalf("Parse of %q: error %d", s, e)
	}
	return a
}

func Right(t T, s string) *arena.Arena {
	t.Helper()
	a := Parsed(t, s)
	if e := check.Right(a); e != api.OK {
		t.Fatalf("%q is not right: %d", s, e)
	}
	return a
}

// With returns a copy in which a node is changed.
func With(a *arena.Arena, id api.ID, change func(n *api.Node)) *arena.Arena {
	b := a.Copy()
	n, _ := b.Get(id)
	change(&n)
	b.Put(id, n)
	return b
}

// Scattered returns a program with other IDs, of all sizes.
func Scattered(below func(n int) int, a *arena.Arena) *arena.Arena {
	ids := map[api.ID]api.ID{0: 0, 1: 1}
	taken := map[api.ID]struct{}{0: {}, 1: {}}
	for _, id := range a.IDs()[1:] {
		other := api.ID(0)
		for again := true; again; _, again = taken[other] {
			other = api.ID(below(1<<32)<<32+below(1<<32)) >> below(54)
		}
		ids[id], taken[other] = other, struct{}{}
	}
	b := arena.New()
	for id, n := range a.Walk(1) {
		n.Ref = ids[n.Ref]
		for i, kid := range n.Kids {
			n.Kids[i] = ids[kid]
		}
		b.Put(ids[id], n)
	}
	return b
}

// Source returns its IDs one by one, and counts how often it is asked.
type Source struct {
	IDs   []api.ID
	Asked int
}

func (s *Source) Next() (api.ID, bool) {
	s.Asked++
	if s.Asked > len(s.IDs) {
		return 0, false
	}
	return s.IDs[s.Asked-1], true
}

// One is a function that returns one ID again and again.
func One(id api.ID) func() (api.ID, bool) {
	return func() (api.ID, bool) { return id, true }
}

// Result is what a call returns that changes programs.
type Result struct {
	Arena *arena.Arena
	Error api.Errno
}

func Of(a *arena.Arena, e api.Errno) Result {
	return Result{a, e}
}

func Fail(e api.Errno) Result {
	return Result{nil, e}
}

func WantError(t T, what string, got Result, want api.Errno) {
	t.Helper()
	if got.Error != want || got.Arena != nil {
		t.Errorf("%s: %v, error %d, want error %d", what, got.Arena, got.Error, want)
	}
}

// WantArena expects a success.
func WantArena(t T, what string, got Result, want *arena.Arena) {
	t.Helper()
	if got.Error != api.OK || !arena.Same(got.Arena, want) {
		have, _ := text.Print(got.Arena)
		expected, _ := text.Print(want)
		t.Fatalf("%s: error %d\n%s\nwant\n%s", what, got.Error, have, expected)
	}
}

// WantText expects a success, and a program that is printed like that.
func WantText(t T, what string, got Result, want string) {
	t.Helper()
	have, e := text.Print(got.Arena)
	if got.Error != api.OK || e != api.OK || have != want {
		t.Errorf("%s: error %d, %d\n%s\nwant\n%s", what, got.Error, e, have, want)
	}
}

// WantResult expects what a model has returned.
func WantResult(t T, what string, got, want Result) {
	t.Helper()
	if want.Error != api.OK {
		WantError(t, what, got, want.Error)
		return
	}
	WantArena(t, what, got, want.Arena)
}

// WantNew expects a success, and that what a call returns and what is passed to
// it do not change with each other.
func WantNew(t T, what string, a *arena.Arena, call func(a *arena.Arena) (*arena.Arena, api.Errno)) {
	t.Helper()
	original, before := a.Copy(), a.Copy()
	b, e := call(a)
	if e != api.OK || !arena.Same(a, original) {
		t.Errorf("%s: error %d, or it has changed its argument", what, e)
	}
	returned := b.Copy()
	spoil(a)
	if !arena.Same(b, returned) {
		t.Errorf("%s: the result has changed with the argument", what)
	}
	c, _ := call(before)
	spoil(b)
	if !arena.Same(c, returned) || !arena.Same(before, original) {
		t.Errorf("%s: something has changed with the result", what)
	}
}

// spoil changes each node of an arena, and drops one.
func spoil(a *arena.Arena) {
	ids := a.IDs()
	for _, id := range ids {
		n, _ := a.Get(id)
		for i := range n.Kids {
			n.Kids[i]++
		}
		n.Name += "x"
		a.Put(id, n)
	}
	if len(ids) > 0 {
		a.Drop(ids[len(ids)-1])
	}
}

// Nodes are those of an arena, for models.
type Nodes map[api.ID]api.Node

func NodesOf(a *arena.Arena) Nodes {
	m := Nodes{}
	for _, id := range a.IDs() {
		m[id], _ = a.Get(id)
	}
	return m
}

func (m Nodes) Arena() *arena.Arena {
	a := arena.New()
	a.Drop(a.Root())
	for id, n := range m {
		a.Put(id, n)
	}
	return a
}

// End is what a call returns that has made these nodes.
func (m Nodes) End() Result {
	a := m.Arena()
	if e := check.Right(a); e != api.OK {
		return Fail(e)
	}
	return Of(a, api.OK)
}

// Below returns a node and everything below it, for programs that are Trees.
func (m Nodes) Below(id api.ID) []api.ID {
	l := []api.ID{id}
	for _, kid := range m[id].Kids {
		l = append(l, m.Below(kid)...)
	}
	return l
}

// Parent looks at all nodes, and returns the one with the smallest ID.
func (m Nodes) Parent(id api.ID) (api.ID, int) {
	parent, at := api.ID(0), 0
	for other, n := range m {
		if i := slices.Index(n.Kids, id); i >= 0 && (parent == 0 || other < parent) {
			parent, at = other, i
		}
	}
	return parent, at
}
