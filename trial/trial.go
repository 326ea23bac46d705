// Package trial has what the tests share of the layers that change programs.
package trial

import (
	"strings"

	"hourglass/api"
	"hourglass/arena"
	"hourglass/check"
	"hourglass/grammar"
	"hourglass/text"
)

// T is a *testing.T, of which no more is needed.
type T interface {
	Helper()
	Failed() bool
	Errorf(format string, arguments ...any)
	Fatalf(format string, arguments ...any)
}

func Parsed(t T, s string) *arena.Arena {
	t.Helper()
	a, e := grammar.Parse(s)
	if e != api.OK {
		t.Fatalf("Parse of %q: error %d", s, e)
	}
	return a
}

func Right(t T, s string) *arena.Arena {
	t.Helper()
	a := Parsed(t, s)
	if e := check.Right(a); e != api.OK {
		t.Fatalf("%q is not right: %d", s, e)
	}
	return a
}

// With returns a copy in which a node is changed.
func With(a *arena.Arena, id api.ID, change func(n *api.Node)) *arena.Arena {
	b := a.Copy()
	n, _ := b.Get(id)
	change(&n)
	b.Put(id, n)
	return b
}

// Scattered returns a program with other IDs, of all sizes.
func Scattered(below func(n int) int, a *arena.Arena) *arena.Arena {
	ids := map[api.ID]api.ID{0: 0, 1: 1}
	taken := map[api.ID]struct{}{0: {}, 1: {}}
	for _, id := range a.IDs()[1:] {
		other := api.ID(0)
		for again := true; again; _, again = taken[other] {
			other = anyID(below)
		}
		ids[id], taken[other] = other, struct{}{}
	}
	b := arena.New()
	for id, n := range a.Walk(1) {
		n.Ref = ids[n.Ref]
		for i, kid := range n.Kids {
			n.Kids[i] = ids[kid]
		}
		b.Put(ids[id], n)
	}
	return b
}

// Moved returns a program in which all IDs but the root's are so much greater.
func Moved(a *arena.Arena, by api.ID) *arena.Arena {
	moved := func(id api.ID) api.ID {
		if id > a.Root() {
			id += by
		}
		return id
	}
	b := arena.New()
	for id, n := range a.Walk(a.Root()) {
		for i, kid := range n.Kids {
			n.Kids[i] = moved(kid)
		}
		n.Ref = moved(n.Ref)
		b.Put(moved(id), n)
	}
	return b
}

// Crowd returns a program of so many nodes. Its beginning is given, up to
// somewhere in the body of its last function.
func Crowd(t T, beginning string, size int) *arena.Arena {
	t.Helper()
	const end = " return 0; } }"
	missing := size - Right(t, beginning+end).Len()
	if missing%2 == 1 {
		beginning += " print -1;"
		missing -= 3
	}
	a := Right(t, beginning+strings.Repeat(" print 1;", max(missing, 0)/2)+end)
	if a.Len() != size {
		t.Fatalf("%d nodes, want %d", a.Len(), size)
	}
	return a
}

// NoNames are texts that are no names.
func NoNames() []string {
	return []string{"", "if", "1", "a b", "a.b", "a ", "é", "\x00", strings.Repeat("x", api.MaxName+1)}
}

// anyID returns an ID of any size.
func anyID(below func(n int) int) api.ID {
	return api.ID(below(1<<32)<<32+below(1<<32)) >> below(54)
}

// Source returns its IDs one by one, and counts how often it is asked.
type Source struct {
	IDs   []api.ID
	Asked int
}

func From(ids ...api.ID) *Source {
	return &Source{IDs: ids}
}

// Row returns so many IDs, each the one after the other.
func Row(from api.ID, count int) []api.ID {
	var l []api.ID
	for i := range count {
		l = append(l, from+api.ID(i))
	}
	return l
}

func (s *Source) Next() (api.ID, bool) {
	s.Asked++
	if s.Asked > len(s.IDs) {
		return 0, false
	}
	return s.IDs[s.Asked-1], true
}

// One is a function that returns one ID again and again.
func One(id api.ID) func() (api.ID, bool) {
	return func() (api.ID, bool) { return id, true }
}

// Result is what a call returns that changes programs.
type Result struct {
	Arena *arena.Arena
	Error api.Errno
}

func Of(a *arena.Arena, e api.Errno) Result {
	return Result{a, e}
}

func Fail(e api.Errno) Result {
	return Result{nil, e}
}

func WantError(t T, what string, got Result, want api.Errno) {
	t.Helper()
	if got.Error != want || got.Arena != nil {
		t.Errorf("%s: %v, error %d, want error %d", what, got.Arena, got.Error, want)
	}
}

// WantArena expects a success.
func WantArena(t T, what string, got Result, want *arena.Arena) {
	t.Helper()
	if got.Error != api.OK || !arena.Same(got.Arena, want) {
		have, _ := text.Print(got.Arena)
		expected, _ := text.Print(want)
		t.Fatalf("%s: error %d\n%s\nwant\n%s", what, got.Error, have, expected)
	}
}

// WantText expects a success, and a program that is printed like that.
func WantText(t T, what string, got Result, want string) {
	t.Helper()
	have, e := text.Print(got.Arena)
	if got.Error != api.OK || e != api.OK || have != want {
		t.Errorf("%s: error %d, %d\n%s\nwant\n%s", what, got.Error, e, have, want)
	}
}

// WantProgram expects a success, and a program that is printed like that one.
func WantProgram(t T, what string, got Result, program string) {
	t.Helper()
	want, e := text.Print(Right(t, program))
	if e != api.OK {
		t.Fatalf("Print of %q: error %d", program, e)
	}
	WantText(t, what, got, want)
}

// WantResult expects what a model has returned.
func WantResult(t T, what string, got, want Result) {
	t.Helper()
	if want.Error != api.OK {
		WantError(t, what, got, want.Error)
		return
	}
	WantArena(t, what, got, want.Arena)
}

// WantNew expects a success, and that what a call returns and what is passed to
// it do not change with each other.
func WantNew(t T, what string, a *arena.Arena, call func(a *arena.Arena) (*arena.Arena, api.Errno)) {
	t.Helper()
	original, before := a.Copy(), a.Copy()
	b, e := call(a)
	if e != api.OK || !arena.Same(a, original) {
		t.Errorf("%s: error %d, or it has changed its argument", what, e)
	}
	returned := b.Copy()
	SpoilArena(a)
	if !arena.Same(b, returned) {
		t.Errorf("%s: the result has changed with the argument", what)
	}
	c, _ := call(before)
	SpoilArena(b)
	if !arena.Same(c, returned) || !arena.Same(before, original) {
		t.Errorf("%s: something has changed with the result", what)
	}
}

// SpoilArena changes each node of an arena, and drops one.
func SpoilArena(a *arena.Arena) {
	ids := a.IDs()
	for _, id := range ids {
		n, _ := a.Get(id)
		for i := range n.Kids {
			n.Kids[i]++
		}
		n.Name += "x"
		a.Put(id, n)
	}
	if len(ids) > 0 {
		a.Drop(ids[len(ids)-1])
	}
}
