package trial

import (
	"math"
	"slices"

	"hourglass/api"
	"hourglass/arena"
	"hourglass/author"
	"hourglass/check"
	"hourglass/text"
)

// Changer chooses arguments of calls that change a program.
type Changer struct {
	Below func(n int) int
	Arena *arena.Arena
}

func (c Changer) One(names ...string) string {
	return names[c.Below(len(names))]
}

// Pick returns a node, mostly one of these kinds, and rarely none.
func (c Changer) Pick(kinds ...byte) api.ID {
	var l []api.ID
	for id, n := range c.Arena.Walk(c.Arena.Root()) {
		if slices.Contains(kinds, n.Kind) || c.Below(100) == 0 {
			l = append(l, id)
		}
	}
	if len(l) == 0 || c.Below(50) == 0 {
		return []api.ID{0, 1, 3, 65537, math.MaxUint64}[c.Below(5)]
	}
	return l[c.Below(len(l))]
}

// Sources returns the same IDs twice. Mostly, they suffice and none of them
// exists.
func (c Changer) Sources() (*Source, *Source) {
	s := &Source{}
	for range []int{0, 1, 2, 10, 200, 200, 200, 200, 200, 200, 200}[c.Below(11)] {
		id := anyID(c.Below)
		if c.Below(200) == 0 {
			id = c.Pick(arena.Var, arena.Let, arena.Int)
		}
		s.IDs = append(s.IDs, id)
	}
	return s, &Source{IDs: slices.Clone(s.IDs)}
}

// Call is one that changes a program: what it has returned, and what it should
// have.
type Call struct {
	Name      string
	Got, Want Result
}

// Counts are how often each call has returned each error.
type Counts map[string]map[api.Errno]int

func (c Counts) Add(name string, e api.Errno) {
	if c[name] == nil {
		c[name] = map[api.Errno]int{}
	}
	c[name][e]++
}

// Want expects that a call has returned each of these errors so often.
func (c Counts) Want(t T, name string, least int, errors ...api.Errno) {
	t.Helper()
	for _, e := range errors {
		if c[name][e] < least {
			t.Errorf("%s: error %d only %d times", name, e, c[name][e])
		}
	}
}

// Randomly makes many calls one after the other, on some programs, and compares
// what each returns with what it should return, and the program with what has
// become of it.
func Randomly(t T, below func(n int) int, programs int, call func(c Changer) Call, compare func(before, after *arena.Arena)) Counts {
	const calls, most = 25, 400
	counts := Counts{}
	for range programs {
		a := Scattered(below, Right(t, author.Program(below)))
		if a.Len() > most {
			continue
		}
		for range calls {
			before := a.Copy()
			c := call(Changer{below, a})
			counts.Add(c.Name, c.Got.Error)
			if !arena.Same(a, before) {
				t.Fatalf("%s has changed its argument", c.Name)
			}
			WantResult(t, c.Name, c.Got, c.Want)
			if c.Got.Error == api.OK {
				a = c.Got.Arena
				compare(before, a)
			}
			if t.Failed() {
				fail(t, c.Name, before, a)
			}
		}
	}
	return counts
}

func fail(t T, what string, before, after *arena.Arena) {
	t.Helper()
	printed, _ := text.Print(before)
	changed, _ := text.Print(after)
	t.Fatalf("%s of\n%s\nhas made\n%s", what, printed, changed)
}

// Garbled returns a copy of a program, which has the IDs 1, 2, .., in which some
// nodes are like others, or have more children.
func Garbled(below func(n int) int, a *arena.Arena) *arena.Arena {
	b := a.Copy()
	for range 1 + below(3) {
		id := Some(below, a)
		n, _ := b.Get(Some(below, a))
		if below(2) == 0 {
			n.Kids = append(n.Kids, Some(below, a), Some(below, a))
		}
		b.Put(id, n)
	}
	return b
}

// WantForm makes calls with garbled programs, and expects ErrForm for those that
// are not right. The calls choose nodes by some.
func WantForm(t T, below func(n int) int, program string, calls func(a *arena.Arena, some func() api.ID) map[string]Result) {
	t.Helper()
	for range 500 {
		a := Garbled(below, Right(t, program))
		for what, got := range calls(a, func() api.ID { return Some(below, a) }) {
			if check.Right(a) != api.OK {
				WantError(t, what, got, api.ErrForm)
			}
			if (got.Arena == nil) != (got.Error != api.OK) {
				t.Errorf("%s: error %d with %v", what, got.Error, got.Arena)
			}
		}
	}
}

// Some returns a node of a program that has the IDs 1, 2, .., rarely 0 or the
// next one.
func Some(below func(n int) int, a *arena.Arena) api.ID {
	return api.ID(below(a.Len() + 2))
}
