package name_test

import (
	"math"
	"math/rand"
	"slices"
	"testing"

	"hourglass/api"
	"hourglass/arena"
	"hourglass/author"
	"hourglass/check"
	"hourglass/name"
	"hourglass/op"
	"hourglass/run"
	"hourglass/text"
	"hourglass/token"
)

// model is the nodes of a program that is right. Its methods do what is
// promised as literally as possible.
type model map[api.ID]api.Node

func modelled(a *arena.Arena) model {
	m := model{}
	for _, id := range a.IDs() {
		m[id], _ = a.Get(id)
	}
	return m
}

func (m model) end() result {
	a := arena.New()
	a.Drop(1)
	for id, n := range m {
		a.Put(id, n)
	}
	if e := check.Right(a); e != api.OK {
		return result{nil, e}
	}
	return result{a, api.OK}
}

func fail(e api.Errno) result {
	return result{nil, e}
}

func (m model) rename(kind byte, id api.ID, name string) result {
	n, ok := m[id]
	if !ok || n.Kind != kind || n.Name == "" {
		return fail(api.ErrNone)
	}
	if !token.IsName(name) {
		return fail(api.ErrName)
	}
	n.Name = name
	m[id] = n
	return m.end()
}

// set gives a node other children: those that keep keeps, and more.
func (m model) set(id api.ID, keep func(kid api.ID) bool, more ...api.ID) {
	n := m[id]
	var kids []api.ID
	for _, kid := range n.Kids {
		if keep(kid) {
			kids = append(kids, kid)
		}
	}
	n.Kids = append(kids, more...)
	m[id] = n
}

// off takes a node off all others.
func (m model) off(id api.ID) {
	for other := range m {
		m.set(other, func(kid api.ID) bool { return kid != id })
	}
}

func all(api.ID) bool { return true }

func (m model) move(f, module api.ID) result {
	if m[f].Kind != arena.Func || m[module].Kind != arena.Module {
		return fail(api.ErrNone)
	}
	m.off(f)
	m.set(module, all, f)
	return m.end()
}

func (m model) addModule(name string, id api.ID) result {
	if !token.IsName(name) {
		return fail(api.ErrName)
	}
	if _, exists := m[id]; exists {
		return fail(api.ErrFull)
	}
	m.set(1, all, id)
	m[id] = api.Node{Kind: arena.Module, Name: name}
	return m.end()
}

func (m model) dropModule(module api.ID) result {
	if m[module].Kind != arena.Module {
		return fail(api.ErrNone)
	}
	if len(m[module].Kids) > 0 {
		return fail(api.ErrUsed)
	}
	m.off(module)
	delete(m, module)
	return m.end()
}

// below returns a node and everything below it.
func (m model) below(id api.ID) []api.ID {
	l := []api.ID{id}
	for _, kid := range m[id].Kids {
		l = append(l, m.below(kid)...)
	}
	return l
}

func (m model) dropFunc(f api.ID) result {
	if m[f].Kind != arena.Func {
		return fail(api.ErrNone)
	}
	inside := m.below(f)
	for id, n := range m {
		if n.Kind == arena.Call && n.Ref == f && !slices.Contains(inside, id) {
			return fail(api.ErrUsed)
		}
	}
	m.off(f)
	for _, id := range inside {
		delete(m, id)
	}
	return m.end()
}

// changer makes random calls.
type changer struct {
	r *rand.Rand
	a *arena.Arena
}

// pick returns a node, mostly one of a kind, and rarely none.
func (c changer) pick(kind byte) api.ID {
	var l []api.ID
	for id, n := range c.a.Walk(1) {
		if n.Kind == kind || c.r.Intn(200) == 0 {
			l = append(l, id)
		}
	}
	if len(l) == 0 || c.r.Intn(20) == 0 {
		return []api.ID{0, 1, 3, 65537, math.MaxUint64}[c.r.Intn(5)]
	}
	return l[c.r.Intn(len(l))]
}

// name returns a name, mostly one that occurs for nodes of the kind.
func (c changer) name(kind byte) string {
	l := []string{"x", "y", "z", "while", ""}
	switch kind {
	case arena.Module:
		l = append(l, "a", "b", "main")
	case arena.Func:
		l = append(l, "f0", "f1", "f0", "f1", "f0", "f1", "f2", "main")
	default:
		l = append(l, "n", "i1", "v1", "v2", "a", "f0")
	}
	return l[c.r.Intn(len(l))]
}

// change returns which call it makes, what that returns, and what it should.
func (c changer) change() (what string, got, want result) {
	m := modelled(c.a)
	switch c.r.Intn(8) {
	case 0:
		to, stamp := c.name(arena.Module), uint32(1+c.r.Intn(5))
		return "AddModule " + to, of(name.AddModule(c.a, to, op.Fresh(stamp))), m.addModule(to, api.ID(stamp)*65536+1)
	case 1:
		id := c.pick(arena.Module)
		return "DropModule", of(name.DropModule(c.a, id)), m.dropModule(id)
	case 2:
		id := c.pick(arena.Func)
		return "DropFunc", of(name.DropFunc(c.a, id)), m.dropFunc(id)
	case 3, 4:
		f, module := c.pick(arena.Func), c.pick(arena.Module)
		return "Move", of(name.Move(c.a, f, module)), m.move(f, module)
	}
	kind := []byte{arena.Module, arena.Func, arena.Param, arena.Let}[c.r.Intn(4)]
	id, to := c.pick(kind), c.name(kind)
	return "Rename to " + to, of(name.Rename(c.a, kind, id, to)), m.rename(kind, id, to)
}

// wantSameRuns compares all that a run tells, with some inputs and fuels.
func wantSameRuns(t *testing.T, r *rand.Rand, a, b *arena.Arena) {
	t.Helper()
	for range 3 {
		var input []int64
		for range r.Intn(8) {
			input = append(input, []int64{0, 1, 2, 3, -1, math.MinInt64, r.Int63()}[r.Intn(7)])
		}
		whole := wantSameRun(t, a, b, input, 3000)
		wantSameRun(t, a, b, input, whole.Used-1)
		wantSameRun(t, a, b, input, r.Intn(whole.Used+1))
	}
}

func wantSameRun(t *testing.T, a, b *arena.Arena, input []int64, fuel int) run.Result {
	t.Helper()
	want, got := run.Run(a, input, fuel), run.Run(b, input, fuel)
	if got.End != want.End || got.Value != want.Value || !slices.Equal(got.Trace, want.Trace) || got.Used != want.Used || got.Read != want.Read {
		t.Errorf("input %d, fuel %d: %+v, want %+v", input, fuel, got, want)
	}
	return want
}

// TestRandomly makes many calls one after the other, compares each with the
// model, and the runs of what they make with those of the first program.
func TestRandomly(t *testing.T) {
	r := rand.New(rand.NewSource(1))
	counts := map[string]map[api.Errno]int{}
	for range 100 {
		first := right(t, author.Program(r.Intn))
		c := changer{r, first}
		for range 30 {
			before := c.a.Copy()
			what, got, want := c.change()
			sort := what[:4]
			if counts[sort] == nil {
				counts[sort] = map[api.Errno]int{}
			}
			counts[sort][got.e]++
			if !arena.Same(c.a, before) {
				t.Fatalf("%s has changed its argument", what)
			}
			if got.e != want.e || !arena.Same(got.a, want.a) {
				printed, _ := text.Print(before)
				t.Fatalf("%s: error %d, want error %d, in\n%s", what, got.e, want.e, printed)
			}
			if got.e == api.OK {
				c.a = got.a
			}
		}
		wantSameRuns(t, r, first, c.a)
		if t.Failed() {
			printed, _ := text.Print(first)
			changed, _ := text.Print(c.a)
			t.Fatalf("%s\nhas become\n%s", printed, changed)
		}
	}
	for sort, errors := range map[string][]api.Errno{
		"Rena": {api.OK, api.ErrNone, api.ErrName, api.ErrClash},
		"Move": {api.OK, api.ErrNone, api.ErrClash},
		"AddM": {api.OK, api.ErrName, api.ErrFull, api.ErrClash},
		"Drop": {api.OK, api.ErrNone, api.ErrUsed},
	} {
		for _, e := range errors {
			if counts[sort][e] < 5 {
				t.Errorf("%s: error %d only %d times", sort, e, counts[sort][e])
			}
		}
	}
}
