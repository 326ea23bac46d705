package name_test

import (
	"math"
	"math/rand"
	"slices"
	"testing"

	"hourglass/api"
	"hourglass/arena"
	"hourglass/author"
	"hourglass/name"
	"hourglass/op"
	"hourglass/run"
	"hourglass/text"
	"hourglass/token"
	"hourglass/trial"
)

// model is the nodes of a program that is right. Its methods do what is
// promised as literally as possible.
type model map[api.ID]api.Node

func modelled(a *arena.Arena) model {
	return model(trial.NodesOf(a))
}

func (m model) end() trial.Result {
	return trial.Nodes(m).End()
}

func (m model) rename(kind byte, id api.ID, name string) trial.Result {
	n, ok := m[id]
	if !ok || n.Kind != kind || n.Name == "" {
		return trial.Fail(api.ErrNone)
	}
	if !token.IsName(name) {
		return trial.Fail(api.ErrName)
	}
	n.Name = name
	m[id] = n
	return m.end()
}

// set gives a node other children: those that keep keeps, and more.
func (m model) set(id api.ID, keep func(kid api.ID) bool, more ...api.ID) {
	n := m[id]
	var kids []api.ID
	for _, kid := range n.Kids {
		if keep(kid) {
			kids = append(kids, kid)
		}
	}
	n.Kids = append(kids, more...)
	m[id] = n
}

// off takes a node off all others.
func (m model) off(id api.ID) {
	for other := range m {
		m.set(other, func(kid api.ID) bool { return kid != id })
	}
}

func all(api.ID) bool { return true }

func (m model) move(f, module api.ID) trial.Result {
	if m[f].Kind != arena.Func || m[module].Kind != arena.Module {
		return trial.Fail(api.ErrNone)
	}
	m.off(f)
	m.set(module, all, f)
	return m.end()
}

func (m model) addModule(name string, id api.ID) trial.Result {
	if !token.IsName(name) {
		return trial.Fail(api.ErrName)
	}
	if _, exists := m[id]; exists {
		return trial.Fail(api.ErrFull)
	}
	m.set(1, all, id)
	m[id] = api.Node{Kind: arena.Module, Name: name}
	return m.end()
}

func (m model) dropModule(module api.ID) trial.Result {
	if m[module].Kind != arena.Module {
		return trial.Fail(api.ErrNone)
	}
	if len(m[module].Kids) > 0 {
		return trial.Fail(api.ErrUsed)
	}
	m.off(module)
	delete(m, module)
	return m.end()
}

func (m model) dropFunc(f api.ID) trial.Result {
	if m[f].Kind != arena.Func {
		return trial.Fail(api.ErrNone)
	}
	inside := trial.Nodes(m).Below(f)
	for id, n := range m {
		if n.Kind == arena.Call && n.Ref == f && !slices.Contains(inside, id) {
			return trial.Fail(api.ErrUsed)
		}
	}
	m.off(f)
	for _, id := range inside {
		delete(m, id)
	}
	return m.end()
}

// changer makes random calls.
type changer struct {
	r *rand.Rand
	a *arena.Arena
}

// pick returns a node, mostly one of a kind, and rarely none.
func (c changer) pick(kind byte) api.ID {
	var l []api.ID
	for id, n := range c.a.Walk(1) {
		if n.Kind == kind || c.r.Intn(200) == 0 {
			l = append(l, id)
		}
	}
	if len(l) == 0 || c.r.Intn(20) == 0 {
		return []api.ID{0, 1, 3, 65537, math.MaxUint64}[c.r.Intn(5)]
	}
	return l[c.r.Intn(len(l))]
}

// name returns a name, mostly one that occurs for nodes of the kind.
func (c changer) name(kind byte) string {
	l := []string{"x", "y", "z", "while", ""}
	switch kind {
	case arena.Module:
		l = append(l, "a", "b", "main")
	case arena.Func:
		l = append(l, "f0", "f1", "f0", "f1", "f0", "f1", "f2", "main")
	default:
		l = append(l, "n", "i1", "v1", "v2", "a", "f0")
	}
	return l[c.r.Intn(len(l))]
}

// change returns which call it makes, what that returns, and what it should.
func (c changer) change() (what string, got, want trial.Result) {
	m := modelled(c.a)
	switch c.r.Intn(8) {
	case 0:
		to, stamp := c.name(arena.Module), uint32(1+c.r.Intn(5))
		return "AddModule " + to, trial.Of(name.AddModule(c.a, to, op.Fresh(stamp))), m.addModule(to, api.ID(stamp)*65536+1)
	case 1:
		id := c.pick(arena.Module)
		return "DropModule", trial.Of(name.DropModule(c.a, id)), m.dropModule(id)
	case 2:
		id := c.pick(arena.Func)
		return "DropFunc", trial.Of(name.DropFunc(c.a, id)), m.dropFunc(id)
	case 3, 4:
		f, module := c.pick(arena.Func), c.pick(arena.Module)
		return "Move", trial.Of(name.Move(c.a, f, module)), m.move(f, module)
	}
	kind := []byte{arena.Module, arena.Func, arena.Param, arena.Let}[c.r.Intn(4)]
	id, to := c.pick(kind), c.name(kind)
	return "Rename to " + to, trial.Of(name.Rename(c.a, kind, id, to)), m.rename(kind, id, to)
}

// wantSameRuns compares all that a run tells, with some inputs and fuels.
func wantSameRuns(t *testing.T, r *rand.Rand, a, b *arena.Arena) {
	t.Helper()
	for range 3 {
		var input []int64
		for range r.Intn(8) {
			input = append(input, []int64{0, 1, 2, 3, -1, math.MinInt64, r.Int63()}[r.Intn(7)])
		}
		whole := wantSameRun(t, a, b, input, 3000)
		wantSameRun(t, a, b, input, whole.Used-1)
		wantSameRun(t, a, b, input, r.Intn(whole.Used+1))
	}
}

func wantSameRun(t *testing.T, a, b *arena.Arena, input []int64, fuel int) run.Result {
	t.Helper()
	want, got := run.Run(a, input, fuel), run.Run(b, input, fuel)
	if got.End != want.End || got.Value != want.Value || !slices.Equal(got.Trace, want.Trace) || got.Used != want.Used || got.Read != want.Read {
		t.Errorf("input %d, fuel %d: %+v, want %+v", input, fuel, got, want)
	}
	return want
}

// TestRandomly makes many calls one after the other, compares each with the
// model, and the runs of what they make with those of the first program.
func TestRandomly(t *testing.T) {
	r := rand.New(rand.NewSource(1))
	counts := map[string]map[api.Errno]int{}
	for range 100 {
		first := trial.Right(t, author.Program(r.Intn))
		c := changer{r, first}
		for range 30 {
			before := c.a.Copy()
			what, got, want := c.change()
			sort := what[:4]
			if counts[sort] == nil {
				counts[sort] = map[api.Errno]int{}
			}
			counts[sort][got.Error]++
			if !arena.Same(c.a, before) {
				t.Fatalf("%s has changed its argument", what)
			}
			trial.WantResult(t, what, got, want)
			if t.Failed() {
				printed, _ := text.Print(before)
				t.Fatalf("in\n%s", printed)
			}
			if got.Error == api.OK {
				c.a = got.Arena
			}
		}
		wantSameRuns(t, r, first, c.a)
		if t.Failed() {
			printed, _ := text.Print(first)
			changed, _ := text.Print(c.a)
			t.Fatalf("%s\nhas become\n%s", printed, changed)
		}
	}
	for sort, errors := range map[string][]api.Errno{
		"Rena": {api.OK, api.ErrNone, api.ErrName, api.ErrClash},
		"Move": {api.OK, api.ErrNone, api.ErrClash},
		"AddM": {api.OK, api.ErrName, api.ErrFull, api.ErrClash},
		"Drop": {api.OK, api.ErrNone, api.ErrUsed},
	} {
		for _, e := range errors {
			if counts[sort][e] < 5 {
				t.Errorf("%s: error %d only %d times", sort, e, counts[sort][e])
			}
		}
	}
}
