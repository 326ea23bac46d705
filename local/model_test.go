package local_test

import (
	"maps"
	"math"
	"math/rand"
	"slices"
	"testing"

	"hourglass/api"
	"hourglass/arena"
	"hourglass/author"
	"hourglass/check"
	"hourglass/local"
	"hourglass/text"
	"hourglass/token"
	"hourglass/trial"
)

// model is the nodes of a program that is right. Its methods do what is promised
// as literally as possible.
type model struct {
	trial.Nodes
}

// set gives a node other children.
func (m model) set(id api.ID, kids ...api.ID) {
	n := m.Nodes[id]
	n.Kids = kids
	m.Nodes[id] = n
}

// swap puts a node where another one is.
func (m model) swap(old, id api.ID) {
	parent, at := m.Parent(old)
	kids := slices.Clone(m.Nodes[parent].Kids)
	kids[at] = id
	m.set(parent, kids...)
}

// add reports whether there is an ID and room for a new node.
func (m model) add(n api.Node, s *trial.Source) (api.ID, bool) {
	id, ok := s.Next()
	if _, exists := m.Nodes[id]; !ok || id == 0 || exists {
		return 0, false
	}
	m.Nodes[id] = n
	return id, true
}

func (m model) expression(id api.ID) bool {
	kind := m.Nodes[id].Kind
	return kind >= arena.Int && kind <= arena.Read
}

func (m model) safe(id api.ID) bool {
	return !slices.ContainsFunc(m.Below(id), func(id api.ID) bool {
		n := m.Nodes[id]
		return n.Kind == arena.Call || n.Kind == arena.Read || n.Kind == arena.Bin && (n.Num == 4 || n.Num == 5)
	})
}

func (m model) assigned(v api.ID) bool {
	for _, n := range m.Nodes {
		if n.Kind == arena.Assign && n.Ref == v {
			return true
		}
	}
	return false
}

func (m model) extract(e api.ID, name string, s *trial.Source) trial.Result {
	if !m.expression(e) {
		return trial.Fail(api.ErrNone)
	}
	if !token.IsName(name) {
		return trial.Fail(api.ErrName)
	}
	statement := e
	block, at := m.Parent(statement)
	for m.Nodes[block].Kind != arena.Block {
		statement = block
		block, at = m.Parent(statement)
	}
	if !m.safe(e) || m.Nodes[statement].Kind == arena.While {
		return trial.Fail(api.ErrUnsafe)
	}
	let, ok := m.add(api.Node{Kind: arena.Let, Name: name, Type: check.Type(m.Arena(), e)}, s)
	v, also := m.add(api.Node{Kind: arena.Var, Ref: let}, s)
	if !ok || !also {
		return trial.Fail(api.ErrFull)
	}
	m.swap(e, v)
	m.set(let, e)
	m.set(block, slices.Insert(slices.Clone(m.Nodes[block].Kids), at, let)...)
	return m.End()
}

func (m model) clone(id api.ID, s *trial.Source) (api.ID, bool) {
	n := m.Nodes[id]
	var kids []api.ID
	for _, kid := range n.Kids {
		clone, ok := m.clone(kid, s)
		if !ok {
			return 0, false
		}
		kids = append(kids, clone)
	}
	n.Kids = kids
	return m.add(n, s)
}

func (m model) inline(let api.ID, s *trial.Source) trial.Result {
	n := m.Nodes[let]
	if n.Kind != arena.Let {
		return trial.Fail(api.ErrNone)
	}
	e := n.Kids[0]
	changing := func(id api.ID) bool {
		n := m.Nodes[id]
		return n.Kind == arena.Var && m.assigned(n.Ref)
	}
	if m.assigned(let) || !m.safe(e) || slices.ContainsFunc(m.Below(e), changing) {
		return trial.Fail(api.ErrUnsafe)
	}
	for _, id := range slices.Sorted(maps.Keys(m.Nodes)) {
		if n := m.Nodes[id]; n.Kind != arena.Var || n.Ref != let {
			continue
		}
		clone, ok := m.clone(e, s)
		if !ok {
			return trial.Fail(api.ErrFull)
		}
		m.swap(id, clone)
		delete(m.Nodes, id)
	}
	block, at := m.Parent(let)
	m.set(block, slices.Delete(slices.Clone(m.Nodes[block].Kids), at, at+1)...)
	for _, id := range m.Below(let) {
		delete(m.Nodes, id)
	}
	return m.End()
}

// changer makes random calls.
type changer struct {
	r *rand.Rand
	a *arena.Arena
}

// pick returns a node, mostly one of these kinds, and rarely none.
func (c changer) pick(kinds ...byte) api.ID {
	var l []api.ID
	for id, n := range c.a.Walk(1) {
		if slices.Contains(kinds, n.Kind) || c.r.Intn(100) == 0 {
			l = append(l, id)
		}
	}
	if len(l) == 0 || c.r.Intn(50) == 0 {
		return []api.ID{0, 1, 3, 65537, math.MaxUint64}[c.r.Intn(5)]
	}
	return l[c.r.Intn(len(l))]
}

// sources returns the same IDs twice. Mostly, none of them exists.
func (c changer) sources() (*trial.Source, *trial.Source) {
	s := &trial.Source{}
	for range []int{0, 1, 2, 200, 200, 200, 200, 200}[c.r.Intn(8)] {
		id := api.ID(c.r.Uint64() >> c.r.Intn(50))
		if c.r.Intn(200) == 0 {
			id = c.pick(arena.Var, arena.Let)
		}
		s.IDs = append(s.IDs, id)
	}
	return s, &trial.Source{IDs: slices.Clone(s.IDs)}
}

// change returns which call it makes, what that returns, and what it should.
func (c changer) change() (what string, got, want trial.Result) {
	m := model{trial.NodesOf(c.a)}
	s, other := c.sources()
	if c.r.Intn(2) == 0 {
		let := c.pick(arena.Let)
		return "Inline", trial.Of(local.Inline(c.a, let, s.Next)), m.inline(let, other)
	}
	e := c.pick(arena.Int, arena.Bool, arena.Var, arena.Not, arena.Neg, arena.Bin, arena.Bin, arena.Call)
	name := []string{"x", "y", "z", "w", "p", "q", "v1", "n", "while", ""}[c.r.Intn(10)]
	return "Extract", trial.Of(local.Extract(c.a, e, name, s.Next)), m.extract(e, name, other)
}

// TestRandomly makes many calls one after the other, compares each with the
// model, and what the program does before and after it.
func TestRandomly(t *testing.T) {
	r := rand.New(rand.NewSource(1))
	counts := map[string]map[api.Errno]int{"Extract": {}, "Inline": {}}
	for range 150 {
		c := changer{r, trial.Scattered(r.Intn, trial.Right(t, author.Program(r.Intn)))}
		if c.a.Len() > 400 {
			continue
		}
		for range 25 {
			before := c.a.Copy()
			what, got, want := c.change()
			counts[what][got.Error]++
			if !arena.Same(c.a, before) {
				t.Fatalf("%s has changed its argument", what)
			}
			trial.WantResult(t, what, got, want)
			if got.Error == api.OK {
				c.a = got.Arena
				trial.WantAlike(t, before, c.a, trial.Input(r.Intn), 2000, 2)
			}
			if t.Failed() {
				printed, _ := text.Print(before)
				changed, _ := text.Print(c.a)
				t.Fatalf("%s of\n%s\nhas made\n%s", what, printed, changed)
			}
		}
	}
	for what, errors := range map[string][]api.Errno{
		"Extract": {api.OK, api.ErrNone, api.ErrName, api.ErrUnsafe, api.ErrFull, api.ErrClash},
		"Inline":  {api.OK, api.ErrNone, api.ErrUnsafe, api.ErrFull},
	} {
		for _, e := range errors {
			if counts[what][e] < 10 {
				t.Errorf("%s: error %d only %d times", what, e, counts[what][e])
			}
		}
	}
}
