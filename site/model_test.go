package site_test

import (
	"math/rand"
	"slices"
	"testing"

	"hourglass/api"
	"hourglass/arena"
	"hourglass/author"
	"hourglass/check"
	"hourglass/site"
	"hourglass/trial"
)

// model does what is promised as literally as possible.
type model struct {
	trial.Nodes
}

func (m model) statement(id api.ID) place {
	var passed []api.ID
	for id != 0 && !slices.Contains(passed, id) {
		passed = append(passed, id)
		parent, at := m.Parent(id)
		if m.Nodes[parent].Kind == arena.Block {
			return place{id, parent, at}
		}
		id = parent
	}
	return place{}
}

func (m model) replace(old, id api.ID) bool {
	parent, _ := m.Parent(old)
	if parent == 0 || !m.Has(id) {
		return false
	}
	m.Replace(old, id)
	return true
}

func (m model) insert(under api.ID, at int, id api.ID) bool {
	kids := m.Nodes[under].Kids
	if !m.Has(under) || !m.Has(id) || at < 0 || at > len(kids) {
		return false
	}
	m.Set(under, slices.Concat(kids[:at], []api.ID{id}, kids[at:])...)
	return true
}

func (m model) remove(id api.ID) bool {
	parent, _ := m.Parent(id)
	if parent == 0 {
		return false
	}
	var kids []api.ID
	for _, kid := range m.Nodes[parent].Kids {
		if kid != id {
			kids = append(kids, kid)
		}
	}
	m.Set(parent, kids...)
	return true
}

func (m model) free(id api.ID) []api.ID {
	var passed, l []api.ID
	var down func(id api.ID)
	down = func(id api.ID) {
		if slices.Contains(passed, id) {
			return
		}
		passed = append(passed, id)
		n := m.Nodes[id]
		if n.Kind == arena.Var && !slices.Contains(l, n.Ref) {
			l = append(l, n.Ref)
		}
		for _, kid := range n.Kids {
			down(kid)
		}
	}
	down(id)
	return l
}

// changer makes random calls, of an arena and of its model.
type changer struct {
	r      *rand.Rand
	a      *arena.Arena
	m      model
	counts map[string]int
}

// pick returns a node, mostly one that exists.
func (c changer) pick() api.ID {
	if c.r.Intn(30) == 0 {
		return api.ID(c.r.Uint64() >> c.r.Intn(64))
	}
	l := c.a.IDs()
	return l[c.r.Intn(len(l))]
}

// sources returns the same IDs twice. Mostly, none of them exists.
func (c changer) sources() (*trial.Source, *trial.Source) {
	s := &trial.Source{}
	for range c.r.Intn(2) * c.r.Intn(100) {
		id := api.ID(c.r.Uint64() >> c.r.Intn(50))
		if c.r.Intn(500) == 0 {
			id = c.pick()
		}
		s.IDs = append(s.IDs, id)
	}
	return s, &trial.Source{IDs: slices.Clone(s.IDs)}
}

// with maps some variables to expressions.
func (c changer) with() map[api.ID]api.ID {
	with := map[api.ID]api.ID{}
	for range c.r.Intn(10) {
		v, e := c.pick(), c.pick()
		if n, _ := c.a.Get(v); n.Kind == arena.Var {
			v = n.Ref
		}
		if check.Type(c.a, e) != arena.None {
			with[v] = e
		}
	}
	return with
}

func (c changer) want(t *testing.T, what string, got, want bool) {
	t.Helper()
	if got != want {
		t.Fatalf("%s: %v, want %v", what, got, want)
	}
	if got {
		c.counts[what]++
	} else {
		c.counts[what+" fails"]++
	}
}

func (c changer) change(t *testing.T) {
	x, y := c.pick(), c.pick()
	switch c.r.Intn(10) {
	case 0:
		c.want(t, "Replace", site.Replace(c.a, x, y), c.m.replace(x, y))
	case 1:
		n, _ := c.a.Get(x)
		at := c.r.Intn(len(n.Kids)+3) - 1
		c.want(t, "Insert", site.Insert(c.a, x, at, y), c.m.insert(x, at, y))
	case 2:
		c.want(t, "Remove", site.Remove(c.a, x), c.m.remove(x))
	case 3:
		n, _ := c.a.Get(x)
		s, other := c.sources()
		got, ok := site.Make(c.a, n, s.Next)
		want, wanted := c.m.Add(n, other)
		c.want(t, "Make", ok, wanted)
		c.want(t, "Make's ID", got == want, true)
	case 4, 5, 6:
		with := c.with()
		s, other := c.sources()
		before := c.a.Copy()
		got, ok := site.Clone(c.a, x, with, s.Next)
		want, wanted := c.m.Clone(x, with, other)
		c.want(t, "Clone", ok, wanted)
		c.want(t, "Clone's ID", got == want, true)
		if !ok { // which nodes have been created is not promised
			wantOldNodes(t, c.a, before, s.IDs)
			clear(c.m.Nodes)
			for _, id := range c.a.IDs() {
				c.m.Nodes[id], _ = c.a.Get(id)
			}
		}
	}
}

// TestRandomly makes many calls one after the other: what was a program becomes a
// maze.
func TestRandomly(t *testing.T) {
	r := rand.New(rand.NewSource(1))
	counts := map[string]int{}
	for range 250 {
		a := trial.Scattered(r.Intn, trial.Right(t, author.Program(r.Intn)))
		if a.Len() > 200 {
			continue
		}
		c := changer{r, a, model{trial.NodesOf(a)}, counts}
		for range 60 {
			c.change(t)
			id := c.pick()
			wantPlace(t, a, id, c.m.statement(id))
			if got, want := site.Free(a, id), c.m.free(id); !slices.Equal(got, want) {
				t.Errorf("Free of %d: %d, want %d", id, got, want)
			}
			if !arena.Same(a, c.m.Arena()) {
				t.Fatal("the arena is not what it should be")
			}
		}
	}
	for _, what := range []string{"Replace", "Insert", "Remove", "Make", "Clone"} {
		if counts[what] < 50 || counts[what+" fails"] < 10 {
			t.Error("these calls show too little:", what, counts)
		}
	}
}

// TestGarbage: all calls end, whatever the arena and what is mapped to.
func TestGarbage(t *testing.T) {
	r := rand.New(rand.NewSource(1))
	for range 500 {
		a := arena.New()
		some := func() api.ID { return api.ID(r.Intn(12)) }
		for range r.Intn(20) {
			n := api.Node{Kind: byte(r.Intn(22)), Ref: some()}
			for range r.Intn(4) {
				n.Kids = append(n.Kids, some())
			}
			a.Put(some(), n)
		}
		for range 10 {
			site.Statement(a, some())
			site.Free(a, some())
			site.Clone(a, some(), map[api.ID]api.ID{some(): some(), some(): some()}, trial.From(trial.Row(some(), 300)...).Next)
			site.Make(a, api.Node{Kids: []api.ID{some()}}, trial.One(some()))
			site.Replace(a, some(), some())
			site.Insert(a, some(), r.Intn(5)-1, some())
			site.Remove(a, some())
		}
	}
}

// TestGreatClones: each of two children in a row of nodes is the next one, so
// that there is no room for their clones.
func TestGreatClones(t *testing.T) {
	const length = 10000
	a := arena.New()
	for id := api.ID(2); id < length; id++ {
		a.Put(id, api.Node{Kind: arena.Bin, Num: 1, Kids: []api.ID{id + 1, id + 1}})
	}
	a.Put(length, api.Node{Kind: arena.Int})
	if id, ok := site.Clone(a, 2, nil, trial.From(trial.Row(100000, api.MaxNodes+1)...).Next); id != 0 || ok || a.Len() != api.MaxNodes {
		t.Error(id, ok, a.Len())
	}
}
