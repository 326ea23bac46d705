package arena_test

import (
	"maps"
	"math/rand"
	"slices"
	"testing"

	"hourglass/api"
	"hourglass/arena"
)

// model is an arena as the document describes it: each call looks at all nodes.
type model map[api.ID]api.Node

func (m model) ids() []api.ID {
	return slices.Sorted(maps.Keys(m))
}

func (m model) parent(id api.ID) (api.ID, int) {
	for _, parent := range m.ids() {
		if at := slices.Index(m[parent].Kids, id); at >= 0 {
			return parent, at
		}
	}
	return 0, 0
}

func (m model) walk(id api.ID, seen []api.ID) []api.ID {
	n, ok := m[id]
	if !ok || slices.Contains(seen, id) {
		return seen
	}
	seen = append(seen, id)
	for _, kid := range n.Kids {
		seen = m.walk(kid, seen)
	}
	return seen
}

func (m model) drop(id api.ID) int {
	l := m.walk(id, nil)
	for _, id := range l {
		delete(m, id)
	}
	return len(l)
}

func (m model) above(id api.ID, kind byte) api.ID {
	var seen []api.ID
	for !slices.Contains(seen, id) {
		n, ok := m[id]
		if ok && n.Kind == kind {
			return id
		}
		if !ok {
			return 0
		}
		seen = append(seen, id)
		id, _ = m.parent(id)
	}
	return 0
}

func (m model) tree() bool {
	if n, ok := m[1]; !ok || n.Kind != arena.Program {
		return false
	}
	times := map[api.ID]int{}
	for _, n := range m {
		if _, ok := m[n.Ref]; n.Ref != 0 && !ok {
			return false
		}
		for _, kid := range n.Kids {
			times[kid]++
			if _, ok := m[kid]; !ok {
				return false
			}
		}
	}
	for id := range m {
		if id != 1 && times[id] != 1 {
			return false
		}
	}
	return times[1] == 0 && len(m.walk(1, nil)) == len(m) && m.depth(1) <= api.MaxDepth
}

// depth ends for what has no rings.
func (m model) depth(id api.ID) int {
	d := 0
	for _, kid := range m[id].Kids {
		d = max(d, m.depth(kid))
	}
	return d + 1
}

// pairs maps one Tree's IDs to those of another, child by child; false if they
// do not have equally many children everywhere.
func pairs(m, o model, x, y api.ID, l map[api.ID]api.ID) bool {
	l[x] = y
	if len(m[x].Kids) != len(o[y].Kids) {
		return false
	}
	for i := range m[x].Kids {
		if !pairs(m, o, m[x].Kids[i], o[y].Kids[i], l) {
			return false
		}
	}
	return true
}

func (m model) same(o model) bool {
	return maps.EqualFunc(m, o, same)
}

func (m model) alike(o model) bool {
	if !m.tree() || !o.tree() {
		return m.same(o)
	}
	l := map[api.ID]api.ID{}
	if !pairs(m, o, 1, 1, l) || len(m) != len(o) {
		return false
	}
	l[0] = 0
	for x, n := range m {
		n.Ref, n.Kids = l[n.Ref], o[l[x]].Kids
		if !same(n, o[l[x]]) {
			return false
		}
	}
	return true
}

// compare checks all that can be asked of IDs up to most.
func compare(t *testing.T, a *arena.Arena, m model, most api.ID) {
	t.Helper()
	wantIDs(t, a, m.ids()...)
	if got := a.Tree(); got != m.tree() {
		t.Fatalf("Tree of %v: %v", m, got)
	}
	for id := range most + 1 {
		if n, ok := m[id]; ok {
			wantNode(t, a, id, n)
		} else {
			wantAbsent(t, a, id)
		}
		parent, at := m.parent(id)
		wantParent(t, a, id, parent, at)
		wantWalk(t, a, id, m.walk(id, nil)...)
		for kind := range byte(4) {
			if got, want := a.Above(id, kind), m.above(id, kind); got != want {
				t.Fatalf("Above(%d, %d) in %v: %d, want %d", id, kind, m, got, want)
			}
		}
	}
}

func randomNode(random *rand.Rand, most int) api.Node {
	n := api.Node{Kind: byte(random.Intn(4)), Num: int64(random.Intn(2))}
	for range random.Intn(4) {
		n.Kids = append(n.Kids, api.ID(random.Intn(most+1)))
	}
	if random.Intn(4) == 0 {
		n.Ref = api.ID(random.Intn(most + 1))
	}
	return n
}

// TestRandomArenas has children that are no nodes, are shared, or form rings.
func TestRandomArenas(t *testing.T) {
	random := rand.New(rand.NewSource(2))
	for range 300 {
		most := 2 + random.Intn(8)
		a, m := arena.New(), model{1: {Kind: arena.Program}}
		for range 60 {
			id := api.ID(1 + random.Intn(most))
			switch random.Intn(8) {
			case 0:
				if got, want := a.Drop(id), m.drop(id); got != want {
					t.Fatalf("Drop of %d: %d, want %d", id, got, want)
				}
			case 1:
				a = a.Copy()
			case 2:
				b, e := arena.Parse(a.Bytes())
				if e != api.OK {
					t.Fatalf("Parse: error %d", e)
				}
				a = b
			default:
				n := randomNode(random, most)
				if e := a.Put(id, n); e != api.OK {
					t.Fatal(e)
				}
				m[id] = n
			}
			compare(t, a, m, api.ID(most+1))
		}
	}
}

// randomTree returns a Tree whose IDs are in any order.
func randomTree(random *rand.Rand, size int) model {
	m := model{1: {Kind: arena.Program}}
	ids := []api.ID{1}
	for _, at := range random.Perm(size) {
		id := api.ID(at + 2)
		parent := ids[random.Intn(len(ids))]
		n := m[parent]
		n.Kids = slices.Insert(slices.Clone(n.Kids), random.Intn(len(n.Kids)+1), id)
		m[parent] = n
		m[id] = api.Node{Kind: byte(random.Intn(2) * arena.Module), Ref: ids[random.Intn(len(ids))] * api.ID(random.Intn(2))}
		ids = append(ids, id)
	}
	return m
}

// shuffled returns a model with other IDs, except the root's.
func (m model) shuffled(random *rand.Rand) model {
	ids := m.ids()
	names := map[api.ID]api.ID{1: 1}
	for i, at := range random.Perm(len(ids) - 1) {
		names[ids[i+1]] = ids[at+1]
	}
	o := model{}
	for id, n := range m {
		n.Ref = names[n.Ref]
		n.Kids = slices.Clone(n.Kids)
		for i, kid := range n.Kids {
			n.Kids[i] = names[kid]
		}
		o[names[id]] = n
	}
	return o
}

// TestRandomTrees compares small Trees with others, with renamed ones, and
// with such as were changed in one node.
func TestRandomTrees(t *testing.T) {
	random := rand.New(rand.NewSource(3))
	alike := 0
	for range 6000 {
		size := random.Intn(8)
		m := randomTree(random, size)
		o := m.shuffled(random)
		if random.Intn(3) == 0 {
			o = randomTree(random, size)
		}
		if random.Intn(3) == 0 {
			id := api.ID(1 + random.Intn(size+1))
			n := m[id]
			n.Kids = slices.Clone(n.Kids)
			if len(n.Kids) > 0 && random.Intn(2) == 0 {
				n.Kids[random.Intn(len(n.Kids))] = api.ID(random.Intn(size + 3))
			} else {
				n.Ref = api.ID(random.Intn(size + 3))
			}
			m[id] = n
		}
		a, b := program(t, m), program(t, o)
		compare(t, a, m, api.ID(size+2))
		compare(t, b, o, api.ID(size+2))
		if got := arena.Same(a, b); got != m.same(o) {
			t.Fatalf("Same of %v and %v: %v", m, o, got)
		}
		if got := arena.Alike(a, b); got != m.alike(o) || arena.Alike(b, a) != got {
			t.Fatalf("Alike of %v and %v: %v", m, o, got)
		}
		if m.alike(o) && !m.same(o) {
			alike++
		}
	}
	if alike < 1000 {
		t.Fatalf("only %d were alike", alike)
	}
}

// TestManyChildren changes long rows of children in one place.
func TestManyChildren(t *testing.T) {
	random := rand.New(rand.NewSource(4))
	a, m := arena.New(), model{1: {Kind: arena.Program}}
	for range 2000 {
		id := api.ID(1 + random.Intn(3))
		l := slices.Clone(m[id].Kids)
		from := random.Intn(len(l) + 1)
		to := min(len(l), from+random.Intn(3))
		var kids []api.ID
		for range random.Intn(4) {
			kids = append(kids, api.ID(2+random.Intn(12)))
		}
		l = slices.Replace(l, from, to, kids...)
		a.Put(id, api.Node{Kids: l})
		m[id] = api.Node{Kids: l}
		for id := range api.ID(15) {
			parent, at := m.parent(id)
			wantParent(t, a, id, parent, at)
		}
	}
}
