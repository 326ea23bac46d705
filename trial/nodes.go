package trial

import (
	"slices"

	"hourglass/api"
	"hourglass/arena"
	"hourglass/check"
)

// Nodes are those of an arena, for models.
type Nodes map[api.ID]api.Node

func NodesOf(a *arena.Arena) Nodes {
	m := Nodes{}
	for _, id := range a.IDs() {
		m[id], _ = a.Get(id)
	}
	return m
}

func (m Nodes) Arena() *arena.Arena {
	a := arena.New()
	a.Drop(a.Root())
	for id, n := range m {
		a.Put(id, n)
	}
	return a
}

// End is what a call returns that has made these nodes.
func (m Nodes) End() Result {
	a := m.Arena()
	if e := check.Right(a); e != api.OK {
		return Fail(e)
	}
	return Of(a, api.OK)
}

// Below returns a node and everything below it, for programs that are Trees.
func (m Nodes) Below(id api.ID) []api.ID {
	l := []api.ID{id}
	for _, kid := range m[id].Kids {
		l = append(l, m.Below(kid)...)
	}
	return l
}

// Parent looks at all nodes, and returns the one with the smallest ID.
func (m Nodes) Parent(id api.ID) (api.ID, int) {
	parent, at := api.ID(0), 0
	for other, n := range m {
		if i := slices.Index(n.Kids, id); i >= 0 && (parent == 0 || other < parent) {
			parent, at = other, i
		}
	}
	return parent, at
}

// Set gives a node other children.
func (m Nodes) Set(id api.ID, kids ...api.ID) {
	n := m[id]
	n.Kids = kids
	m[id] = n
}

// Replace puts a node where another one is.
func (m Nodes) Replace(old, id api.ID) {
	parent, at := m.Parent(old)
	kids := slices.Clone(m[parent].Kids)
	kids[at] = id
	m.Set(parent, kids...)
}

// Join makes a node the last child of another one.
func (m Nodes) Join(parent, id api.ID) {
	m.Set(parent, append(slices.Clone(m[parent].Kids), id)...)
}

// Off takes a node off its parent, and keeps it.
func (m Nodes) Off(id api.ID) {
	parent, at := m.Parent(id)
	m.Set(parent, slices.Delete(slices.Clone(m[parent].Kids), at, at+1)...)
}

// Drop removes a node and everything below it.
func (m Nodes) Drop(id api.ID) {
	for _, below := range m.Below(id) {
		delete(m, below)
	}
}

func (m Nodes) Has(id api.ID) bool {
	_, ok := m[id]
	return ok
}

// Add makes a new node. It reports whether there is an ID for it.
func (m Nodes) Add(n api.Node, s *Source) (api.ID, bool) {
	id, ok := s.Next()
	if !ok || id == 0 || m.Has(id) {
		return 0, false
	}
	m[id] = n
	return id, true
}

// Clone makes new nodes that are equal to one and everything below it. A Var
// that refers to one of the keys of with becomes a clone of what that maps to.
// There is none of a node that is below itself.
func (m Nodes) Clone(id api.ID, with map[api.ID]api.ID, s *Source, above ...api.ID) (api.ID, bool) {
	n := m[id]
	if !m.Has(id) || slices.Contains(above, id) {
		return 0, false
	}
	if n.Kind == arena.Var && with[n.Ref] != 0 {
		return m.Clone(with[n.Ref], nil, s)
	}
	var kids []api.ID
	for _, kid := range n.Kids {
		clone, ok := m.Clone(kid, with, s, append(above, id)...)
		if !ok {
			return 0, false
		}
		kids = append(kids, clone)
	}
	n.Kids = kids
	return m.Add(n, s)
}

func (m Nodes) IsExpression(id api.ID) bool {
	kind := m[id].Kind
	return kind >= arena.Int && kind <= arena.Read
}

// IsSafe is for expressions.
func (m Nodes) IsSafe(id api.ID) bool {
	const divide, remainder = 4, 5
	return !slices.ContainsFunc(m.Below(id), func(id api.ID) bool {
		n := m[id]
		return n.Kind == arena.Call || n.Kind == arena.Read || n.Kind == arena.Bin && (n.Num == divide || n.Num == remainder)
	})
}
