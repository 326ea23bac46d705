package local_test

import (
	"maps"
	"math/rand"
	"slices"
	"testing"

	"hourglass/api"
	"hourglass/arena"
	"hourglass/check"
	"hourglass/local"
	"hourglass/token"
	"hourglass/trial"
)

// model is the nodes of a program that is right. Its methods do what is promised
// as literally as possible.
type model struct {
	trial.Nodes
}

func (m model) assigned(v api.ID) bool {
	for _, n := range m.Nodes {
		if n.Kind == arena.Assign && n.Ref == v {
			return true
		}
	}
	return false
}

func (m model) extract(e api.ID, name string, s *trial.Source) trial.Result {
	if !m.IsExpression(e) {
		return trial.Fail(api.ErrNone)
	}
	if !token.IsName(name) {
		return trial.Fail(api.ErrName)
	}
	statement := e
	block, at := m.Parent(statement)
	for m.Nodes[block].Kind != arena.Block {
		statement = block
		block, at = m.Parent(statement)
	}
	if !m.IsSafe(e) || m.Nodes[statement].Kind == arena.While {
		return trial.Fail(api.ErrUnsafe)
	}
	let, ok := m.Add(api.Node{Kind: arena.Let, Name: name, Type: check.Type(m.Arena(), e)}, s)
	v, also := m.Add(api.Node{Kind: arena.Var, Ref: let}, s)
	if !ok || !also {
		return trial.Fail(api.ErrFull)
	}
	m.Replace(e, v)
	m.Set(let, e)
	m.Set(block, slices.Insert(slices.Clone(m.Nodes[block].Kids), at, let)...)
	return m.End()
}

func (m model) inline(let api.ID, s *trial.Source) trial.Result {
	n := m.Nodes[let]
	if n.Kind != arena.Let {
		return trial.Fail(api.ErrNone)
	}
	e := n.Kids[0]
	changing := func(id api.ID) bool {
		n := m.Nodes[id]
		return n.Kind == arena.Var && m.assigned(n.Ref)
	}
	if m.assigned(let) || !m.IsSafe(e) || slices.ContainsFunc(m.Below(e), changing) {
		return trial.Fail(api.ErrUnsafe)
	}
	for _, id := range slices.Sorted(maps.Keys(m.Nodes)) {
		if n := m.Nodes[id]; n.Kind != arena.Var || n.Ref != let {
			continue
		}
		clone, ok := m.Clone(e, nil, s)
		if !ok {
			return trial.Fail(api.ErrFull)
		}
		m.Replace(id, clone)
		m.Drop(id)
	}
	m.Off(let)
	m.Drop(let)
	return m.End()
}

func change(c trial.Changer) trial.Call {
	m := model{trial.NodesOf(c.Arena)}
	s, other := c.Sources()
	if c.Below(2) == 0 {
		let := c.Pick(arena.Let)
		return trial.Call{Name: "Inline", Got: trial.Of(local.Inline(c.Arena, let, s.Next)), Want: m.inline(let, other)}
	}
	e := c.Pick(arena.Int, arena.Bool, arena.Var, arena.Not, arena.Neg, arena.Bin, arena.Bin, arena.Call)
	name := c.One("x", "y", "z", "w", "p", "q", "v1", "n", "while", "")
	return trial.Call{Name: "Extract", Got: trial.Of(local.Extract(c.Arena, e, name, s.Next)), Want: m.extract(e, name, other)}
}

// TestRandomly compares each call with the model, and what the program does
// before and after it.
func TestRandomly(t *testing.T) {
	r := rand.New(rand.NewSource(1))
	counts := trial.Randomly(t, r.Intn, 150, change, func(before, after *arena.Arena) {
		trial.WantAlike(t, before, after, trial.Input(r.Intn), 2000, 2)
	})
	counts.Want(t, "Extract", 10, api.OK, api.ErrNone, api.ErrName, api.ErrUnsafe, api.ErrFull, api.ErrClash)
	counts.Want(t, "Inline", 10, api.OK, api.ErrNone, api.ErrUnsafe, api.ErrFull)
}
