package outline_test

import (
	"math/rand"
	"slices"
	"testing"

	"hourglass/api"
	"hourglass/arena"
	"hourglass/check"
	"hourglass/outline"
	"hourglass/token"
	"hourglass/trial"
)

// model is the nodes of a program that is right. Its methods do what is promised
// as literally as possible.
type model struct {
	trial.Nodes
}

func (m model) extract(e, module api.ID, name string, s *trial.Source) trial.Result {
	if !m.IsExpression(e) || m.Nodes[module].Kind != arena.Module {
		return trial.Fail(api.ErrNone)
	}
	if !token.IsName(name) {
		return trial.Fail(api.ErrName)
	}
	var free, vars []api.ID
	for _, id := range m.Below(e) {
		n := m.Nodes[id]
		if n.Kind != arena.Var {
			continue
		}
		vars = append(vars, id)
		if !slices.Contains(free, n.Ref) {
			free = append(free, n.Ref)
		}
	}
	full := false
	add := func(n api.Node) api.ID {
		id, ok := m.Add(n, s)
		full = full || !ok
		return id
	}
	f := add(api.Node{Kind: arena.Func, Name: name, Type: check.Type(m.Arena(), e)})
	parameters := map[api.ID]api.ID{}
	for _, v := range free {
		parameters[v] = add(api.Node{Kind: arena.Param, Name: m.Nodes[v].Name, Type: m.Nodes[v].Type})
	}
	block := add(api.Node{Kind: arena.Block})
	result := add(api.Node{Kind: arena.Return})
	call := add(api.Node{Kind: arena.Call, Ref: f})
	for _, v := range free {
		m.Join(call, add(api.Node{Kind: arena.Var, Ref: v}))
	}
	if full {
		return trial.Fail(api.ErrFull)
	}
	m.Replace(e, call)
	for _, v := range free {
		m.Join(f, parameters[v])
	}
	m.Join(f, block)
	m.Join(block, result)
	m.Join(result, e)
	m.Join(module, f)
	for _, id := range vars {
		m.Nodes[id] = api.Node{Kind: arena.Var, Ref: parameters[m.Nodes[id].Ref]}
	}
	return m.End()
}

func (m model) inline(call api.ID, s *trial.Source) trial.Result {
	n := m.Nodes[call]
	if n.Kind != arena.Call {
		return trial.Fail(api.ErrNone)
	}
	f := m.Nodes[n.Ref]
	body := m.Nodes[f.Kids[len(n.Kids)]]
	arguments := map[api.ID]api.ID{}
	safe := true
	for i, id := range n.Kids {
		arguments[f.Kids[i]] = id
		safe = safe && m.IsSafe(id)
	}
	if len(body.Kids) > 1 || !safe {
		return trial.Fail(api.ErrUnsafe)
	}
	id, ok := m.Clone(m.Nodes[body.Kids[0]].Kids[0], arguments, s)
	if !ok {
		return trial.Fail(api.ErrFull)
	}
	m.Replace(call, id)
	m.Drop(call)
	return m.End()
}

func change(c trial.Changer) trial.Call {
	m := model{trial.NodesOf(c.Arena)}
	s, other := c.Sources()
	if c.Below(2) == 0 {
		call := c.Pick(arena.Call)
		return trial.Call{Name: "Inline", Got: trial.Of(outline.Inline(c.Arena, call, s.Next)), Want: m.inline(call, other)}
	}
	e := c.Pick(arena.Int, arena.Bool, arena.Var, arena.Not, arena.Neg, arena.Bin, arena.Bin, arena.Call, arena.Call, arena.Read)
	module := c.Pick(arena.Module)
	name := c.One("f0", "f1", "f2", "g", "g1", "g2", "g3", "g4", "g5", "main", "while", "")
	return trial.Call{Name: "Extract", Got: trial.Of(outline.Extract(c.Arena, e, module, name, s.Next)), Want: m.extract(e, module, name, other)}
}

// TestRandomly compares each call with the model, and what the program does
// before and after it.
func TestRandomly(t *testing.T) {
	r := rand.New(rand.NewSource(1))
	counts := trial.Randomly(t, r.Intn, 150, change, func(before, after *arena.Arena) {
		trial.WantAlike(t, before, after, trial.Input(r.Intn), 3000, 3)
	})
	counts.Want(t, "Extract", 10, api.OK, api.ErrNone, api.ErrName, api.ErrFull, api.ErrClash)
	counts.Want(t, "Inline", 10, api.OK, api.ErrNone, api.ErrUnsafe, api.ErrFull, api.ErrForm)
}
