package name_test

import (
	"math/rand"
	"slices"
	"testing"

	"hourglass/api"
	"hourglass/arena"
	"hourglass/name"
	"hourglass/op"
	"hourglass/token"
	"hourglass/trial"
)

// model is the nodes of a program that is right. Its methods do what is
// promised as literally as possible.
type model struct {
	trial.Nodes
}

func (m model) rename(kind byte, id api.ID, name string) trial.Result {
	n, ok := m.Nodes[id]
	if !ok || n.Kind != kind || n.Name == "" {
		return trial.Fail(api.ErrNone)
	}
	if !token.IsName(name) {
		return trial.Fail(api.ErrName)
	}
	n.Name = name
	m.Nodes[id] = n
	return m.End()
}

func (m model) move(f, module api.ID) trial.Result {
	if m.Nodes[f].Kind != arena.Func || m.Nodes[module].Kind != arena.Module {
		return trial.Fail(api.ErrNone)
	}
	m.Off(f)
	m.Join(module, f)
	return m.End()
}

func (m model) addModule(name string, id api.ID) trial.Result {
	if !token.IsName(name) {
		return trial.Fail(api.ErrName)
	}
	if m.Has(id) {
		return trial.Fail(api.ErrFull)
	}
	m.Join(1, id)
	m.Nodes[id] = api.Node{Kind: arena.Module, Name: name}
	return m.End()
}

func (m model) dropModule(module api.ID) trial.Result {
	n := m.Nodes[module]
	if n.Kind != arena.Module {
		return trial.Fail(api.ErrNone)
	}
	if len(n.Kids) > 0 {
		return trial.Fail(api.ErrUsed)
	}
	m.Off(module)
	m.Drop(module)
	return m.End()
}

func (m model) dropFunc(f api.ID) trial.Result {
	if m.Nodes[f].Kind != arena.Func {
		return trial.Fail(api.ErrNone)
	}
	inside := m.Below(f)
	for id, n := range m.Nodes {
		if n.Kind == arena.Call && n.Ref == f && !slices.Contains(inside, id) {
			return trial.Fail(api.ErrUsed)
		}
	}
	m.Off(f)
	m.Drop(f)
	return m.End()
}

// rename returns a name, mostly one that occurs for nodes of the kind.
func rename(c trial.Changer, kind byte) string {
	l := []string{"x", "y", "z", "while", ""}
	switch kind {
	case arena.Module:
		l = append(l, "a", "b", "main")
	case arena.Func:
		l = append(l, "f0", "f1", "f0", "f1", "f0", "f1", "f2", "main")
	default:
		l = append(l, "n", "i1", "v1", "v2", "a", "f0")
	}
	return c.One(l...)
}

func change(c trial.Changer) trial.Call {
	m := model{trial.NodesOf(c.Arena)}
	switch c.Below(8) {
	case 0:
		to, stamp := rename(c, arena.Module), uint32(1+c.Below(5))
		return trial.Call{Name: "AddModule", Got: trial.Of(name.AddModule(c.Arena, to, op.Fresh(stamp))), Want: m.addModule(to, api.ID(stamp)*65536+1)}
	case 1:
		id := c.Pick(arena.Module)
		return trial.Call{Name: "DropModule", Got: trial.Of(name.DropModule(c.Arena, id)), Want: m.dropModule(id)}
	case 2:
		id := c.Pick(arena.Func)
		return trial.Call{Name: "DropFunc", Got: trial.Of(name.DropFunc(c.Arena, id)), Want: m.dropFunc(id)}
	case 3, 4:
		f, module := c.Pick(arena.Func), c.Pick(arena.Module)
		return trial.Call{Name: "Move", Got: trial.Of(name.Move(c.Arena, f, module)), Want: m.move(f, module)}
	}
	kind := []byte{arena.Module, arena.Func, arena.Param, arena.Let}[c.Below(4)]
	id, to := c.Pick(kind), rename(c, kind)
	return trial.Call{Name: "Rename", Got: trial.Of(name.Rename(c.Arena, kind, id, to)), Want: m.rename(kind, id, to)}
}

// TestRandomly compares each call with the model, and the runs of the program
// before and after it.
func TestRandomly(t *testing.T) {
	r := rand.New(rand.NewSource(1))
	counts := trial.Randomly(t, r.Intn, 150, change, func(before, after *arena.Arena) {
		trial.WantSameRuns(t, r.Intn, before, after)
	})
	counts.Want(t, "Rename", 5, api.OK, api.ErrNone, api.ErrName, api.ErrClash)
	counts.Want(t, "Move", 5, api.OK, api.ErrNone, api.ErrClash)
	counts.Want(t, "AddModule", 5, api.OK, api.ErrName, api.ErrFull, api.ErrClash)
	counts.Want(t, "DropModule", 5, api.OK, api.ErrNone, api.ErrUsed)
	counts.Want(t, "DropFunc", 5, api.OK, api.ErrNone, api.ErrUsed)
}
