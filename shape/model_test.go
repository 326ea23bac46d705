package shape_test

import (
	"math/rand"
	"testing"

	"hourglass/api"
	"hourglass/arena"
	"hourglass/shape"
	"hourglass/trial"
)

// model is the nodes of a program that is right. Its methods do what is promised
// as literally as possible.
type model struct {
	trial.Nodes
}

func (m model) flip(id api.ID, s *trial.Source) trial.Result {
	n := m.Nodes[id]
	if n.Kind != arena.If {
		return trial.Fail(api.ErrNone)
	}
	condition := n.Kids[0]
	if not := m.Nodes[condition]; not.Kind == arena.Not {
		delete(m.Nodes, condition)
		condition = not.Kids[0]
	} else {
		added, ok := m.Add(api.Node{Kind: arena.Not, Kids: []api.ID{condition}}, s)
		if !ok {
			return trial.Fail(api.ErrFull)
		}
		condition = added
	}
	m.Set(id, condition, n.Kids[2], n.Kids[1])
	return m.End()
}

func (m model) swap(id api.ID) trial.Result {
	const plus, times, equal, unequal = 1, 3, 10, 11
	n := m.Nodes[id]
	if n.Kind != arena.Bin {
		return trial.Fail(api.ErrNone)
	}
	turns := n.Num == plus || n.Num == times || n.Num == equal || n.Num == unequal
	if !turns || !m.IsSafe(n.Kids[0]) || !m.IsSafe(n.Kids[1]) {
		return trial.Fail(api.ErrUnsafe)
	}
	m.Set(id, n.Kids[1], n.Kids[0])
	return m.End()
}

func change(c trial.Changer) trial.Call {
	m := model{trial.NodesOf(c.Arena)}
	if c.Below(3) == 0 {
		id := c.Pick(arena.Bin)
		return trial.Call{Name: "Swap", Got: trial.Of(shape.Swap(c.Arena, id)), Want: m.swap(id)}
	}
	s, other := c.Sources()
	id := c.Pick(arena.If)
	return trial.Call{Name: "Flip", Got: trial.Of(shape.Flip(c.Arena, id, s.Next)), Want: m.flip(id, other)}
}

// TestRandomly compares each call with the model, and the runs of the program
// before and after it.
func TestRandomly(t *testing.T) {
	r := rand.New(rand.NewSource(1))
	counts := trial.Randomly(t, r.Intn, 100, change, func(before, after *arena.Arena) {
		trial.WantSameRuns(t, r.Intn, before, after)
	})
	counts.Want(t, "Flip", 10, api.OK, api.ErrNone, api.ErrFull)
	counts.Want(t, "Swap", 10, api.OK, api.ErrNone, api.ErrUnsafe)
}
