package arena

import (
	"maps"
	"slices"

	"hourglass/api"
)

func (a *Arena) Tree() bool {
	if a == nil || a.nodes[root].Kind != Program {
		return false
	}
	depths := map[api.ID]int{root: 1}
	walked := 0
	for id, n := range a.Walk(root) {
		walked++
		if depths[id] > api.MaxDepth || n.Ref != 0 && !a.has(n.Ref) {
			return false
		}
		for _, kid := range n.Kids {
			if !a.has(kid) || depths[kid] > 0 { // it is a child already, or the root
				return false
			}
			depths[kid] = depths[id] + 1
		}
	}
	return walked == len(a.nodes)
}

func Same(a, b *Arena) bool {
	if a == nil || b == nil {
		return a == b
	}
	return maps.EqualFunc(a.nodes, b.nodes, equal)
}

func equal(m, n api.Node) bool {
	return m.Kind == n.Kind && m.Name == n.Name && m.Num == n.Num && m.Type == n.Type &&
		m.Ref == n.Ref && slices.Equal(m.Kids, n.Kids)
}

func Alike(a, b *Arena) bool {
	if !a.Tree() || !b.Tree() {
		return Same(a, b)
	}
	return Same(a.numbered(), b.numbered())
}

// numbered returns a Tree with its nodes renamed to 1, 2, .. in the order of a
// walk, which is the same for all Trees that differ in their IDs only.
func (a *Arena) numbered() *Arena {
	numbers := map[api.ID]api.ID{}
	for id := range a.Walk(root) {
		numbers[id] = api.ID(len(numbers) + 1)
	}
	c := empty()
	for id, n := range a.Walk(root) {
		n.Ref = numbers[n.Ref] // 0 stays 0, since it is no node
		for i, kid := range n.Kids {
			n.Kids[i] = numbers[kid]
		}
		c.set(numbers[id], n)
	}
	return c
}
