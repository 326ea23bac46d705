package check

import (
	"slices"

	"hourglass/api"
	"hourglass/arena"
)

// extent is from which place of a walk on a node and everything below it stand,
// and where they end. The node's parent ends at scope.
type extent struct {
	begin, end, scope int
}

func extents(a *arena.Arena) map[api.ID]extent {
	all := map[api.ID]extent{}
	var order []api.ID
	for id := range a.Walk(a.Root()) {
		all[id] = extent{begin: len(order), end: len(order) + 1}
		order = append(order, id)
	}
	// The last one of a node's children, whose end is its own, comes before it
	// in this order.
	for _, id := range slices.Backward(order) {
		n, _ := a.Get(id)
		e := all[id]
		for _, kid := range n.Kids {
			e.end = max(e.end, all[kid].end)
		}
		all[id] = e
		for _, kid := range n.Kids {
			k := all[kid]
			k.scope = e.end
			all[kid] = k
		}
	}
	return all
}

// visible reports whether a variable of this extent is visible at a node: what
// declares it has ended there, and the Func or Block in which that is has not.
func (variable extent) visible(at extent) bool {
	return variable.end <= at.begin && at.begin < variable.scope
}

func Seen(a *arena.Arena, at api.ID) []api.ID {
	all := extents(a)
	place, ok := all[at]
	if !ok {
		return nil
	}
	var l []api.ID
	for _, v := range variables(a, a.Root()) {
		if all[v].visible(place) {
			l = append(l, v)
		}
	}
	return l
}
