package site

import (
	"hourglass/api"
	"hourglass/arena"
)

func Clone(a *arena.Arena, id api.ID, with map[api.ID]api.ID, fresh func() (api.ID, bool)) (api.ID, bool) {
	c := cloner{a: a, with: with, fresh: fresh, open: map[api.ID]struct{}{}}
	return c.clone(id)
}

// cloner makes nodes that are equal to others of its arena.
type cloner struct {
	a     *arena.Arena
	with  map[api.ID]api.ID
	fresh func() (api.ID, bool)
	// open are the nodes whose children are being cloned. After calls of this
	// layer, a node may be below itself: such a clone would never end.
	open map[api.ID]struct{}
}

func (c cloner) clone(id api.ID) (api.ID, bool) {
	n, ok := c.a.Get(id)
	if _, ring := c.open[id]; ring || !ok {
		return 0, false
	}
	if other, mapped := c.with[n.Ref]; mapped && n.Kind == arena.Var {
		return Clone(c.a, other, nil, c.fresh)
	}
	c.open[id] = struct{}{}
	for i, kid := range n.Kids {
		if n.Kids[i], ok = c.clone(kid); !ok {
			return 0, false
		}
	}
	delete(c.open, id)
	return Make(c.a, n, c.fresh)
}
