package arena

import (
	"cmp"
	"slices"

	"hourglass/api"
)

// parents has, for each child, the nodes of which it is one, by increasing ID.
type parents map[api.ID][]parent

type parent struct {
	id api.ID
	// times is how often the child is among the Kids of this node.
	times int
}

// exchange takes note that a node has other Kids. Those at both ends that stay
// the same are passed over: a node with many children often gets or loses one.
func (p parents) exchange(id api.ID, before, after []api.ID) {
	for len(before) > 0 && len(after) > 0 && before[0] == after[0] {
		before, after = before[1:], after[1:]
	}
	for len(before) > 0 && len(after) > 0 && before[len(before)-1] == after[len(after)-1] {
		before, after = before[:len(before)-1], after[:len(after)-1]
	}
	for _, kid := range before {
		p.add(kid, id, -1)
	}
	for _, kid := range after {
		p.add(kid, id, 1)
	}
}

// add makes a node that many times more often the parent of a child.
func (p parents) add(kid, id api.ID, times int) {
	l := p[kid]
	at, found := slices.BinarySearchFunc(l, id, func(one parent, id api.ID) int {
		return cmp.Compare(one.id, id)
	})
	if !found {
		l = slices.Insert(l, at, parent{id: id})
	}
	l[at].times += times
	if l[at].times == 0 {
		l = slices.Delete(l, at, at+1)
	}
	if len(l) == 0 {
		delete(p, kid)
		return
	}
	p[kid] = l
}

// first returns the parent with the smallest ID, 0 if there is none.
func (p parents) first(kid api.ID) api.ID {
	if len(p[kid]) == 0 {
		return 0
	}
	return p[kid][0].id
}
