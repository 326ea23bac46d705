package effect

import (
	"container/heap"

	"hourglass/api"
	"hourglass/arena"
	"hourglass/check"
)

// smallest is a heap of IDs.
type smallest []api.ID

func (s smallest) Len() int           { return len(s) }
func (s smallest) Less(i, j int) bool { return s[i] < s[j] }
func (s smallest) Swap(i, j int)      { s[i], s[j] = s[j], s[i] }
func (s *smallest) Push(id any)       { *s = append(*s, id.(api.ID)) }

func (s *smallest) Pop() any {
	last := len(*s) - 1
	id := (*s)[last]
	*s = (*s)[:last]
	return id
}

// ordered returns functions that call none but each other, each after all that
// it calls; false if there is a cycle. Of several that could be next, it takes
// the one with the smallest ID.
func ordered(a *arena.Arena, functions []api.ID) ([]api.ID, bool) {
	callers := map[api.ID][]api.ID{}
	missing := map[api.ID]int{} // how many of those that it calls have no place yet
	ready := &smallest{}
	for _, f := range functions {
		calls := check.Uses(a, f).Calls
		missing[f] = len(calls)
		for _, g := range calls {
			callers[g] = append(callers[g], f)
		}
		if len(calls) == 0 {
			heap.Push(ready, f)
		}
	}
	var order []api.ID
	for ready.Len() > 0 {
		next := heap.Pop(ready).(api.ID)
		order = append(order, next)
		for _, f := range callers[next] {
			missing[f]--
			if missing[f] == 0 {
				heap.Push(ready, f)
			}
		}
	}
	if len(order) < len(functions) {
		return nil, false
	}
	return order, true
}
