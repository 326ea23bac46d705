package effect

import (
	"maps"
	"slices"

	"hourglass/api"
	"hourglass/arena"
	"hourglass/check"
)

func Reaches(a *arena.Arena, f api.ID) []api.ID {
	reached := map[api.ID]struct{}{}
	for left := check.Uses(a, f).Calls; len(left) > 0; {
		last := len(left) - 1
		next := left[last]
		left = left[:last]
		if _, again := reached[next]; !again {
			reached[next] = struct{}{}
			left = append(left, check.Uses(a, next).Calls...)
		}
	}
	return slices.Sorted(maps.Keys(reached))
}

func Quiet(a *arena.Arena, f api.ID) bool {
	if n, _ := a.Get(f); n.Kind != arena.Func {
		return false
	}
	loud := func(n api.Node) bool {
		return divides(n) || n.Kind == arena.Print || n.Kind == arena.Read || n.Kind == arena.While
	}
	reached := Reaches(a, f)
	for _, g := range append(reached, f) {
		if count(a, g, loud) > 0 {
			return false
		}
	}
	// Those that f Reaches can be put in order unless one Reaches itself.
	_, ok := ordered(a, reached)
	return ok
}

func Order(a *arena.Arena) ([]api.ID, bool) {
	var functions []api.ID
	for _, m := range check.Modules(a) {
		functions = append(functions, check.Funcs(a, m)...)
	}
	return ordered(a, functions)
}
