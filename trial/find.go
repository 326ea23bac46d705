package trial

import (
	"hourglass/api"
	"hourglass/arena"
	"hourglass/text"
)

// Named returns the first node with a name.
func Named(t T, a *arena.Arena, name string) api.ID {
	t.Helper()
	for id, n := range a.Walk(a.Root()) {
		if n.Name == name {
			return id
		}
	}
	t.Fatalf("there is no %s", name)
	return 0
}

// Find returns the first expression that is printed like that.
func Find(t T, a *arena.Arena, printed string) api.ID {
	t.Helper()
	for id := range a.Walk(a.Root()) {
		if got, e := text.Expr(a, id); e == api.OK && got == printed {
			return id
		}
	}
	t.Fatalf("there is no %s", printed)
	return 0
}

// Kind returns all nodes of a kind, in the order of the text.
func Kind(a *arena.Arena, kind byte) []api.ID {
	var l []api.ID
	for id, n := range a.Walk(a.Root()) {
		if n.Kind == kind {
			l = append(l, id)
		}
	}
	return l
}
