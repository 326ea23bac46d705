package check

import (
	"hourglass/api"
	"hourglass/arena"
)

// Use is what a part of a program names.
type Use struct {
	Reads  []api.ID
	Writes []api.ID
	Calls  []api.ID
}

func Uses(a *arena.Arena, id api.ID) Use {
	refs := func(kind byte) []api.ID {
		var l []api.ID
		listed := map[api.ID]struct{}{}
		for _, n := range a.Walk(id) {
			if _, again := listed[n.Ref]; n.Kind == kind && !again {
				listed[n.Ref] = struct{}{}
				l = append(l, n.Ref)
			}
		}
		return l
	}
	return Use{Reads: refs(arena.Var), Writes: refs(arena.Assign), Calls: refs(arena.Call)}
}

func Users(a *arena.Arena, to api.ID) []api.ID {
	var l []api.ID
	for _, id := range a.IDs() {
		if n, _ := a.Get(id); n.Ref == to {
			l = append(l, id)
		}
	}
	return l
}

// kidsOf returns a node's children of a kind, in order.
func kidsOf(a *arena.Arena, id api.ID, kind byte) []api.ID {
	var l []api.ID
	n, _ := a.Get(id)
	for _, kid := range n.Kids {
		if k, _ := a.Get(kid); k.Kind == kind {
			l = append(l, kid)
		}
	}
	return l
}

func Modules(a *arena.Arena) []api.ID {
	return kidsOf(a, a.Root(), arena.Module)
}

func Funcs(a *arena.Arena, module api.ID) []api.ID {
	return kidsOf(a, module, arena.Func)
}

func Func(a *arena.Arena, module, name string) api.ID {
	is := func(id api.ID, name string) bool {
		n, _ := a.Get(id)
		return n.Name == name
	}
	for _, m := range Modules(a) {
		if !is(m, module) {
			continue
		}
		for _, f := range Funcs(a, m) {
			if is(f, name) {
				return f
			}
		}
	}
	return 0
}

// variables returns the parameters and Lets at and below a node, in the order
// of the text.
func variables(a *arena.Arena, id api.ID) []api.ID {
	var l []api.ID
	for below, n := range a.Walk(id) {
		if n.Kind == arena.Param || n.Kind == arena.Let {
			l = append(l, below)
		}
	}
	return l
}

func namesOf(a *arena.Arena, ids []api.ID) []string {
	var l []string
	for _, id := range ids {
		n, _ := a.Get(id)
		l = append(l, n.Name)
	}
	return l
}

func Names(a *arena.Arena, f api.ID) []string {
	if n, _ := a.Get(f); n.Kind != arena.Func {
		return nil
	}
	return namesOf(a, variables(a, f))
}
