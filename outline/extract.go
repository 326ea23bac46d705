package outline

import (
	"hourglass/api"
	"hourglass/arena"
	"hourglass/check"
	"hourglass/site"
)

// extraction makes new nodes until one could not be made.
type extraction struct {
	a     *arena.Arena
	fresh func() (api.ID, bool)
	full  bool
}

func (x *extraction) make(n api.Node) api.ID {
	if x.full {
		return 0
	}
	id, ok := site.Make(x.a, n, x.fresh)
	x.full = !ok
	return id
}

// extract makes a function of an expression, and calls it there.
func (x *extraction) extract(e, module api.ID, name string) {
	variables := site.Free(x.a, e)
	var parameters, arguments []api.ID
	f := x.make(api.Node{Kind: arena.Func, Name: name, Type: check.Type(x.a, e)})
	for _, v := range variables {
		n, _ := x.a.Get(v)
		parameters = append(parameters, x.make(api.Node{Kind: arena.Param, Name: n.Name, Type: n.Type}))
	}
	block := x.make(api.Node{Kind: arena.Block})
	result := x.make(api.Node{Kind: arena.Return})
	call := x.make(api.Node{Kind: arena.Call, Ref: f})
	for _, v := range variables {
		arguments = append(arguments, x.make(api.Node{Kind: arena.Var, Ref: v}))
	}
	if x.full {
		return
	}
	// The expression leaves its place first: as a child of two nodes, its Parent
	// would be the one with the smaller ID.
	site.Replace(x.a, e, call)
	rebind(x.a, e, variables, parameters)
	adopt(x.a, result, e)
	adopt(x.a, block, result)
	adopt(x.a, f, append(parameters, block)...)
	adopt(x.a, call, arguments...)
	adopt(x.a, module, f)
}

// adopt makes nodes the last children of another one.
func adopt(a *arena.Arena, parent api.ID, kids ...api.ID) {
	n, _ := a.Get(parent)
	n.Kids = append(n.Kids, kids...)
	a.Put(parent, n)
}

// rebind makes the Vars at and below a node, which refer to the variables, refer
// to others instead.
func rebind(a *arena.Arena, e api.ID, variables, others []api.ID) {
	to := map[api.ID]api.ID{}
	for i, v := range variables {
		to[v] = others[i]
	}
	for id, n := range a.Walk(e) {
		if n.Kind == arena.Var {
			n.Ref = to[n.Ref]
			a.Put(id, n)
		}
	}
}
