package grammar

import "hourglass/api"

// path is how a call names a function.
type path struct {
	module, function string
}

// call is a Call whose function is looked up when all functions are known.
type call struct {
	id api.ID
	to path
}

// names lead to the nodes to which they refer.
type names struct {
	modules   map[string]api.ID
	functions map[path]api.ID
	// taken are all variables of the function so far.
	taken map[string]api.ID
	// visible are those of them to which a variable can refer at this point,
	// shown the same ones in order.
	visible map[string]api.ID
	shown   []string
	calls   []call
	// fault is the first error in the text.
	fault api.Errno
}

func newNames() names {
	return names{modules: map[string]api.ID{}, functions: map[path]api.ID{}}
}

// blame notes an error, unless there is one already.
func (n *names) blame(e api.Errno) {
	if n.fault == api.OK {
		n.fault = e
	}
}

// define makes a name lead to a node: it must be a new one.
func define[K comparable](n *names, to map[K]api.ID, name K, id api.ID) {
	if to[name] != 0 {
		n.blame(api.ErrClash)
	}
	to[name] = id
}

// enter begins a function, which has no variables yet.
func (n *names) enter() {
	n.taken = map[string]api.ID{}
	n.visible = map[string]api.ID{}
	n.shown = nil
}

// show makes a variable visible from now on.
func (n *names) show(name string, id api.ID) {
	define(n, n.taken, name, id)
	n.visible[name] = id
	n.shown = append(n.shown, name)
}

// hide makes the variables invisible that were shown after the first ones.
func (n *names) hide(first int) {
	for _, name := range n.shown[first:] {
		delete(n.visible, name)
	}
	n.shown = n.shown[:first]
}

// variable returns the one that a name refers to.
func (n *names) variable(name string) api.ID {
	id := n.visible[name]
	if id == 0 {
		n.blame(api.ErrName)
	}
	return id
}

// link makes the calls refer to their functions.
func (p *parser) link() {
	for _, c := range p.calls {
		f := p.functions[c.to]
		if f == 0 {
			p.blame(api.ErrName)
		}
		p.node(c.id).Ref = f
	}
}
