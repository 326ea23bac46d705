package grammar

import (
	"hourglass/api"
	"hourglass/arena"
	"hourglass/token"
)

// deepest is how many constructs may be nested.
const deepest = 90

// parser reads tokens into nodes, in the order of their IDs. It notes the first
// fault of the names and goes on, because what violates the rules, wherever it
// is in the text, comes first.
type parser struct {
	left []token.Token
	// wrong is whether the rules are violated; then nothing is left.
	wrong bool
	// depth is how many constructs are open.
	depth int
	// nodes have the IDs 1, 2, ..
	nodes []api.Node
	names
}

func (p *parser) fail() {
	p.wrong = true
	p.left = nil
}

// is reports whether the next token is a keyword or sign. Names and numbers are
// never written like one.
func (p *parser) is(s string) bool {
	return len(p.left) > 0 && p.left[0].Text == s
}

// next takes the next token, whatever it is.
func (p *parser) next() token.Token {
	if len(p.left) == 0 {
		p.fail()
		return token.Token{}
	}
	t := p.left[0]
	p.left = p.left[1:]
	return t
}

// take takes a keyword or sign, if it is the next token.
func (p *parser) take(s string) bool {
	if !p.is(s) {
		return false
	}
	p.next()
	return true
}

// want takes a keyword or sign that must come next.
func (p *parser) want(s string) {
	if !p.take(s) {
		p.fail()
	}
}

func (p *parser) name() string {
	t := p.next()
	if t.Kind != token.Name {
		p.fail()
		return ""
	}
	return t.Text
}

func (p *parser) valueType() byte {
	switch p.next().Text {
	case "int":
		return arena.Number
	case "bool":
		return arena.Truth
	}
	p.fail()
	return arena.None
}

// nest reads what is within a construct that counts as nested.
func (p *parser) nest(within func()) {
	if p.depth == deepest {
		p.fail()
		return
	}
	p.depth++
	within()
	p.depth--
}

// list reads what commas separate, up to the closing parenthesis.
func (p *parser) list(part func()) {
	if p.take(")") {
		return
	}
	part()
	for p.take(",") {
		part()
	}
	p.want(")")
}

// node returns the place of a node that has been grown.
func (p *parser) node(id api.ID) *api.Node {
	return &p.nodes[id-1]
}

// grow adds a node as the last child of another one; of 0, as the root.
func (p *parser) grow(under api.ID, n api.Node) api.ID {
	p.nodes = append(p.nodes, n)
	id := api.ID(len(p.nodes))
	if under != 0 {
		parent := p.node(under)
		parent.Kids = append(parent.Kids, id)
	}
	return id
}

func (p *parser) program() {
	root := p.grow(0, api.Node{Kind: arena.Program})
	for len(p.left) > 0 {
		p.module(root)
	}
}

func (p *parser) module(under api.ID) {
	p.want("module")
	name := p.name()
	id := p.grow(under, api.Node{Kind: arena.Module, Name: name})
	define(&p.names, p.modules, name, id)
	p.want("{")
	for !p.wrong && !p.is("}") {
		p.function(id)
	}
	p.want("}")
}

func (p *parser) function(module api.ID) {
	p.want("func")
	name := p.name()
	id := p.grow(module, api.Node{Kind: arena.Func, Name: name})
	define(&p.names, p.functions, path{p.node(module).Name, name}, id)
	p.enter()
	p.want("(")
	p.list(func() { p.parameter(id) })
	p.node(id).Type = p.valueType()
	p.want("{")
	body := p.grow(id, api.Node{Kind: arena.Block})
	p.statements(body, "return")
	p.want("return")
	p.ending(p.grow(body, api.Node{Kind: arena.Return}))
	p.want("}")
}

func (p *parser) parameter(function api.ID) {
	name := p.name()
	id := p.grow(function, api.Node{Kind: arena.Param, Name: name, Type: p.valueType()})
	p.show(name, id)
}
