package grammar

import (
	"hourglass/api"
	"hourglass/arena"
	"hourglass/token"
)

// statements reads those of a block, up to a token that it leaves.
func (p *parser) statements(block api.ID, end string) {
	for !p.wrong && !p.is(end) {
		p.statement(block)
	}
}

func (p *parser) statement(block api.ID) {
	switch {
	case p.take("let"):
		p.let(block)
	case p.take("if"):
		p.choice(block)
	case p.take("while"):
		id := p.grow(block, api.Node{Kind: arena.While})
		p.expression(id)
		p.block(id)
	case p.take("print"):
		p.ending(p.grow(block, api.Node{Kind: arena.Print}))
	case p.take("do"):
		id := p.grow(block, api.Node{Kind: arena.Do})
		p.call(id, p.name())
		p.want(";")
	default:
		variable := p.variable(p.name())
		p.want("=")
		p.ending(p.grow(block, api.Node{Kind: arena.Assign, Ref: variable}))
	}
}

// let shows the variable to what follows only, not to its own expression.
func (p *parser) let(block api.ID) {
	name := p.name()
	id := p.grow(block, api.Node{Kind: arena.Let, Name: name, Type: p.valueType()})
	p.want("=")
	p.ending(id)
	p.show(name, id)
}

func (p *parser) choice(block api.ID) {
	id := p.grow(block, api.Node{Kind: arena.If})
	p.expression(id)
	p.block(id)
	p.want("else")
	p.block(id)
}

// ending reads the expression with which a statement ends.
func (p *parser) ending(statement api.ID) {
	p.expression(statement)
	p.want(";")
}

func (p *parser) block(under api.ID) {
	id := p.grow(under, api.Node{Kind: arena.Block})
	outside := len(p.shown)
	p.want("{")
	p.nest(func() {
		p.statements(id, "}")
		p.want("}")
	})
	p.hide(outside)
}

func (p *parser) expression(under api.ID) {
	t := p.next()
	switch {
	case t.Kind == token.Number:
		p.grow(under, api.Node{Kind: arena.Int, Num: token.Value(t)})
	case t.Kind == token.Name && p.is("."):
		p.call(under, t.Text)
	case t.Kind == token.Name:
		p.grow(under, api.Node{Kind: arena.Var, Ref: p.variable(t.Text)})
	case t.Text == "true":
		p.grow(under, api.Node{Kind: arena.Bool, Num: 1})
	case t.Text == "false":
		p.grow(under, api.Node{Kind: arena.Bool})
	case t.Text == "read":
		p.grow(under, api.Node{Kind: arena.Read})
	case t.Text == "!":
		p.unary(under, arena.Not)
	case t.Text == "-":
		p.unary(under, arena.Neg)
	case t.Text == "(":
		p.binary(under)
	default:
		p.fail()
	}
}

func (p *parser) unary(under api.ID, kind byte) {
	id := p.grow(under, api.Node{Kind: kind})
	p.nest(func() { p.expression(id) })
}

// binary reads what follows the opening parenthesis.
func (p *parser) binary(under api.ID) {
	id := p.grow(under, api.Node{Kind: arena.Bin})
	p.nest(func() {
		p.expression(id)
		sign := Op(p.next().Text)
		if sign == 0 {
			p.fail()
		}
		p.node(id).Num = sign
		p.expression(id)
		p.want(")")
	})
}

// call reads what follows the module's name.
func (p *parser) call(under api.ID, module string) {
	id := p.grow(under, api.Node{Kind: arena.Call})
	p.want(".")
	p.calls = append(p.calls, call{id, path{module, p.name()}})
	p.want("(")
	p.nest(func() {
		p.list(func() { p.expression(id) })
	})
}
