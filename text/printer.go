package text

import (
	"strconv"
	"strings"

	"hourglass/api"
	"hourglass/arena"
	"hourglass/grammar"
)

// printer is for arenas that are Shaped.
type printer struct {
	a    *arena.Arena
	out  strings.Builder
	tabs int
}

func (p *printer) write(l ...string) {
	for _, s := range l {
		p.out.WriteString(s)
	}
}

// begin writes the beginning of a line.
func (p *printer) begin(l ...string) {
	p.write(strings.Repeat("\t", p.tabs))
	p.write(l...)
}

// parts writes the lines of all children of a node.
func (p *printer) parts(id api.ID) {
	n, _ := p.a.Get(id)
	for _, kid := range n.Kids {
		p.part(kid)
	}
}

// within writes what stands between the braces of a Module or a Block.
func (p *printer) within(id api.ID) {
	p.tabs++
	p.parts(id)
	p.tabs--
}

// part writes the lines of a module, a function or a statement.
func (p *printer) part(id api.ID) {
	n, _ := p.a.Get(id)
	switch n.Kind {
	case arena.Module:
		p.begin("module ", n.Name, " {\n")
		p.within(id)
		p.begin("}\n")
	case arena.Func:
		p.function(n)
	case arena.Let:
		p.begin("let ", n.Name, " ", typeName(n.Type), " = ")
		p.ending(n)
	case arena.Assign:
		p.begin(p.name(n.Ref), " = ")
		p.ending(n)
	case arena.If:
		p.choice(n)
	case arena.While:
		p.begin("while ")
		p.expression(n.Kids[0])
		p.write(" {\n")
		p.within(n.Kids[1])
		p.begin("}\n")
	case arena.Print:
		p.begin("print ")
		p.ending(n)
	case arena.Do:
		p.begin("do ")
		p.ending(n)
	case arena.Return:
		p.begin("return ")
		p.ending(n)
	}
}

func (p *printer) function(n api.Node) {
	last := len(n.Kids) - 1
	p.begin("func ", n.Name, "(")
	p.list(n.Kids[:last], func(id api.ID) {
		parameter, _ := p.a.Get(id)
		p.write(parameter.Name, " ", typeName(parameter.Type))
	})
	p.write(") ", typeName(n.Type), " {\n")
	p.within(n.Kids[last])
	p.begin("}\n")
}

func (p *printer) choice(n api.Node) {
	p.begin("if ")
	p.expression(n.Kids[0])
	p.write(" {\n")
	p.within(n.Kids[1])
	p.begin("} else {\n")
	p.within(n.Kids[2])
	p.begin("}\n")
}

// ending writes the expression with which a statement ends.
func (p *printer) ending(statement api.Node) {
	p.expression(statement.Kids[0])
	p.write(";\n")
}

func (p *printer) list(ids []api.ID, one func(api.ID)) {
	for i, id := range ids {
		if i > 0 {
			p.write(", ")
		}
		one(id)
	}
}

func (p *printer) expression(id api.ID) {
	n, _ := p.a.Get(id)
	switch n.Kind {
	case arena.Int:
		p.write(strconv.FormatInt(n.Num, 10))
	case arena.Bool:
		p.write(strconv.FormatBool(n.Num == 1))
	case arena.Read:
		p.write("read")
	case arena.Var:
		p.write(p.name(n.Ref))
	case arena.Not:
		p.write("!")
		p.expression(n.Kids[0])
	case arena.Neg:
		p.write("-")
		p.expression(n.Kids[0])
	case arena.Bin:
		p.write("(")
		p.expression(n.Kids[0])
		p.write(" ", grammar.Sign(n.Num), " ")
		p.expression(n.Kids[1])
		p.write(")")
	case arena.Call:
		owner, _ := p.a.Parent(n.Ref)
		p.write(p.name(owner), ".", p.name(n.Ref), "(")
		p.list(n.Kids, p.expression)
		p.write(")")
	}
}

func (p *printer) name(id api.ID) string {
	n, _ := p.a.Get(id)
	return n.Name
}

func typeName(t byte) string {
	if t == arena.Truth {
		return "bool"
	}
	return "int"
}
