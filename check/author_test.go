package check_test

import (
	"math/rand"
	"strconv"
	"strings"
)

// author writes random programs that are right. Names are used again wherever
// they may be.
type author struct {
	r         *rand.Rand
	out       strings.Builder
	functions []function
	visible   []variable
	names     int // of variables, in the function
}

type function struct {
	module, name string
	parameters   []string
	result       string
}

type variable struct {
	name, kind string
}

func (w *author) write(l ...string) {
	for _, s := range l {
		w.out.WriteString(s)
	}
}

func (w *author) kind() string {
	return []string{"int", "bool"}[w.r.Intn(2)]
}

// declare makes a new variable, which is not visible yet.
func (w *author) declare() variable {
	w.names++
	return variable{name: string("fgmx"[w.r.Intn(4)]) + strconv.Itoa(w.names), kind: w.kind()}
}

// plan decides which functions there are.
func (w *author) plan() []string {
	modules := []string{"main"}
	for i := range w.r.Intn(3) {
		modules = append(modules, "m"+strconv.Itoa(i))
	}
	w.r.Shuffle(len(modules), func(i, j int) { modules[i], modules[j] = modules[j], modules[i] })
	for _, m := range modules {
		names := []string{"f0", "f1", "f2", "m0"}[:w.r.Intn(5)]
		if m == "main" {
			names = append([]string{"main"}, names...)
		}
		w.r.Shuffle(len(names), func(i, j int) { names[i], names[j] = names[j], names[i] })
		for _, name := range names {
			f := function{module: m, name: name, result: w.kind()}
			if m == name {
				f.result = "int"
			} else {
				for range w.r.Intn(4) {
					f.parameters = append(f.parameters, w.kind())
				}
			}
			w.functions = append(w.functions, f)
		}
	}
	return modules
}

func (w *author) program() string {
	for _, m := range w.plan() {
		w.write("module ", m, " { ")
		for _, f := range w.functions {
			if f.module == m {
				w.function(f)
			}
		}
		w.write("} ")
	}
	return w.out.String()
}

func (w *author) function(f function) {
	w.visible, w.names = nil, 0
	w.write("func ", f.name, "(")
	for i, kind := range f.parameters {
		v := w.declare()
		v.kind = kind
		w.visible = append(w.visible, v)
		if i > 0 {
			w.write(", ")
		}
		w.write(v.name, " ", v.kind)
	}
	w.write(") ", f.result, " { ")
	w.statements(4, 3)
	w.write("return ", w.expression(f.result, 3), "; } ")
}

func (w *author) block(size, deep int) {
	before := len(w.visible)
	w.write("{ ")
	w.statements(size, deep)
	w.write("} ")
	w.visible = w.visible[:before]
}

func (w *author) statements(size, deep int) {
	for range w.r.Intn(size + 1) {
		choice := w.r.Intn(7)
		if deep == 0 {
			choice = w.r.Intn(4)
		}
		switch {
		case choice == 1 && len(w.visible) > 0:
			v := w.visible[w.r.Intn(len(w.visible))]
			w.write(v.name, " = ", w.expression(v.kind, 2), "; ")
		case choice == 2:
			w.write("print ", w.expression(w.kind(), 3), "; ")
		case choice == 3:
			w.write("do ", w.call(w.functions[w.r.Intn(len(w.functions))], 2), "; ")
		case choice == 4:
			w.write("if ", w.expression("bool", 2), " ")
			w.block(size-1, deep-1)
			w.write("else ")
			w.block(size-1, deep-1)
		case choice == 5:
			w.write("while ", w.expression("bool", 2), " ")
			w.block(size-1, deep-1)
		default:
			v := w.declare()
			w.write("let ", v.name, " ", v.kind, " = ", w.expression(v.kind, 3), "; ")
			w.visible = append(w.visible, v)
		}
	}
}

func (w *author) call(f function, deep int) string {
	var l []string
	for _, kind := range f.parameters {
		l = append(l, w.expression(kind, deep-1))
	}
	return f.module + "." + f.name + "(" + strings.Join(l, ", ") + ")"
}

// one returns one of them.
func (w *author) one(l ...string) string {
	return l[w.r.Intn(len(l))]
}

func (w *author) expression(kind string, deep int) string {
	choice := w.r.Intn(6)
	if deep <= 0 {
		choice = w.r.Intn(3)
	}
	v := variable{}
	if len(w.visible) > 0 {
		v = w.visible[w.r.Intn(len(w.visible))]
	}
	switch {
	case choice > 0 && choice < 3 && v.kind == kind:
		return v.name
	case choice == 3:
		for range 3 {
			if f := w.functions[w.r.Intn(len(w.functions))]; f.result == kind {
				return w.call(f, deep)
			}
		}
	case choice == 4 && kind == "int":
		return w.binary("int", deep, "+", "-", "*", "/", "%")
	case choice == 4 && w.r.Intn(2) == 0:
		return w.binary("int", deep, "<", "<=", ">", ">=", "==", "!=")
	case choice == 4:
		return w.binary("bool", deep, "==", "!=", "&&", "||")
	case choice == 5 && kind == "int":
		return "-" + w.expression(kind, deep-1)
	case choice == 5:
		return "!" + w.expression(kind, deep-1)
	}
	if kind == "int" {
		return w.one("0", "1", "2", "3", "17", "read")
	}
	return w.one("true", "false")
}

func (w *author) binary(operands string, deep int, signs ...string) string {
	return "(" + w.expression(operands, deep-1) + " " + w.one(signs...) + " " + w.expression(operands, deep-1) + ")"
}
