// Package author writes programs for the tests of the layers.
package author

import (
	"strconv"
	"strings"
)

// author has functions call each other at will, but most programs end: a
// function hands on one less than the number n that it was given, and calls
// only where that is above 0; and loops count.
type author struct {
	below   func(n int) int
	routes  []route
	visible []known
	names   int // of variables, in the function
	calling bool
}

// route is a function. Its first parameter is n.
type route struct {
	path, result string
	takes        []string
}

type known struct {
	name, kind string
}

// Program returns a program that is right. What is in it is chosen by below,
// which returns a number from 0 on below n.
func Program(below func(n int) int) string {
	w := author{below: below}
	return w.program()
}

func (w *author) pick(l ...string) string {
	return l[w.below(len(l))]
}

// program has the modules a, main and b, of which a and b may be empty.
func (w *author) program() string {
	modules := map[string][]route{}
	for i := range 1 + w.below(4) {
		m := w.pick("a", "main", "b")
		f := route{path: m + ".f" + strconv.Itoa(i), result: w.pick("int", "bool")}
		for range w.below(3) {
			f.takes = append(f.takes, w.pick("int", "bool"))
		}
		modules[m] = append(modules[m], f)
		w.routes = append(w.routes, f)
	}
	text := ""
	for _, m := range []string{"a", "main", "b"} {
		text += "module " + m + " {\n"
		for _, f := range modules[m] {
			text += w.function(f)
		}
		if m == "main" {
			text += w.main()
		}
		text += "}\n"
	}
	return text
}

func (w *author) main() string {
	w.visible, w.names, w.calling = nil, 0, true
	start := "let n int = " + w.pick("1", "2", "3", "4", "read") + ";\n"
	w.visible = append(w.visible, known{"n", "int"})
	return "func main() int {\n" + start + w.statements(4, 3) + "return " + w.expression("int", 3) + ";\n}\n"
}

func (w *author) function(f route) string {
	w.visible, w.names, w.calling = []known{{"n", "int"}}, 0, false
	parameters := "n int"
	for _, kind := range f.takes {
		parameters += ", " + w.declare(kind) + " " + kind
	}
	_, name, _ := strings.Cut(f.path, ".")
	return "func " + name + "(" + parameters + ") " + f.result + " {\n" + w.statements(4, 3) + "return " + w.expression(f.result, 3) + ";\n}\n"
}

// declare returns the name of a new variable, which is visible from now on.
func (w *author) declare(kind string) string {
	w.names++
	name := "v" + strconv.Itoa(w.names)
	w.visible = append(w.visible, known{name, kind})
	return name
}

func (w *author) block(many, deep int) string {
	before := len(w.visible)
	defer func() { w.visible = w.visible[:before] }()
	return "{\n" + w.statements(many, deep) + "}"
}

func (w *author) statements(many, deep int) string {
	text := ""
	for range w.below(many + 1) {
		text += w.statement(many-1, deep-1)
	}
	return text
}

func (w *author) statement(many, deep int) string {
	simple := 5
	if deep > 0 {
		simple = 9
	}
	switch w.below(simple) {
	case 0:
		kind := w.pick("int", "bool")
		e := w.expression(kind, 3)
		return "let " + w.declare(kind) + " " + kind + " = " + e + ";\n"
	case 1:
		if v := w.visible[w.below(len(w.visible))]; v.name != "n" && v.name[0] != 'i' {
			return v.name + " = " + w.expression(v.kind, 3) + ";\n"
		}
	case 2:
		if w.calling {
			return "do " + w.call(w.routes[w.below(len(w.routes))], 2) + ";\n"
		}
	case 5:
		return "if " + w.expression("bool", 3) + " " + w.block(many, deep) + " else " + w.block(many, deep) + "\n"
	case 6, 7:
		return w.guarded(many, deep)
	case 8:
		return w.loop(many, deep)
	}
	return "print " + w.expression(w.pick("int", "bool"), 3) + ";\n"
}

// guarded may call where n is above 0.
func (w *author) guarded(many, deep int) string {
	calling := w.calling
	w.calling = true
	inside := w.block(many, deep)
	w.calling = calling
	return "if (n > 0) " + inside + " else " + w.block(many, deep) + "\n"
}

// loop counts in a variable that nothing else sets; but rarely it forgets to.
func (w *author) loop(many, deep int) string {
	w.names++
	i := "i" + strconv.Itoa(w.names)
	w.visible = append(w.visible, known{i, "int"})
	count := i + " = (" + i + " + 1);\n"
	if w.below(12) == 0 {
		count = ""
	}
	condition := "(" + i + " < " + w.pick("1", "2", "3", "5") + ")"
	if w.below(2) == 0 {
		condition = "(" + condition + " && " + w.expression("bool", 2) + ")"
	}
	return "let " + i + " int = 0;\nwhile " + condition + " {\n" + count + w.block(many, deep)[2:] + "\n"
}

func (w *author) call(f route, deep int) string {
	arguments := "(n - 1)"
	for _, kind := range f.takes {
		arguments += ", " + w.expression(kind, deep-1)
	}
	return f.path + "(" + arguments + ")"
}

func (w *author) expression(kind string, deep int) string {
	if deep <= 0 || w.below(5) == 0 {
		return w.leaf(kind)
	}
	if f := w.routes[w.below(len(w.routes))]; w.calling && f.result == kind && w.below(3) == 0 {
		return w.call(f, deep)
	}
	both := func(kind string, signs ...string) string {
		return "(" + w.expression(kind, deep-1) + " " + w.pick(signs...) + " " + w.expression(kind, deep-1) + ")"
	}
	choice := w.below(6)
	switch {
	case kind == "int" && choice == 0:
		return "-" + w.expression("int", deep-1)
	case kind == "int" && choice == 1 && w.below(2) == 0:
		return both("int", "/", "%")
	case kind == "int":
		return both("int", "+", "-", "*")
	case choice == 0:
		return "!" + w.expression("bool", deep-1)
	case choice < 3:
		return both("int", "<", "<=", ">", ">=", "==", "!=")
	case choice == 3:
		return both("bool", "==", "!=")
	}
	return both("bool", "&&", "||")
}

func (w *author) leaf(kind string) string {
	if v := w.visible[w.below(len(w.visible))]; v.kind == kind && w.below(4) > 0 {
		return v.name
	}
	if kind == "int" {
		return w.pick("read", "0", "1", "2", "10", "9223372036854775807")
	}
	return w.pick("true", "false")
}
