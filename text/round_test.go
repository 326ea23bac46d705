package text_test

import (
	"math/rand"
	"strconv"
	"strings"
	"testing"

	"hourglass/api"
	"hourglass/arena"
	"hourglass/grammar"
	"hourglass/text"
	"hourglass/token"
)

// author writes random programs as they are to be printed.
type author struct {
	r       *rand.Rand
	out     strings.Builder
	calls   []string // the functions that there are, with their modules
	visible []string
	names   int
	// depth is that of what has been written, open how many constructs are.
	depth, open int
}

func (w *author) line(tabs int, s string) {
	w.out.WriteString(strings.Repeat("\t", tabs) + s + "\n")
}

func (w *author) name() string {
	w.names++
	return string("aZ_kx"[w.r.Intn(5)]) + strconv.Itoa(w.names)
}

func (w *author) kind() string {
	return []string{"int", "bool"}[w.r.Intn(2)]
}

func (w *author) nest() {
	w.open++
	w.depth = max(w.depth, w.open)
}

func (w *author) program() string {
	var modules []string
	functions := map[string][]string{}
	for range w.r.Intn(4) {
		m := w.name()
		modules = append(modules, m)
		for range w.r.Intn(4) {
			f := w.name()
			functions[m] = append(functions[m], f)
			w.calls = append(w.calls, m+"."+f)
		}
	}
	for _, m := range modules {
		w.line(0, "module "+m+" {")
		for _, f := range functions[m] {
			w.visible = nil
			var l []string
			for range w.r.Intn(4) {
				w.visible = append(w.visible, w.name())
				l = append(l, w.visible[len(w.visible)-1]+" "+w.kind())
			}
			w.line(1, "func "+f+"("+strings.Join(l, ", ")+") "+w.kind()+" {")
			w.statements(2)
			w.line(2, "return "+w.expression(4)+";")
			w.line(1, "}")
		}
		w.line(0, "}")
	}
	return w.out.String()
}

func (w *author) block(tabs int) {
	before := len(w.visible)
	w.nest()
	w.statements(tabs + 1)
	w.open--
	w.visible = w.visible[:before]
}

func (w *author) statements(tabs int) {
	for range w.r.Intn(5) {
		switch choice := w.r.Intn(6); {
		case choice == 0:
			e := w.expression(3)
			w.visible = append(w.visible, w.name())
			w.line(tabs, "let "+w.visible[len(w.visible)-1]+" "+w.kind()+" = "+e+";")
		case choice == 1 && len(w.visible) > 0:
			w.line(tabs, w.visible[w.r.Intn(len(w.visible))]+" = "+w.expression(3)+";")
		case choice == 2 && tabs < 6:
			w.line(tabs, "if "+w.expression(2)+" {")
			w.block(tabs)
			w.line(tabs, "} else {")
			w.block(tabs)
			w.line(tabs, "}")
		case choice == 3 && tabs < 6:
			w.line(tabs, "while "+w.expression(2)+" {")
			w.block(tabs)
			w.line(tabs, "}")
		case choice == 4:
			w.line(tabs, "do "+w.call(3)+";")
		default:
			w.line(tabs, "print "+w.expression(4)+";")
		}
	}
}

func (w *author) call(deep int) string {
	f := w.calls[w.r.Intn(len(w.calls))]
	w.nest()
	var l []string
	for range w.r.Intn(4) {
		l = append(l, w.expression(deep-1))
	}
	w.open--
	return f + "(" + strings.Join(l, ", ") + ")"
}

func (w *author) expression(deep int) string {
	choice := w.r.Intn(9)
	if deep <= 0 {
		choice = w.r.Intn(4)
	}
	switch choice {
	case 0:
		return strconv.FormatInt(w.r.Int63()>>w.r.Intn(63), 10)
	case 1:
		return []string{"true", "false", "read"}[w.r.Intn(3)]
	case 4, 5:
		w.nest()
		s := string("!-"[w.r.Intn(2)]) + w.expression(deep-1)
		w.open--
		return s
	case 6, 7:
		w.nest()
		s := "(" + w.expression(deep-1) + " " + grammar.Sign(1+w.r.Int63n(13)) + " " + w.expression(deep-1) + ")"
		w.open--
		return s
	case 8:
		return w.call(deep)
	}
	if len(w.visible) == 0 {
		return "0"
	}
	return w.visible[w.r.Intn(len(w.visible))]
}

// TestRoundTrip: P10.3, from the text and from the arena.
func TestRoundTrip(t *testing.T) {
	r := rand.New(rand.NewSource(21))
	for i := range 3000 {
		w := &author{r: r}
		want := w.program()
		s := want
		if i%2 == 0 { // as other texts of the same program
			l, _ := token.All(want)
			s = "# other\n" + token.Join(l...)
		}
		a := parsed(t, s)
		wantPrint(t, a, want)
		if b := parsed(t, want); !arena.Same(a, b) || !text.Shaped(b) {
			t.Fatalf("%q is another program", want)
		}
		if d := text.Depth(a, 1); d != w.depth {
			t.Fatalf("%q: Depth %d, want %d", want, d, w.depth)
		}
	}
}

// TestExprWithin: the text of an expression is within that of the program.
func TestExprWithin(t *testing.T) {
	r := rand.New(rand.NewSource(22))
	for range 30 {
		w := &author{r: r}
		s := w.program()
		a := parsed(t, s)
		for id, n := range a.Walk(a.Root()) {
			e, err := text.Expr(a, id)
			if (err == api.OK) != (n.Kind >= arena.Int) || !strings.Contains(s, e) {
				t.Fatalf("%q in %q: error %d", e, s, err)
			}
			if err == api.OK && n.Kind == arena.Bin {
				x, _ := text.Expr(a, n.Kids[0])
				y, _ := text.Expr(a, n.Kids[1])
				if e != "("+x+" "+grammar.Sign(n.Num)+" "+y+")" {
					t.Fatalf("%q of %q and %q", e, x, y)
				}
			}
		}
	}
}

// TestRoundTripOfLongTexts: a text without gaps may be too long when printed.
func TestRoundTripOfLongTexts(t *testing.T) {
	deep := strings.Repeat("while b{", 80) + strings.Repeat("a=1;", 5000) + strings.Repeat("}", 80)
	a := parsed(t, strings.Replace(returning("0"), "return", deep+" return", 1))
	wantError(t, a, api.ErrLong)
	if !text.Shaped(a) || text.Depth(a, 1) != 80 {
		t.Fatal("a long program is not Shaped")
	}
}
