package grammar_test

import (
	"math/rand"
	"slices"
	"strconv"
	"strings"
	"testing"

	"hourglass/api"
	"hourglass/arena"
	"hourglass/grammar"
)

// mention is a place at which a text defines or uses a name. A variable is
// visible in the blocks of its scope and in those within them.
type mention struct {
	node    api.ID
	name    string
	defines bool
	space   string // of names: those of another one do not matter
	blocks  []int
}

// author writes a random program: its tokens, the nodes that they should
// become, and the mentions, in the order in which they are to be checked.
type author struct {
	r        *rand.Rand
	careless int // of a hundred names, so many are not looked up
	tokens   []string
	nodes    []api.Node
	mentions []mention
	calls    []mention // space is the module, name the function
	modules  []string
	funcs    [][]string
	function string // the space of its variables
	blocks   []int
	opened   int
}

func (w *author) write(tokens ...string) {
	w.tokens = append(w.tokens, tokens...)
}

func (w *author) grow(under api.ID, n api.Node) api.ID {
	w.nodes = append(w.nodes, n)
	id := api.ID(len(w.nodes))
	if under != 0 {
		w.nodes[under-1].Kids = append(w.nodes[under-1].Kids, id)
	}
	return id
}

func (w *author) mention(node api.ID, name string, defines bool, space string) {
	w.mentions = append(w.mentions, mention{node, name, defines, space, slices.Clone(w.blocks)})
}

// within reports whether what is visible in one place is so in another.
func within(outer, inner []int) bool {
	return len(outer) <= len(inner) && slices.Equal(outer, inner[:len(outer)])
}

func (w *author) randomName() string {
	return []string{"a", "b", "c", "d", "e", "m", "n", "f", "g", "main"}[w.r.Intn(10)]
}

// newName is mostly one that its space does not have yet.
func (w *author) newName(space string) string {
	if w.r.Intn(100) < w.careless {
		return w.randomName()
	}
	for i := 0; ; i++ {
		name := w.randomName() + strings.Repeat("x", i/10)
		if !slices.ContainsFunc(w.mentions, func(m mention) bool { return m.defines && m.space == space && m.name == name }) {
			return name
		}
	}
}

// knownName is mostly one that is visible; there may be none.
func (w *author) knownName() (string, bool) {
	if w.r.Intn(100) < w.careless {
		return w.randomName(), true
	}
	var l []string
	for _, m := range w.mentions {
		if m.defines && m.space == w.function && within(m.blocks, w.blocks) {
			l = append(l, m.name)
		}
	}
	if len(l) == 0 {
		return "", false
	}
	return l[w.r.Intn(len(l))], true
}

func (w *author) program() {
	for range w.r.Intn(4) {
		name := w.randomName()
		if w.r.Intn(100) >= w.careless && slices.Contains(w.modules, name) {
			continue
		}
		var l []string
		for range w.r.Intn(4) {
			f := w.randomName()
			if w.r.Intn(100) < w.careless || !slices.Contains(l, f) {
				l = append(l, f)
			}
		}
		w.modules, w.funcs = append(w.modules, name), append(w.funcs, l)
	}
	root := w.grow(0, api.Node{Kind: arena.Program})
	for i, name := range w.modules {
		id := w.grow(root, api.Node{Kind: arena.Module, Name: name})
		w.mention(id, name, true, "modules")
		w.write("module", name, "{")
		for j, f := range w.funcs[i] {
			w.writeFunction(id, f, strconv.Itoa(i), strconv.Itoa(j))
		}
		w.write("}")
	}
}

func (w *author) randomType() (string, byte) {
	if w.r.Intn(2) == 0 {
		return "int", arena.Number
	}
	return "bool", arena.Truth
}

func (w *author) writeFunction(module api.ID, name, i, j string) {
	word, kind := w.randomType()
	id := w.grow(module, api.Node{Kind: arena.Func, Name: name, Type: kind})
	w.mention(id, name, true, "functions of "+i)
	w.function = "variables of " + i + " " + j
	w.write("func", name, "(")
	for k := range w.r.Intn(4) {
		if k > 0 {
			w.write(",")
		}
		word, kind := w.randomType()
		parameter := w.newName(w.function)
		w.mention(w.grow(id, api.Node{Kind: arena.Param, Name: parameter, Type: kind}), parameter, true, w.function)
		w.write(parameter, word)
	}
	w.write(")", word, "{")
	block := w.grow(id, api.Node{Kind: arena.Block})
	w.statements(block, 3)
	w.write("return")
	w.expression(w.grow(block, api.Node{Kind: arena.Return}), 3)
	w.write(";", "}")
}

func (w *author) statements(block api.ID, deep int) {
	for range w.r.Intn(5) {
		w.statement(block, deep)
	}
}

func (w *author) block(under api.ID, deep int) {
	w.opened++
	w.blocks = append(w.blocks, w.opened)
	w.write("{")
	w.statements(w.grow(under, api.Node{Kind: arena.Block}), deep)
	w.write("}")
	w.blocks = w.blocks[:len(w.blocks)-1]
}

func (w *author) statement(block api.ID, deep int) {
	choice := w.r.Intn(7)
	if deep == 0 && (choice == 2 || choice == 3) {
		choice = 0
	}
	switch choice {
	case 0, 6:
		word, kind := w.randomType()
		name := w.newName(w.function)
		id := w.grow(block, api.Node{Kind: arena.Let, Name: name, Type: kind})
		w.write("let", name, word, "=")
		w.expression(id, 3)
		w.mention(id, name, true, w.function)
		w.write(";")
	case 1:
		name, ok := w.knownName()
		if !ok {
			return
		}
		id := w.grow(block, api.Node{Kind: arena.Assign})
		w.mention(id, name, false, w.function)
		w.write(name, "=")
		w.expression(id, 3)
		w.write(";")
	case 2:
		id := w.grow(block, api.Node{Kind: arena.If})
		w.write("if")
		w.expression(id, 2)
		w.block(id, deep-1)
		w.write("else")
		w.block(id, deep-1)
	case 3:
		id := w.grow(block, api.Node{Kind: arena.While})
		w.write("while")
		w.expression(id, 2)
		w.block(id, deep-1)
	case 4:
		w.write("print")
		w.expression(w.grow(block, api.Node{Kind: arena.Print}), 4)
		w.write(";")
	case 5:
		module, f, ok := w.knownCall()
		if !ok {
			return
		}
		w.write("do")
		w.call(w.grow(block, api.Node{Kind: arena.Do}), module, f, 3)
		w.write(";")
	}
}

func (w *author) knownCall() (string, string, bool) {
	if w.r.Intn(100) < w.careless {
		return w.randomName(), w.randomName(), true
	}
	i := w.r.Intn(len(w.modules))
	if len(w.funcs[i]) == 0 {
		return "", "", false
	}
	return w.modules[i], w.funcs[i][w.r.Intn(len(w.funcs[i]))], true
}

func (w *author) call(under api.ID, module, f string, deep int) {
	id := w.grow(under, api.Node{Kind: arena.Call})
	w.calls = append(w.calls, mention{node: id, name: f, space: module})
	w.write(module, ".", f, "(")
	for i := range w.r.Intn(4) {
		if i > 0 {
			w.write(",")
		}
		w.expression(id, deep-1)
	}
	w.write(")")
}

func (w *author) expression(under api.ID, deep int) {
	choice := w.r.Intn(10)
	if deep <= 0 {
		choice = w.r.Intn(5)
	}
	switch choice {
	case 0:
		n := w.r.Int63() >> w.r.Intn(63)
		w.grow(under, api.Node{Kind: arena.Int, Num: n})
		w.write(strconv.FormatInt(n, 10))
	case 1:
		n := w.r.Int63n(2)
		w.grow(under, api.Node{Kind: arena.Bool, Num: n})
		w.write([]string{"false", "true"}[n])
	case 2:
		w.grow(under, api.Node{Kind: arena.Read})
		w.write("read")
	case 5:
		w.write("!")
		w.expression(w.grow(under, api.Node{Kind: arena.Not}), deep-1)
	case 6:
		w.write("-")
		w.expression(w.grow(under, api.Node{Kind: arena.Neg}), deep-1)
	case 7, 8:
		op := w.r.Intn(len(writtenSigns))
		id := w.grow(under, api.Node{Kind: arena.Bin, Num: int64(op + 1)})
		w.write("(")
		w.expression(id, deep-1)
		w.write(writtenSigns[op])
		w.expression(id, deep-1)
		w.write(")")
	case 9:
		if module, f, ok := w.knownCall(); ok {
			w.call(under, module, f, deep)
			return
		}
		w.expression(under, deep)
	default:
		name, ok := w.knownName()
		if !ok {
			w.expression(under, deep)
			return
		}
		w.mention(w.grow(under, api.Node{Kind: arena.Var}), name, false, w.function)
		w.write(name)
	}
}

// resolve sets the Refs, and returns the error that comes first. It looks at
// all mentions anew for each of them.
func (w *author) resolve() api.Errno {
	for i, m := range w.mentions {
		var found api.ID
		for _, before := range w.mentions[:i] {
			if before.defines && before.space == m.space && before.name == m.name && (m.defines || within(before.blocks, m.blocks)) {
				found = before.node
			}
		}
		if m.defines && found != 0 {
			return api.ErrClash
		}
		if !m.defines && found == 0 {
			return api.ErrName
		}
		if !m.defines {
			w.nodes[m.node-1].Ref = found
		}
	}
	for _, c := range w.calls {
		i := slices.Index(w.modules, c.space)
		if i < 0 || !slices.Contains(w.funcs[i], c.name) {
			return api.ErrName
		}
		w.nodes[c.node-1].Ref = w.find("modules", c.space, c.name)
	}
	return api.OK
}

func (w *author) find(space, module, f string) api.ID {
	at := slices.IndexFunc(w.mentions, func(m mention) bool { return m.space == space && m.name == module })
	for _, id := range w.nodes[w.mentions[at].node-1].Kids {
		if w.nodes[id-1].Name == f {
			return id
		}
	}
	return 0
}

// joined returns a text of tokens, with random gaps between them.
func joined(r *rand.Rand, tokens []string) string {
	var b strings.Builder
	alone := "(){},;"
	for i, s := range tokens {
		if i > 0 && r.Intn(3) == 0 && (strings.Contains(alone, tokens[i-1]) || strings.Contains(alone, s)) {
			b.WriteString(s)
			continue
		}
		b.WriteString([]string{" ", "\n", "\t", "  ", "# x = 1;\n", " #\n\t"}[r.Intn(6)])
		b.WriteString(s)
	}
	return b.String()
}

func TestRandomPrograms(t *testing.T) {
	r := rand.New(rand.NewSource(17))
	times := map[api.Errno]int{}
	for i := range 6000 {
		w := &author{r: r, careless: []int{0, 0, 1, 5, 50}[i%5]}
		w.program()
		text := joined(r, w.tokens)
		want := w.resolve()
		times[want]++
		if want != api.OK {
			wantError(t, text, want)
			continue
		}
		wantNodes(t, text, w.nodes...)
	}
	for _, e := range []api.Errno{api.OK, api.ErrName, api.ErrClash} {
		if times[e] < 100 {
			t.Errorf("error %d occurs only %d times", e, times[e])
		}
	}
}

// TestIDsAreInWalksOrder looks at random programs, and that they are Trees.
func TestIDsAreInWalksOrder(t *testing.T) {
	r := rand.New(rand.NewSource(18))
	for range 500 {
		w := &author{r: r}
		w.program()
		a, e := grammar.Parse(joined(r, w.tokens))
		if e != api.OK || !a.Tree() {
			t.Fatalf("error %d", e)
		}
		var want api.ID
		for id := range a.Walk(a.Root()) {
			want++
			if id != want {
				t.Fatalf("%d, want %d", id, want)
			}
		}
	}
}
