package text_test

import (
	"math"
	"math/rand"
	"slices"
	"strconv"
	"strings"
	"testing"

	"hourglass/api"
	"hourglass/arena"
	"hourglass/grammar"
	"hourglass/text"
)

func TestShaped(t *testing.T) {
	for _, s := range []string{"", "module m {}", all, returning("0"), returning("m.f(1, m.f(), true, !2)"), "module m { func f() bool { if 1 {} else { while -true {} } return 1; } }"} {
		if !text.Shaped(parsed(t, s)) {
			t.Errorf("%q is not Shaped", s)
		}
	}
}

// change returns a copy of an arena in which a node is another one.
func change(a *arena.Arena, id api.ID, n api.Node) *arena.Arena {
	b := a.Copy()
	b.Put(id, n)
	return b
}

// wantShaped checks Shaped, and Print and Expr with it.
func wantShaped(t *testing.T, a *arena.Arena, want bool, what string) {
	t.Helper()
	if got := text.Shaped(a); got != want {
		t.Fatalf("%s: Shaped is %v", what, got)
	}
	if s, e := text.Print(a); (e == api.OK) != want || !want && (e != api.ErrForm || s != "") {
		t.Fatalf("%s: Print: error %d, %q", what, e, s)
	}
	if want {
		return
	}
	for id, n := range a.Walk(a.Root()) {
		if n.Kind != arena.Int {
			continue
		}
		if s, e := text.Expr(a, id); e != api.ErrForm || s != "" {
			t.Fatalf("%s: Expr: error %d, %q", what, e, s)
		}
		return
	}
}

// TestFields sets each field of each node of a program to other values.
func TestFields(t *testing.T) {
	a := parsed(t, all)
	has := func(kind byte, kinds ...byte) bool { return slices.Contains(kinds, kind) }
	for id, n := range a.Walk(a.Root()) {
		what := "kind " + strconv.Itoa(int(n.Kind))
		for _, name := range []string{"", "other", "_", strings.Repeat("n", api.MaxName), strings.Repeat("n", api.MaxName+1), "if", "read", "9", "a b", "a.b", "é", " "} {
			m := n
			m.Name = name
			good := name == "other" || name == "_" || name == strings.Repeat("n", api.MaxName)
			if !has(n.Kind, arena.Module, arena.Func, arena.Param, arena.Let) {
				good = name == ""
			}
			wantShaped(t, change(a, id, m), good, what+" with the name "+name)
		}
		for _, num := range []int64{0, 1, 2, 12, 13, 14, 15, -1, 257, math.MaxInt64, math.MinInt64} {
			m := n
			m.Num = num
			good := num == 0
			switch n.Kind {
			case arena.Int:
				good = num >= 0
			case arena.Bool:
				good = num == 0 || num == 1
			case arena.Bin:
				good = num >= 1 && num <= 13
			}
			wantShaped(t, change(a, id, m), good, what+" with the number "+strconv.FormatInt(num, 10))
		}
		for _, kind := range []byte{0, 1, 2, 3, 128, 255} {
			m := n
			m.Type = kind
			good := kind == 0
			if has(n.Kind, arena.Func, arena.Param, arena.Let) {
				good = kind == 1 || kind == 2
			}
			wantShaped(t, change(a, id, m), good, what+" with the type "+strconv.Itoa(int(kind)))
		}
		for ref := range api.ID(a.Len() + 2) {
			m := n
			m.Ref = ref
			to, _ := a.Get(ref)
			good := ref == 0
			switch n.Kind {
			case arena.Assign, arena.Var:
				good = has(to.Kind, arena.Param, arena.Let)
			case arena.Call:
				good = to.Kind == arena.Func
			}
			wantShaped(t, change(a, id, m), good, what+" that refers to "+strconv.Itoa(int(to.Kind)))
		}
	}
}

// plain returns a program in which the nodes are f(a int), with a statement of
// each kind, of which the expressions are mostly 1.
const plain = "module m{func f(a int)int{let x int=1;a=1;if 1{print 1;}else{}while 1{}print 1;do m.f(1);return (1+1);}}"

// samples returns nodes that may stand under a node of some kind, with
// everything below them, at IDs from 1000 on.
func samples() map[string][]api.Node {
	return map[string][]api.Node{
		"Program": {{Kind: arena.Program}}, "Module": {{Kind: arena.Module, Name: "o"}}, "Param": {{Kind: arena.Param, Name: "o", Type: 1}},
		"Func":  {{Kind: arena.Func, Name: "o", Type: 1, Kids: []api.ID{1001}}, {Kind: arena.Block, Kids: []api.ID{1002}}, {Kind: arena.Return, Kids: []api.ID{1003}}, {Kind: arena.Int}},
		"Block": {{Kind: arena.Block}}, "body": {{Kind: arena.Block, Kids: []api.ID{1001}}, {Kind: arena.Return, Kids: []api.ID{1002}}, {Kind: arena.Int}},
		"Let": {{Kind: arena.Let, Name: "o", Type: 2, Kids: []api.ID{1001}}, {Kind: arena.Int}}, "Assign": {{Kind: arena.Assign, Ref: 4, Kids: []api.ID{1001}}, {Kind: arena.Int}},
		"If":     {{Kind: arena.If, Kids: []api.ID{1001, 1002, 1003}}, {Kind: arena.Int}, {Kind: arena.Block}, {Kind: arena.Block}},
		"While":  {{Kind: arena.While, Kids: []api.ID{1001, 1002}}, {Kind: arena.Int}, {Kind: arena.Block}},
		"Return": {{Kind: arena.Return, Kids: []api.ID{1001}}, {Kind: arena.Int}}, "Print": {{Kind: arena.Print, Kids: []api.ID{1001}}, {Kind: arena.Int}},
		"Do": {{Kind: arena.Do, Kids: []api.ID{1001}}, {Kind: arena.Call, Ref: 3}}, "Int": {{Kind: arena.Int}}, "Bool": {{Kind: arena.Bool, Num: 1}}, "Var": {{Kind: arena.Var, Ref: 4}},
		"Not": {{Kind: arena.Not, Kids: []api.ID{1001}}, {Kind: arena.Int}}, "Neg": {{Kind: arena.Neg, Kids: []api.ID{1001}}, {Kind: arena.Int}},
		"Bin": {{Kind: arena.Bin, Num: 1, Kids: []api.ID{1001, 1002}}, {Kind: arena.Int}, {Kind: arena.Int}}, "Call": {{Kind: arena.Call, Ref: 3}}, "Read": {{Kind: arena.Read}},
		"none": {{}}, "kind 21": {{Kind: 21}}, "kind 255": {{Kind: 255}},
	}
}

const (
	expressions = " Int Bool Var Not Neg Bin Call Read "
	statements  = " Let Assign If While Print Do "
)

// takes tells which nodes can stand where the child at a position of a node of
// plain is.
func takes(n api.Node, at int) string {
	last := len(n.Kids) - 1
	switch n.Kind {
	case arena.Program:
		return " Module "
	case arena.Module:
		return " Func "
	case arena.Func:
		if at == last {
			return " body "
		}
		return " Param "
	case arena.Block:
		if at == last && len(n.Kids) > 1 {
			return " Return "
		}
		return statements
	case arena.If, arena.While:
		if at > 0 {
			return " Block "
		}
	case arena.Do:
		return " Call "
	}
	return expressions
}

// TestOtherChildren replaces each child by one of each kind.
func TestOtherChildren(t *testing.T) {
	a := parsed(t, plain)
	for id, n := range a.Walk(a.Root()) {
		for at := range n.Kids {
			for name, nodes := range samples() {
				b := a.Copy()
				m := arena.Whole(n)
				m.Kids[at] = 1000
				b.Put(id, m)
				b.Drop(n.Kids[at])
				for i, one := range nodes {
					b.Put(1000+api.ID(i), one)
				}
				// A Ref to what was dropped, or is no parameter any more, is wrong, too.
				if !b.Tree() || n.Kind == arena.Func && at == 0 && name == "Param" {
					wantShaped(t, b, false, name)
					continue
				}
				wantShaped(t, b, strings.Contains(takes(n, at), " "+name+" "), name+" under kind "+strconv.Itoa(int(n.Kind))+" at "+strconv.Itoa(at))
			}
		}
	}
}

// TestMoreChildren inserts one of each kind at each position.
func TestMoreChildren(t *testing.T) {
	a := parsed(t, plain)
	for id, n := range a.Walk(a.Root()) {
		for at := range len(n.Kids) + 1 {
			for name, nodes := range samples() {
				b := a.Copy()
				m := arena.Whole(n)
				m.Kids = slices.Insert(m.Kids, at, 1000)
				b.Put(id, m)
				for i, one := range nodes {
					b.Put(1000+api.ID(i), one)
				}
				what := ""
				switch parent, _ := a.Parent(id); n.Kind {
				case arena.Program:
					what = " Module "
				case arena.Module:
					what = " Func "
				case arena.Func:
					if at < len(n.Kids) {
						what = " Param "
					}
				case arena.Block:
					if parent != 3 || at < len(n.Kids) {
						what = statements
					}
				case arena.Call:
					what = expressions
				}
				wantShaped(t, b, strings.Contains(what, " "+name+" "), name+" more under kind "+strconv.Itoa(int(n.Kind))+" at "+strconv.Itoa(at))
			}
		}
	}
}

// TestFewerChildren removes each child.
func TestFewerChildren(t *testing.T) {
	a := parsed(t, plain)
	for id, n := range a.Walk(a.Root()) {
		for at, kid := range n.Kids {
			b := a.Copy()
			m := arena.Whole(n)
			m.Kids = slices.Delete(m.Kids, at, at+1)
			b.Put(id, m)
			wantShaped(t, b, false, "a child that is nowhere any more")
			b.Drop(kid)
			k, _ := a.Get(kid)
			good := n.Kind == arena.Program || n.Kind == arena.Module || n.Kind == arena.Call || n.Kind == arena.Block && k.Kind != arena.Return
			wantShaped(t, b, good && b.Tree(), "one child fewer of kind "+strconv.Itoa(int(n.Kind))+" at "+strconv.Itoa(at))
		}
	}
}

// TestSwappedChildren exchanges two children.
func TestSwappedChildren(t *testing.T) {
	a := parsed(t, "module m{func f(a int)int{while 1{}if 1{}else{}print 1;return (1+2);}}")
	swapped := func(id api.ID, i, j int) *arena.Arena {
		n, _ := a.Get(id)
		n.Kids[i], n.Kids[j] = n.Kids[j], n.Kids[i]
		return change(a, id, n)
	}
	wantShaped(t, swapped(3, 0, 1), false, "the body before the parameter")
	body, _ := a.Get(5)
	wantShaped(t, swapped(5, 0, 1), true, "two statements")
	wantShaped(t, swapped(5, 2, 3), false, "the Return before a statement")
	wantShaped(t, swapped(body.Kids[0], 0, 1), false, "the block before the condition of a While")
	wantShaped(t, swapped(body.Kids[1], 0, 1), false, "the block before the condition of an If")
	wantShaped(t, swapped(body.Kids[1], 0, 2), false, "the condition after the blocks")
	wantShaped(t, swapped(body.Kids[1], 1, 2), true, "the two blocks")
}

func TestWhatIsNoTreeIsNotShaped(t *testing.T) {
	a := parsed(t, all)
	wantShaped(t, change(a, 1000, api.Node{Kind: arena.Int}), false, "a node apart")
	wantShaped(t, change(a, 1, api.Node{Kind: arena.Module, Name: "m"}), false, "another root")
	b := a.Copy()
	b.Drop(1)
	wantShaped(t, b, false, "no root")
	n, _ := a.Get(1)
	n.Kids = append(n.Kids, n.Kids[0])
	wantShaped(t, change(a, 1, n), false, "a module twice")
	n.Kids[3] = 1000
	wantShaped(t, change(a, 1, n), false, "a child that is no node")
	n.Kids[3] = 1
	wantShaped(t, change(a, 1, n), false, "the root within itself")
}

// careless prints also what is not Shaped: what is missing, of another kind or
// not printable becomes a ?, what is too much is left out.
type careless struct {
	a *arena.Arena
}

func (c careless) get(n api.Node, at int) api.Node {
	if at >= len(n.Kids) {
		return api.Node{}
	}
	m, _ := c.a.Get(n.Kids[at])
	return m
}

func (c careless) all(n api.Node, from, to int, between string) string {
	var l []string
	for at := from; at < to; at++ {
		l = append(l, c.print(c.get(n, at)))
	}
	return strings.Join(l, between)
}

func (c careless) to(n api.Node, kinds ...byte) string {
	m, _ := c.a.Get(n.Ref)
	if !slices.Contains(kinds, m.Kind) {
		return "?"
	}
	if m.Kind == arena.Func {
		parent, _ := c.a.Parent(n.Ref)
		p, _ := c.a.Get(parent)
		return p.Name + "." + m.Name
	}
	return m.Name
}

func (c careless) print(n api.Node) string {
	kind := []string{"?", "int", "bool", "?"}[min(n.Type, 3)]
	size := len(n.Kids)
	one := func(at int) string { return c.print(c.get(n, at)) }
	switch n.Kind {
	case arena.Module:
		return "module " + n.Name + "{" + c.all(n, 0, size, " ") + "}"
	case arena.Func:
		return "func " + n.Name + "(" + c.all(n, 0, size-1, ",") + ")" + kind + one(max(size-1, 0))
	case arena.Param:
		return n.Name + " " + kind
	case arena.Block:
		return "{" + c.all(n, 0, size, " ") + "}"
	case arena.Let:
		return "let " + n.Name + " " + kind + "=" + one(0) + ";"
	case arena.Assign:
		return c.to(n, arena.Param, arena.Let) + "=" + one(0) + ";"
	case arena.If:
		return "if " + one(0) + one(1) + "else" + one(2)
	case arena.While:
		return "while " + one(0) + one(1)
	case arena.Return:
		return "return " + one(0) + ";"
	case arena.Print:
		return "print " + one(0) + ";"
	case arena.Do:
		return "do " + one(0) + ";"
	case arena.Int:
		return strconv.FormatInt(n.Num, 10)
	case arena.Bool:
		return strconv.FormatBool(n.Num == 1)
	case arena.Var:
		return c.to(n, arena.Param, arena.Let)
	case arena.Not:
		return "!" + one(0)
	case arena.Neg:
		return "-" + one(0)
	case arena.Bin:
		return "(" + one(0) + grammar.Sign(n.Num) + one(1) + ")"
	case arena.Call:
		return c.to(n, arena.Func) + "(" + c.all(n, 0, size, ",") + ")"
	case arena.Read:
		return "read"
	}
	return "?"
}

// spoiled returns a copy of an arena with a random change or two.
func spoiled(r *rand.Rand, a *arena.Arena) *arena.Arena {
	b := a.Copy()
	next := api.ID(5000)
	for range 1 + r.Intn(2) {
		ids := b.IDs()
		id := ids[r.Intn(len(ids))]
		n, _ := b.Get(id)
		other := ids[r.Intn(len(ids))]
		size := len(n.Kids)
		switch r.Intn(9) {
		case 0:
			n.Kind = byte(r.Intn(22))
		case 1:
			n.Name = []string{"", "other" + strconv.Itoa(int(id)), "if", "1"}[r.Intn(4)]
		case 2:
			n.Num = []int64{0, 1, 2, 13, 14, -1}[r.Intn(6)]
		case 3:
			n.Type = byte(r.Intn(4))
		case 4:
			n.Ref = []api.ID{0, other, other, 4, 3}[r.Intn(5)]
		case 5:
			if size > 0 {
				b.Drop(n.Kids[size-1])
				n.Kids = n.Kids[:size-1]
			}
		case 6:
			next++
			b.Put(next, api.Node{Kind: byte(r.Intn(22))})
			n.Kids = slices.Insert(n.Kids, r.Intn(size+1), next)
		case 7:
			if size > 1 {
				i, j := r.Intn(size), r.Intn(size)
				n.Kids[i], n.Kids[j] = n.Kids[j], n.Kids[i]
			}
		case 8:
			if m, _ := b.Get(other); size > 0 && len(m.Kids) > 0 && other != id { // exchange what is below them
				n.Kids[0], m.Kids[0] = m.Kids[0], n.Kids[0]
				b.Put(other, m)
			}
		}
		b.Put(id, n)
	}
	return b
}

// TestSpoiledPrograms: a Tree is Shaped if and only if there is a text of it,
// except for what names add to that, which is passed over.
func TestSpoiledPrograms(t *testing.T) {
	r := rand.New(rand.NewSource(20))
	shaped, unshaped, passed := 0, 0, 0
	bases := []*arena.Arena{parsed(t, all), parsed(t, plain)}
	for i := range 10000 {
		a := spoiled(r, bases[i%2])
		if !a.Tree() {
			wantShaped(t, a, false, "no Tree")
			continue
		}
		root, _ := a.Get(1)
		s := careless{a}.all(root, 0, len(root.Kids), " ")
		b, e := grammar.Parse(s)
		want := e == api.OK && arena.Alike(a, b)
		switch {
		case e == api.ErrName || e == api.ErrClash:
			passed++
			continue
		case want:
			shaped++
		default:
			unshaped++
		}
		wantShaped(t, a, want, s)
	}
	if shaped < 500 || unshaped < 500 || passed > 5000 {
		t.Fatal(shaped, unshaped, passed)
	}
}
