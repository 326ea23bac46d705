package site_test

import (
	"math"
	"slices"
	"strings"
	"testing"

	"hourglass/api"
	"hourglass/arena"
	"hourglass/site"
	"hourglass/text"
	"hourglass/trial"
)

const village = `module main {
	func main() int {
		let x int = (1 + 2);
		while (x < 3) {
			x = (x + 1);
			if true {
				print x;
			} else {
			}
		}
		return -x;
	}
	func f(a int, b int) int {
		print (a + b);
		return main.f(b, a);
	}
}
`

// The nodes of village.
const (
	main     = 2
	mainMain = 3
	body     = 4 // of main.main
	letX     = 5
	sum      = 6
	one      = 7
	two      = 8
	loop     = 9
	less     = 10
	three    = 12
	inLoop   = 13 // the loop's block
	assign   = 14
	choice   = 18
	first    = 20 // the block of choice in which x is printed
	printed  = 22 // that x
	second   = 23 // the empty block
	returned = 24
	minus    = 25
	f        = 27
	a        = 28
	b        = 29
	bodyOfF  = 30
	ab       = 32 // (a + b)
	readA    = 33
	readB    = 34
	call     = 36
	last     = 38 // the a in it
)

func right(t *testing.T) *arena.Arena {
	t.Helper()
	return trial.Right(t, village)
}

// nowhere are IDs that village does not have.
func nowhere() []api.ID {
	return []api.ID{0, last + 1, 1000, math.MaxUint64}
}

func wantKids(t *testing.T, a *arena.Arena, id api.ID, want ...api.ID) {
	t.Helper()
	if n, _ := a.Get(id); !slices.Equal(n.Kids, want) {
		t.Errorf("the children of %d are %d, want %d", id, n.Kids, want)
	}
}

// wantOnly expects that nothing is changed but the children of one node.
func wantOnly(t *testing.T, got, before *arena.Arena, id api.ID, kids ...api.ID) {
	t.Helper()
	if want := trial.With(before, id, func(n *api.Node) { n.Kids = kids }); !arena.Same(got, want) {
		n, _ := got.Get(id)
		t.Errorf("%d has the children %d, want %d, or something else has changed", id, n.Kids, kids)
	}
}

func TestVillage(t *testing.T) {
	p := right(t)
	trial.WantText(t, "village", trial.Of(p, api.OK), village)
	for id, want := range map[api.ID]string{sum: "(1 + 2)", less: "(x < 3)", printed: "x", minus: "-x", ab: "(a + b)", call: "main.f(b, a)", last: "a"} {
		if got, _ := text.Expr(p, id); got != want {
			t.Errorf("%d is %s, want %s", id, got, want)
		}
	}
	for id, kind := range map[api.ID]byte{mainMain: arena.Func, body: arena.Block, inLoop: arena.Block, assign: arena.Assign, choice: arena.If, first: arena.Block, second: arena.Block, returned: arena.Return, a: arena.Param, bodyOfF: arena.Block} {
		if n, _ := p.Get(id); n.Kind != kind {
			t.Errorf("%d has kind %d, want %d", id, n.Kind, kind)
		}
	}
	if p.Len() != last {
		t.Error(p.Len())
	}
}

// place is what Statement returns.
type place struct {
	statement, block api.ID
	at               int
}

func wantPlace(t *testing.T, a *arena.Arena, id api.ID, want place) {
	t.Helper()
	statement, block, at := site.Statement(a, id)
	if got := (place{statement, block, at}); got != want {
		t.Errorf("Statement of %d: %d, want %d", id, got, want)
	}
}

func TestStatement(t *testing.T) {
	p := right(t)
	inside := func(want place, ids ...api.ID) {
		t.Helper()
		for _, id := range ids {
			wantPlace(t, p, id, want)
		}
	}
	inside(place{}, 1, main, mainMain, body, f, a, b, bodyOfF)
	inside(place{letX, body, 0}, letX, sum, one, two)
	inside(place{loop, body, 1}, loop, less, less+1, three, inLoop)
	inside(place{assign, inLoop, 0}, assign, assign+1, assign+2, assign+3)
	inside(place{choice, inLoop, 1}, choice, choice+1, first, second)
	inside(place{first + 1, first, 0}, first+1, printed)
	inside(place{returned, body, 2}, returned, minus, minus+1)
	inside(place{bodyOfF + 1, bodyOfF, 0}, bodyOfF+1, ab, readA, readB)
	inside(place{call - 1, bodyOfF, 1}, call-1, call, call+1, last)
	inside(place{}, nowhere()...)
}

// TestStatementApart: of nodes that are no children any more, of those below
// them, and in a ring.
func TestStatementApart(t *testing.T) {
	p := right(t)
	site.Remove(p, assign)
	site.Remove(p, minus)
	wantPlace(t, p, assign, place{})
	wantPlace(t, p, assign+2, place{})
	wantPlace(t, p, minus, place{})
	wantPlace(t, p, choice, place{choice, inLoop, 0})
	wantPlace(t, p, returned, place{returned, body, 2})

	p = right(t)
	site.Replace(p, sum, one) // (1 + 2) is no child any more, 1 is one of the Let's and of it
	wantPlace(t, p, one, place{letX, body, 0})
	wantPlace(t, p, two, place{})
	site.Replace(p, one, sum)
	site.Replace(p, two, sum) // it is below itself, but also below the Let, which is smaller
	wantPlace(t, p, sum, place{letX, body, 0})
	site.Remove(p, sum)
	wantPlace(t, p, sum, place{})
	wantPlace(t, p, one, place{})
}

func TestReplace(t *testing.T) {
	p := right(t)
	before := p.Copy()
	if !site.Replace(p, sum, three) {
		t.Error("Replace has failed")
	}
	wantOnly(t, p, before, letX, three)
	before = p.Copy()
	if !site.Replace(p, two, one) { // below what is no child any more
		t.Error("Replace has failed")
	}
	wantOnly(t, p, before, sum, one, one)
}

// TestReplaceAnywhere: at each place, by each node, also by an ancestor and by
// itself.
func TestReplaceAnywhere(t *testing.T) {
	for _, old := range right(t).IDs()[1:] {
		for id := api.ID(1); id <= last; id++ {
			p := right(t)
			before := p.Copy()
			parent, at := p.Parent(old)
			n, _ := p.Get(parent)
			n.Kids[at] = id
			if !site.Replace(p, old, id) {
				t.Fatalf("Replace of %d by %d has failed", old, id)
			}
			wantOnly(t, p, before, parent, n.Kids...)
		}
	}
}

// TestReplaceOfSeveral: a node that is a child in several places is replaced in
// the first one of its Parent.
func TestReplaceOfSeveral(t *testing.T) {
	p := right(t)
	site.Insert(p, call, 0, readB)
	site.Insert(p, call, 3, readB)
	site.Insert(p, ab, 0, readB) // a smaller node than the call
	wantKids(t, p, call, readB, call+1, last, readB)
	wantKids(t, p, ab, readB, readA, readB)
	for range 2 {
		if !site.Replace(p, readB, one) {
			t.Error("Replace has failed")
		}
	}
	wantKids(t, p, ab, one, readA, one)
	site.Replace(p, readB, two)
	wantKids(t, p, call, two, call+1, last, readB)
	site.Replace(p, readB, three)
	wantKids(t, p, call, two, call+1, last, three)
	if site.Replace(p, readB, one) {
		t.Error("Replace of a node without a parent")
	}
}

func TestReplaceFails(t *testing.T) {
	p := right(t)
	for _, id := range append(nowhere(), sum) {
		if site.Replace(p, 1, id) {
			t.Errorf("Replace of the root by %d", id)
		}
	}
	for _, none := range nowhere() {
		for _, id := range append(nowhere(), sum) {
			if site.Replace(p, none, id) || site.Replace(p, id, none) {
				t.Errorf("Replace of %d by %d", none, id)
			}
		}
	}
	if !arena.Same(p, right(t)) {
		t.Error("something has changed")
	}
}

func TestInsert(t *testing.T) {
	for under, n := range right(t).Walk(1) {
		for at := range len(n.Kids) + 1 {
			for _, id := range []api.ID{1, under, printed, returned} {
				p := right(t)
				if !site.Insert(p, under, at, id) {
					t.Fatalf("Insert of %d under %d at %d has failed", id, under, at)
				}
				wantOnly(t, p, right(t), under, slices.Concat(n.Kids[:at], []api.ID{id}, n.Kids[at:])...)
			}
		}
	}
}

func TestInsertFails(t *testing.T) {
	p := right(t)
	for under, n := range p.Walk(1) {
		for _, at := range []int{math.MinInt, -1, len(n.Kids) + 1, len(n.Kids) + 2, math.MaxInt} {
			if site.Insert(p, under, at, one) {
				t.Errorf("Insert under %d at %d", under, at)
			}
		}
		for _, id := range nowhere() {
			if site.Insert(p, under, 0, id) || site.Insert(p, id, 0, under) || site.Insert(p, id, 0, id) {
				t.Errorf("Insert of %d under %d, or of that under it", id, under)
			}
		}
	}
	if !arena.Same(p, right(t)) {
		t.Error("something has changed")
	}
}

func TestRemove(t *testing.T) {
	for _, id := range right(t).IDs()[1:] {
		p := right(t)
		parent, at := p.Parent(id)
		n, _ := p.Get(parent)
		if !site.Remove(p, id) {
			t.Fatalf("Remove of %d has failed", id)
		}
		wantOnly(t, p, right(t), parent, slices.Delete(n.Kids, at, at+1)...)
		before := p.Copy()
		if site.Remove(p, id) || !arena.Same(p, before) {
			t.Errorf("Remove of %d, again", id)
		}
	}
	p := right(t)
	for _, id := range append(nowhere(), 1) {
		if site.Remove(p, id) || !arena.Same(p, right(t)) {
			t.Errorf("Remove of %d", id)
		}
	}
}

// TestRemoveOfSeveral: it is no child of its Parent any more, but still one of
// other nodes.
func TestRemoveOfSeveral(t *testing.T) {
	p := right(t)
	site.Insert(p, call, 0, readB)
	site.Insert(p, ab, 0, readB)
	wantKids(t, p, ab, readB, readA, readB)
	if !site.Remove(p, readB) {
		t.Error("Remove has failed")
	}
	wantKids(t, p, ab, readA)
	wantKids(t, p, call, readB, call+1, last)
	if parent, at := p.Parent(readB); parent != call || at != 0 {
		t.Error(parent, at)
	}
	if !site.Remove(p, readB) || site.Remove(p, readB) {
		t.Error("Remove of the call's")
	}
	wantKids(t, p, call, call+1, last)
}

func TestFree(t *testing.T) {
	p := right(t)
	for id, want := range map[api.ID][]api.ID{
		1: {letX, a, b}, mainMain: {letX}, letX: nil, sum: nil, loop: {letX}, less: {letX}, assign: {letX}, printed: {letX}, second: nil, minus: {letX},
		f: {a, b}, a: nil, bodyOfF: {a, b}, ab: {a, b}, readA: {a}, readB: {b}, call: {b, a}, last: {a},
		0: nil, last + 1: nil, math.MaxUint64: nil,
	} {
		if got := site.Free(p, id); !slices.Equal(got, want) {
			t.Errorf("Free of %d: %d, want %d", id, got, want)
		}
	}
	site.Insert(p, call, 0, ab)
	if got := site.Free(p, call); !slices.Equal(got, []api.ID{a, b}) {
		t.Error(got)
	}
	site.Remove(p, assign+1)
	if got := site.Free(p, assign); len(got) > 0 { // which sets x, and reads nothing any more
		t.Error(got)
	}
	site.Remove(p, ab)
	if got := site.Free(p, ab); !slices.Equal(got, []api.ID{a, b}) {
		t.Error(got)
	}
	site.Replace(p, readA, ab) // a ring
	if got := site.Free(p, ab); !slices.Equal(got, []api.ID{b}) {
		t.Error(got)
	}
}

func TestNil(t *testing.T) {
	wantPlace(t, nil, 1, place{})
	id, ok := site.Make(nil, api.Node{Kind: arena.Int}, trial.One(5))
	clone, cloned := site.Clone(nil, 1, nil, trial.One(5))
	if site.Replace(nil, 1, 1) || site.Insert(nil, 1, 0, 1) || site.Remove(nil, 1) || len(site.Free(nil, 1)) > 0 || id != 0 || ok || clone != 0 || cloned {
		t.Error("something can be done to nil")
	}
}

// TestFullArena: where there is no room for more nodes, children can still be
// changed.
func TestFullArena(t *testing.T) {
	const others = 7 // Program, main, main, its Block, Return, -, 1
	p := trial.Right(t, "module main { func main() int { "+strings.Repeat("print 1; ", (api.MaxNodes-1-others)/2)+"return -1; } }")
	made, ok := site.Make(p, api.Node{Kind: arena.Int}, trial.One(api.MaxNodes))
	if made != api.MaxNodes || !ok || p.Len() != api.MaxNodes {
		t.Fatal(made, ok, p.Len())
	}
	before := p.Copy()
	s := trial.Source{IDs: []api.ID{30001, 30002, 30003}}
	if id, ok := site.Make(p, api.Node{Kind: arena.Int}, s.Next); ok || id != 0 || !arena.Same(p, before) {
		t.Error(id, ok)
	}
	if id, ok := site.Clone(p, made, nil, s.Next); ok || id != 0 || !arena.Same(p, before) {
		t.Error(id, ok)
	}
	const int1 = 6 // the first one that is printed
	if !site.Replace(p, int1, made) || !site.Insert(p, made, 0, int1) || !site.Remove(p, made) {
		t.Error("the children cannot be changed")
	}
	wantPlace(t, p, api.MaxNodes-1, place{api.MaxNodes - 3, 4, (api.MaxNodes - 1 - others) / 2})
	site.Remove(p, int1)
	p.Drop(int1)
	if id, ok := site.Clone(p, made, nil, s.Next); !ok || p.Len() != api.MaxNodes {
		t.Error(id, ok, p.Len())
	}
}
