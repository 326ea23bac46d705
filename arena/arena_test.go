package arena_test

import (
	"math"
	"slices"
	"testing"

	"hourglass/api"
	"hourglass/arena"
)

// program returns an arena with these nodes, and with that of New unless 1 is
// among them.
func program(t *testing.T, nodes map[api.ID]api.Node) *arena.Arena {
	t.Helper()
	a := arena.New()
	for id, n := range nodes {
		if e := a.Put(id, n); e != api.OK {
			t.Fatalf("Put of %d: error %d", id, e)
		}
	}
	return a
}

func kids(l ...api.ID) api.Node {
	return api.Node{Kids: l}
}

// sum is module m { func f(a int) int { return (a + 1); } }.
func sum(t *testing.T) *arena.Arena {
	t.Helper()
	return program(t, map[api.ID]api.Node{
		1: {Kind: arena.Program, Kids: []api.ID{2}},
		2: {Kind: arena.Module, Name: "m", Kids: []api.ID{3}},
		3: {Kind: arena.Func, Name: "f", Type: arena.Number, Kids: []api.ID{4, 5}},
		4: {Kind: arena.Param, Name: "a", Type: arena.Number},
		5: {Kind: arena.Block, Kids: []api.ID{6}},
		6: {Kind: arena.Return, Kids: []api.ID{7}},
		7: {Kind: arena.Bin, Num: 1, Kids: []api.ID{8, 9}},
		8: {Kind: arena.Var, Ref: 4},
		9: {Kind: arena.Int, Num: 1},
	})
}

func same(m, n api.Node) bool {
	return m.Kind == n.Kind && m.Name == n.Name && m.Num == n.Num && m.Type == n.Type && m.Ref == n.Ref && slices.Equal(m.Kids, n.Kids)
}

func wantNode(t *testing.T, a *arena.Arena, id api.ID, want api.Node) {
	t.Helper()
	if n, ok := a.Get(id); !ok || !same(n, want) {
		t.Fatalf("Get of %d: %v, %v, want %v", id, n, ok, want)
	}
}

func wantAbsent(t *testing.T, a *arena.Arena, id api.ID) {
	t.Helper()
	if n, ok := a.Get(id); ok || !same(n, api.Node{}) {
		t.Fatalf("Get of %d: %v, %v", id, n, ok)
	}
}

func wantIDs(t *testing.T, a *arena.Arena, want ...api.ID) {
	t.Helper()
	if got := a.IDs(); !slices.Equal(got, want) || a.Len() != len(want) {
		t.Fatalf("IDs %v, Len %d, want %v", got, a.Len(), want)
	}
}

func wantParent(t *testing.T, a *arena.Arena, id, parent api.ID, at int) {
	t.Helper()
	if p, i := a.Parent(id); p != parent || i != at {
		t.Fatalf("Parent of %d: %d, %d, want %d, %d", id, p, i, parent, at)
	}
}

func walked(a *arena.Arena, id api.ID) []api.ID {
	var l []api.ID
	for id := range a.Walk(id) {
		l = append(l, id)
	}
	return l
}

func wantWalk(t *testing.T, a *arena.Arena, id api.ID, want ...api.ID) {
	t.Helper()
	if got := walked(a, id); !slices.Equal(got, want) {
		t.Fatalf("Walk of %d: %v, want %v", id, got, want)
	}
}

func TestKindsAndTypes(t *testing.T) {
	kinds := []byte{
		arena.Program, arena.Module, arena.Func, arena.Param, arena.Block, arena.Let, arena.Assign, arena.If, arena.While, arena.Return,
		arena.Print, arena.Do, arena.Int, arena.Bool, arena.Var, arena.Not, arena.Neg, arena.Bin, arena.Call, arena.Read,
	}
	for i, kind := range kinds {
		if int(kind) != i+1 {
			t.Errorf("kind %d, want %d", kind, i+1)
		}
	}
	if arena.None != 0 || arena.Number != 1 || arena.Truth != 2 {
		t.Error("types")
	}
}

func TestNew(t *testing.T) {
	a := arena.New()
	if a.Root() != 1 || !a.Tree() {
		t.Fatal(a.Root(), a.Tree())
	}
	wantIDs(t, a, 1)
	wantNode(t, a, 1, api.Node{Kind: arena.Program})
	wantWalk(t, a, 1, 1)
	wantParent(t, a, 1, 0, 0)
	a.Drop(1)
	if a.Root() != 1 || arena.New().Len() != 1 {
		t.Fatal("the root's ID, or another new arena, depends on what was dropped")
	}
}

func TestPutAndGet(t *testing.T) {
	a := arena.New()
	n := api.Node{Kind: 200, Name: "not a name", Num: math.MinInt64, Type: 9, Ref: 77, Kids: []api.ID{5, 0, 5, math.MaxUint64}}
	for _, id := range []api.ID{2, math.MaxUint64, 1 << 40} {
		if e := a.Put(id, n); e != api.OK {
			t.Fatal(e)
		}
		wantNode(t, a, id, n)
	}
	wantIDs(t, a, 1, 2, 1<<40, math.MaxUint64)
	m := api.Node{Kind: arena.Int, Num: 3}
	if e := a.Put(2, m); e != api.OK {
		t.Fatal(e)
	}
	wantNode(t, a, 2, m)
	wantNode(t, a, 1<<40, n)
	wantIDs(t, a, 1, 2, 1<<40, math.MaxUint64)
	wantAbsent(t, a, 0)
	wantAbsent(t, a, 3)
	wantAbsent(t, a, 5) // a child, but not a node
}

func TestPutOfNoID(t *testing.T) {
	a := arena.New()
	if e := a.Put(0, api.Node{Kind: arena.Int}); e != api.ErrArg {
		t.Fatal(e)
	}
	wantIDs(t, a, 1)
	wantAbsent(t, a, 0)
}

func TestPutIntoAFullArena(t *testing.T) {
	a := arena.New()
	for id := api.ID(2); id <= api.MaxNodes; id++ {
		if e := a.Put(id, api.Node{Kind: arena.Int}); e != api.OK {
			t.Fatalf("Put of %d: error %d", id, e)
		}
	}
	if e := a.Put(api.MaxNodes+1, kids(2)); e != api.ErrFull {
		t.Fatalf("one too many: error %d", e)
	}
	if e := a.Put(0, api.Node{}); e != api.ErrArg {
		t.Fatalf("ID 0: error %d", e)
	}
	wantAbsent(t, a, api.MaxNodes+1)
	wantParent(t, a, 2, 0, 0)
	n := api.Node{Kind: arena.Not, Kids: []api.ID{3}}
	if e := a.Put(2, n); e != api.OK {
		t.Fatalf("one of those: error %d", e)
	}
	wantNode(t, a, 2, n)
	if a.Len() != api.MaxNodes || a.Drop(2) != 2 || a.Put(api.MaxNodes+1, n) != api.OK || a.Put(3, n) != api.OK {
		t.Fatal("there is no room for as many as were dropped")
	}
	if e := a.Put(2, n); e != api.ErrFull {
		t.Fatalf("one too many again: error %d", e)
	}
}

func TestDrop(t *testing.T) {
	a := sum(t)
	if n := a.Drop(77); n != 0 {
		t.Fatalf("Drop of no node: %d", n)
	}
	if n := a.Drop(0); n != 0 {
		t.Fatalf("Drop of 0: %d", n)
	}
	if n := a.Drop(7); n != 3 {
		t.Fatalf("Drop of an expression: %d", n)
	}
	wantIDs(t, a, 1, 2, 3, 4, 5, 6)
	wantNode(t, a, 6, api.Node{Kind: arena.Return, Kids: []api.ID{7}}) // only nodes are removed
	if n := a.Drop(7); n != 0 {
		t.Fatalf("Drop of what was dropped: %d", n)
	}
	if n := a.Drop(1); n != 6 {
		t.Fatalf("Drop of the root: %d", n)
	}
	wantIDs(t, a)
	if a.Put(1, kids(7)) != api.OK {
		t.Fatal("an empty arena takes no node")
	}
}

func TestDropOfSharedNodesAndRings(t *testing.T) {
	a := program(t, map[api.ID]api.Node{
		1: kids(2, 3), 2: kids(4, 4, 9), 3: kids(4, 2), 4: kids(5), 5: kids(4, 3), 6: kids(4),
	})
	if n := a.Drop(2); n != 4 {
		t.Fatal(n)
	}
	wantIDs(t, a, 1, 6)
	if n := a.Drop(6); n != 1 {
		t.Fatal(n)
	}
	wantIDs(t, a, 1)
}

func TestParent(t *testing.T) {
	a := sum(t)
	wantParent(t, a, 1, 0, 0)
	wantParent(t, a, 2, 1, 0)
	wantParent(t, a, 4, 3, 0)
	wantParent(t, a, 5, 3, 1)
	wantParent(t, a, 9, 7, 1)
	wantParent(t, a, 77, 0, 0)
	wantParent(t, a, 0, 0, 0)
}

func TestParentOfSeveral(t *testing.T) {
	a := program(t, map[api.ID]api.Node{
		10: kids(7, 5, 5, 6, 5), 3: kids(8, 6, 9, 6), 20: kids(5, 6),
	})
	wantParent(t, a, 5, 10, 1)
	wantParent(t, a, 6, 3, 1)
	wantParent(t, a, 9, 3, 2) // which is not a node
	a.Put(10, kids(7, 6, 5))
	wantParent(t, a, 5, 10, 2)
	a.Put(10, kids(7))
	wantParent(t, a, 5, 20, 0)
	a.Put(2, kids(2, 5))
	wantParent(t, a, 5, 2, 1)
	wantParent(t, a, 2, 2, 0)
	a.Drop(3)
	wantParent(t, a, 6, 20, 1)
	a.Drop(20)
	wantParent(t, a, 6, 0, 0)
	a.Drop(2)
	wantParent(t, a, 5, 0, 0)
	wantParent(t, a, 7, 10, 0)
}

func TestWalk(t *testing.T) {
	a := sum(t)
	wantWalk(t, a, 1, 1, 2, 3, 4, 5, 6, 7, 8, 9)
	wantWalk(t, a, 6, 6, 7, 8, 9)
	wantWalk(t, a, 9, 9)
	wantWalk(t, a, 77)
	wantWalk(t, a, 0)
	a.Put(7, api.Node{Kind: arena.Bin, Kids: []api.ID{9, 8}})
	wantWalk(t, a, 5, 5, 6, 7, 9, 8)
	for id, n := range a.Walk(1) {
		wantNode(t, a, id, n)
	}
}

func TestWalkOfSharedNodesAndRings(t *testing.T) {
	a := program(t, map[api.ID]api.Node{
		1: kids(2, 3, 2), 2: kids(5, 77, 0), 3: kids(4, 1), 4: kids(5, 4, 6), 5: kids(3), 6: kids(2, 8), 8: kids(8),
	})
	wantWalk(t, a, 1, 1, 2, 5, 3, 4, 6, 8)
	wantWalk(t, a, 4, 4, 5, 3, 1, 2, 6, 8)
	wantWalk(t, a, 8, 8)
	wantWalk(t, a, 77)
}

func TestWalkStopsAndStartsAnew(t *testing.T) {
	w := sum(t).Walk(3)
	want := []api.ID{3, 4, 5, 6, 7, 8, 9}
	for most := 1; most <= len(want); most++ {
		var got []api.ID
		w(func(id api.ID, _ api.Node) bool {
			got = append(got, id)
			return len(got) < most
		})
		if !slices.Equal(got, want[:most]) {
			t.Fatalf("%v, want %v", got, want[:most])
		}
	}
}

// TestWalkIsOfTheCall changes the arena between the call and the walk, and in
// the midst of it.
func TestWalkIsOfTheCall(t *testing.T) {
	a := sum(t)
	w := a.Walk(6)
	a.Put(7, api.Node{Kind: arena.Int})
	a.Drop(9)
	for range 2 {
		var got []api.ID
		for id, n := range w {
			got = append(got, id)
			if id == 7 && !same(n, api.Node{Kind: arena.Bin, Num: 1, Kids: []api.ID{8, 9}}) {
				t.Fatal(n)
			}
			a.Drop(1)
		}
		if !slices.Equal(got, []api.ID{6, 7, 8, 9}) {
			t.Fatal(got)
		}
	}
	wantIDs(t, a, 8)
}

func TestAbove(t *testing.T) {
	a := sum(t)
	cases := []struct {
		id   api.ID
		kind byte
		want api.ID
	}{
		{8, arena.Var, 8}, {8, arena.Bin, 7}, {8, arena.Block, 5}, {8, arena.Func, 3}, {9, arena.Program, 1},
		{4, arena.Func, 3}, {4, arena.Block, 0}, {1, arena.Program, 1}, {1, arena.Module, 0}, {8, arena.While, 0},
		{77, arena.Program, 0}, {0, arena.Program, 0}, {8, 0, 0}, {8, 255, 0},
	}
	for _, c := range cases {
		if got := a.Above(c.id, c.kind); got != c.want {
			t.Errorf("Above(%d, %d): %d, want %d", c.id, c.kind, got, c.want)
		}
	}
	a.Put(6, kids(77))
	if a.Above(77, arena.Func) != 0 || a.Above(77, 0) != 0 {
		t.Error("something is above a child that is not a node")
	}
	if a.Above(6, 0) != 6 || a.Above(8, arena.Func) != 0 {
		t.Error("Above does not follow a change")
	}
}

func TestAboveNearestOfAKind(t *testing.T) {
	a := program(t, map[api.ID]api.Node{
		1: {Kind: arena.Block, Kids: []api.ID{2}},
		2: {Kind: arena.If, Kids: []api.ID{3}},
		3: {Kind: arena.Block, Kids: []api.ID{4}},
		4: {Kind: arena.Print},
		7: {Kind: arena.While, Kids: []api.ID{4}},
	})
	if a.Above(4, arena.Block) != 3 || a.Above(2, arena.Block) != 1 {
		t.Fatal("not the nearest one")
	}
	if a.Above(4, arena.While) != 0 {
		t.Fatal("7 is not the Parent of 4")
	}
}

func TestAboveInRings(t *testing.T) {
	a := program(t, map[api.ID]api.Node{
		2: {Kind: arena.Not, Kids: []api.ID{2}},
		3: {Kind: arena.Neg, Kids: []api.ID{4}},
		4: {Kind: arena.Bin, Kids: []api.ID{5}},
		5: {Kind: arena.Do, Kids: []api.ID{3, 6}},
		6: {Kind: arena.Int},
	})
	if a.Above(2, arena.Int) != 0 || a.Above(6, arena.Program) != 0 || a.Above(6, arena.Neg) != 3 || a.Above(4, arena.Do) != 5 {
		t.Fatal("rings")
	}
}

func TestCopy(t *testing.T) {
	a := sum(t)
	b := a.Copy()
	if !arena.Same(a, b) || !arena.Same(b.Copy(), a) {
		t.Fatal("a copy is not the same")
	}
	b.Put(7, kids(9))
	b.Drop(4)
	b.Put(20, kids(6))
	wantIDs(t, a, 1, 2, 3, 4, 5, 6, 7, 8, 9)
	wantNode(t, a, 7, api.Node{Kind: arena.Bin, Num: 1, Kids: []api.ID{8, 9}})
	wantParent(t, a, 8, 7, 0)
	wantParent(t, b, 8, 0, 0)
	wantParent(t, b, 9, 7, 0)
	a.Drop(5)
	wantIDs(t, b, 1, 2, 3, 5, 6, 7, 8, 9, 20)
	wantParent(t, b, 6, 5, 0)
}

func TestWhole(t *testing.T) {
	backing := []api.ID{4, 5, 6}
	n := api.Node{Kind: arena.Call, Name: "x", Num: 1, Type: 2, Ref: 3, Kids: backing[:2]}
	m := arena.Whole(n)
	if !same(n, m) {
		t.Fatal(m)
	}
	m.Kids[0] = 9
	_ = append(m.Kids, 10)
	if !slices.Equal(backing, []api.ID{4, 5, 6}) {
		t.Fatal("the children are shared", backing)
	}
	if m := arena.Whole(api.Node{Kind: arena.Int}); !same(m, api.Node{Kind: arena.Int}) {
		t.Fatal(m)
	}
}

func TestNilArena(t *testing.T) {
	var a *arena.Arena
	if a.Root() != 0 || a.Len() != 0 || a.IDs() != nil || a.Drop(1) != 0 || a.Above(1, arena.Program) != 0 || a.Copy() != nil || a.Tree() || a.Bytes() != nil {
		t.Fatal("a nil arena returns something")
	}
	wantAbsent(t, a, 1)
	wantParent(t, a, 1, 0, 0)
	if e := a.Put(1, api.Node{}); e != api.ErrNone {
		t.Fatal(e)
	}
	if e := a.Put(0, api.Node{}); e != api.ErrNone {
		t.Fatal(e)
	}
	if a.Walk(1) == nil {
		t.Fatal("a nil iterator")
	}
	wantWalk(t, a, 1)
	if !arena.Same(nil, nil) || !arena.Alike(nil, nil) {
		t.Fatal("nil is not the same as nil")
	}
	b := arena.New()
	for range 2 {
		if arena.Same(nil, b) || arena.Same(b, nil) || arena.Alike(nil, b) || arena.Alike(b, nil) {
			t.Fatal("nil is the same as an arena")
		}
		b.Drop(1) // an arena without nodes is still one
	}
}

func TestArgumentsAreNotKept(t *testing.T) {
	backing := []api.ID{8, 9, 10, 11}
	a := sum(t)
	a.Put(7, api.Node{Kind: arena.Bin, Kids: backing[:2]})
	if !slices.Equal(backing, []api.ID{8, 9, 10, 11}) {
		t.Fatal("the argument was changed", backing)
	}
	clear(backing)
	wantNode(t, a, 7, api.Node{Kind: arena.Bin, Kids: []api.ID{8, 9}})
	wantWalk(t, a, 7, 7, 8, 9)
	wantParent(t, a, 9, 7, 1)
}

func TestResultsAreNewMemory(t *testing.T) {
	a := sum(t)
	want := a.Copy()
	spoil := func(l []api.ID) {
		clear(l)
		clear(l[:cap(l)])
	}
	w := a.Walk(1)
	for range 2 {
		n, _ := a.Get(7)
		spoil(n.Kids)
		spoil(a.IDs())
		for _, n := range w {
			spoil(n.Kids)
		}
		clear(a.Bytes())
		wantWalk(t, a, 1, 1, 2, 3, 4, 5, 6, 7, 8, 9)
		wantParent(t, a, 9, 7, 1)
		if !arena.Same(a, want) || !a.Tree() {
			t.Fatal("a result shares memory with the arena")
		}
	}
}

// TestLargeArenas has as many nodes as there can be, in a chain, under one
// node, and under a node that gets them one by one.
func TestLargeArenas(t *testing.T) {
	chain, wide := arena.New(), arena.New()
	var l []api.ID
	for id := api.ID(2); id <= api.MaxNodes; id++ {
		chain.Put(id-1, api.Node{Kind: arena.Not, Kids: []api.ID{id}})
		chain.Put(id, api.Node{Kind: arena.Int})
		wide.Put(id, api.Node{Kind: arena.Module})
		l = append(l, id)
		wide.Put(1, api.Node{Kind: arena.Program, Kids: l})
	}
	if chain.Above(api.MaxNodes, arena.Program) != 0 || chain.Above(api.MaxNodes, arena.Not) != api.MaxNodes-1 || chain.Tree() {
		t.Fatal("chain")
	}
	chain.Put(api.MaxNodes, kids(1))
	if chain.Above(5, arena.Program) != 0 || chain.Above(5, 0) != api.MaxNodes || len(walked(chain, 7)) != api.MaxNodes {
		t.Fatal("ring")
	}
	if !wide.Tree() || !arena.Alike(wide, wide.Copy()) || wide.Above(9, arena.Program) != 1 {
		t.Fatal("wide")
	}
	for i, id := range l {
		wantParent(t, wide, id, 1, i)
		wantParent(t, chain, id, id-1, 0)
	}
	for _, a := range []*arena.Arena{chain, wide} {
		b, e := arena.Parse(a.Bytes())
		if e != api.OK || !arena.Same(a, b) {
			t.Fatalf("Parse: error %d", e)
		}
		if b.Drop(1) != api.MaxNodes || b.Len() != 0 {
			t.Fatal("Drop")
		}
	}
}
