package arena_test

import (
	"testing"

	"hourglass/api"
	"hourglass/arena"
)

// changed returns a copy in which one node is another.
func changed(t *testing.T, a *arena.Arena, id api.ID, change func(n *api.Node)) *arena.Arena {
	t.Helper()
	b := a.Copy()
	n, _ := b.Get(id)
	change(&n)
	if e := b.Put(id, n); e != api.OK {
		t.Fatal(e)
	}
	return b
}

func TestTree(t *testing.T) {
	if !arena.New().Tree() || !sum(t).Tree() {
		t.Fatal("a program is not a Tree")
	}
	set := func(l ...api.ID) func(n *api.Node) {
		return func(n *api.Node) { n.Kids = l }
	}
	cases := map[string]*arena.Arena{
		"the root is no Program":       changed(t, sum(t), 1, func(n *api.Node) { n.Kind = arena.Module }),
		"a node is no child":           changed(t, sum(t), 40, func(n *api.Node) { n.Kind = arena.Module }),
		"a node under no child":        changed(t, changed(t, sum(t), 40, set()), 41, set(40)),
		"a ring apart":                 changed(t, changed(t, sum(t), 40, set(41)), 41, set(40)),
		"its own child, apart":         changed(t, sum(t), 40, set(40)),
		"a child twice in a node":      changed(t, sum(t), 7, set(8, 9, 8)),
		"a child of two nodes":         changed(t, sum(t), 8, set(9)),
		"a ring below the root":        changed(t, sum(t), 9, set(7)),
		"its own child":                changed(t, sum(t), 9, set(9)),
		"the root is a child":          changed(t, sum(t), 9, set(1)),
		"the root is its own child":    changed(t, sum(t), 1, set(2, 1)),
		"a child is no node":           changed(t, sum(t), 9, set(77)),
		"a child is 0":                 changed(t, sum(t), 9, set(0)),
		"a Ref is no node":             changed(t, sum(t), 8, func(n *api.Node) { n.Ref = 77 }),
		"a Ref of another node is not": changed(t, sum(t), 1, func(n *api.Node) { n.Ref = 77 }),
	}
	for name, a := range cases {
		if a.Tree() {
			t.Errorf("%s, but it is a Tree", name)
		}
	}
	if a := changed(t, arena.New(), 2, func(n *api.Node) { n.Kind = arena.Module }); a.Tree() {
		t.Error("the document's example is a Tree")
	}
}

func TestTreeOfAnyKinds(t *testing.T) {
	a := sum(t)
	for id := api.ID(2); id <= 9; id++ {
		a = changed(t, a, id, func(n *api.Node) { *n = api.Node{Kind: 0, Name: "?", Ref: 1, Kids: n.Kids} })
	}
	if !a.Tree() {
		t.Error("the kinds, names or Refs of a Tree's nodes are restricted")
	}
	if a := changed(t, a, 1, func(n *api.Node) { n.Ref = 1 }); !a.Tree() {
		t.Error("a Ref to the node itself")
	}
}

func TestTreeWithoutRoot(t *testing.T) {
	a := sum(t)
	a.Drop(1)
	if a.Tree() {
		t.Error("an arena without nodes is a Tree")
	}
	a.Put(2, api.Node{Kind: arena.Program})
	if a.Tree() {
		t.Error("an arena without node 1 is a Tree")
	}
	a = sum(t)
	a.Put(1, api.Node{Kind: arena.Program})
	if a.Tree() {
		t.Error("the nodes under the root were cut off, but it is a Tree")
	}
}

func TestTreeOfADroppedPart(t *testing.T) {
	a := sum(t)
	a.Drop(9)
	if a.Tree() {
		t.Error("a child is missing")
	}
	a.Put(7, kids(8))
	if !a.Tree() {
		t.Error("no child is missing")
	}
	a.Drop(4)
	a.Put(3, kids(5))
	if a.Tree() {
		t.Error("a Ref is to a node that was dropped")
	}
}

// deep returns a chain of that many nodes, with leaves beside it.
func deep(t *testing.T, depth int) *arena.Arena {
	t.Helper()
	a := arena.New()
	for d := 1; d < depth; d++ {
		id := api.ID(2 * d)
		parent, _ := a.Get(max(1, id-2))
		parent.Kids = append(parent.Kids, id+1, id)
		a.Put(id, api.Node{Kind: arena.Neg})
		a.Put(id+1, api.Node{Kind: arena.Int})
		a.Put(max(1, id-2), parent)
	}
	return a
}

func TestTreeDepth(t *testing.T) {
	for depth := 1; depth <= api.MaxDepth+10; depth++ {
		if got, want := deep(t, depth).Tree(), depth <= api.MaxDepth; got != want {
			t.Fatalf("depth %d: %v", depth, got)
		}
	}
}

func TestSame(t *testing.T) {
	a := sum(t)
	if !arena.Same(a, a) || !arena.Same(a, sum(t)) {
		t.Fatal("two equal arenas are not the same")
	}
	for name, b := range others(t, a) {
		if arena.Same(a, b) || arena.Same(b, a) {
			t.Errorf("%s differs, but they are the same", name)
		}
		if !arena.Same(b, b.Copy()) {
			t.Errorf("%s: not the same as a copy", name)
		}
	}
}

// others returns arenas that differ from one in something.
func others(t *testing.T, a *arena.Arena) map[string]*arena.Arena {
	t.Helper()
	return map[string]*arena.Arena{
		"a Kind":             changed(t, a, 9, func(n *api.Node) { n.Kind = arena.Bool }),
		"a Name":             changed(t, a, 3, func(n *api.Node) { n.Name = "g" }),
		"a Num":              changed(t, a, 9, func(n *api.Node) { n.Num = -1 }),
		"a Type":             changed(t, a, 4, func(n *api.Node) { n.Type = arena.Truth }),
		"a Ref":              changed(t, a, 8, func(n *api.Node) { n.Ref = 5 }),
		"no Ref":             changed(t, a, 8, func(n *api.Node) { n.Ref = 0 }),
		"one more Ref":       changed(t, a, 9, func(n *api.Node) { n.Ref = 4 }),
		"the children":       changed(t, a, 7, func(n *api.Node) { n.Kids = []api.ID{8} }),
		"their order":        changed(t, a, 7, func(n *api.Node) { n.Kids = []api.ID{9, 8} }),
		"one more child":     changed(t, a, 7, func(n *api.Node) { n.Kids = append(n.Kids, 9) }),
		"a node more":        changed(t, a, 10, func(n *api.Node) {}),
		"the parent":         changed(t, changed(t, a, 7, func(n *api.Node) { n.Kids = []api.ID{8} }), 8, func(n *api.Node) { n.Kids = []api.ID{9} }),
		"a child more below": changed(t, changed(t, a, 9, func(n *api.Node) { n.Kids = []api.ID{10} }), 10, func(n *api.Node) { n.Kind = arena.Int }),
	}
}

func TestSameOfOtherIDs(t *testing.T) {
	a, b := arena.New(), arena.New()
	a.Put(2, api.Node{Kind: arena.Int})
	b.Put(3, api.Node{Kind: arena.Int})
	if arena.Same(a, b) {
		t.Fatal("2 is 3")
	}
	a.Drop(2)
	b.Drop(3)
	if !arena.Same(a, b) {
		t.Fatal("what was dropped counts")
	}
	a.Drop(1)
	b.Drop(1)
	if !arena.Same(a, b) || !arena.Alike(a, b) {
		t.Fatal("two arenas without nodes are not the same")
	}
}

func TestSameOfNilAndEmptyKids(t *testing.T) {
	a, b := arena.New(), arena.New()
	a.Put(2, api.Node{Kids: nil})
	b.Put(2, api.Node{Kids: []api.ID{}})
	if !arena.Same(a, b) || !arena.Same(b, a) {
		t.Fatal("nil and empty children differ")
	}
}

// renamed returns an arena with other IDs; those that are missing stay.
func renamed(t *testing.T, a *arena.Arena, names map[api.ID]api.ID) *arena.Arena {
	t.Helper()
	name := func(id api.ID) api.ID {
		if other, ok := names[id]; ok {
			return other
		}
		return id
	}
	b := arena.New()
	b.Drop(1)
	for _, id := range a.IDs() {
		n, _ := a.Get(id)
		n.Ref = name(n.Ref)
		for i, kid := range n.Kids {
			n.Kids[i] = name(kid)
		}
		b.Put(name(id), n)
	}
	return b
}

func TestAlike(t *testing.T) {
	a := sum(t)
	names := []map[api.ID]api.ID{
		{},
		{2: 3, 3: 2},
		{9: 4, 4: 9},
		{2: 9, 3: 8, 4: 7, 5: 6, 6: 5, 7: 4, 8: 3, 9: 2},
		{4: 1 << 60, 8: 10},
	}
	for _, names := range names {
		b := renamed(t, a, names)
		if !b.Tree() || !arena.Alike(a, b) || !arena.Alike(b, a) {
			t.Errorf("%v: not alike", names)
		}
		if arena.Same(a, b) != (len(names) == 0) {
			t.Errorf("%v: Same", names)
		}
		for name, c := range others(t, a) {
			c = renamed(t, c, names)
			if arena.Alike(a, c) || arena.Alike(c, a) {
				t.Errorf("%v: %s differs, but they are alike", names, name)
			}
		}
	}
}

// TestAlikeRefs has Refs to what comes later, to the node itself, and to one
// of two nodes that do not differ.
func TestAlikeRefs(t *testing.T) {
	refs := func(l ...api.ID) *arena.Arena {
		a := arena.New()
		for i, ref := range l {
			a.Put(api.ID(i+2), api.Node{Kind: arena.Module, Ref: ref})
		}
		a.Put(1, api.Node{Kind: arena.Program, Kids: []api.ID{2, 3, 4}})
		return a
	}
	a := refs(4, 3, 1)
	b := renamed(t, a, map[api.ID]api.ID{2: 4, 4: 2})
	if !arena.Alike(a, b) || !arena.Alike(b, a) || arena.Same(a, b) {
		t.Fatal("not alike")
	}
	for _, c := range []*arena.Arena{refs(3, 3, 1), refs(4, 2, 1), refs(4, 3, 2), refs(4, 3, 0), refs(4, 0, 1), refs(2, 3, 4)} {
		if !c.Tree() || arena.Alike(a, c) || arena.Alike(c, a) || arena.Alike(b, c) {
			t.Fatal("alike")
		}
	}
}

// TestAlikeOfNoTrees: for those, it is Same.
func TestAlikeOfNoTrees(t *testing.T) {
	a := changed(t, sum(t), 40, func(n *api.Node) { n.Kind = arena.Int })
	b := changed(t, sum(t), 41, func(n *api.Node) { n.Kind = arena.Int })
	if a.Tree() || b.Tree() {
		t.Fatal("a Tree")
	}
	if arena.Alike(a, b) || arena.Alike(a, sum(t)) || arena.Alike(sum(t), a) {
		t.Error("other IDs, but alike")
	}
	if c := renamed(t, a, map[api.ID]api.ID{8: 9, 9: 8}); arena.Alike(a, c) {
		t.Error("renamed, but alike")
	}
	if !arena.Alike(a, a.Copy()) {
		t.Error("the same, but not alike")
	}
}
