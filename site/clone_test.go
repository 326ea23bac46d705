package site_test

import (
	"math"
	"slices"
	"testing"

	"hourglass/api"
	"hourglass/arena"
	"hourglass/op"
	"hourglass/site"
	"hourglass/text"
	"hourglass/trial"
)

// plus is the number of the sign.
const plus = 1

func TestMake(t *testing.T) {
	nodes := []api.Node{
		{},
		{Kind: arena.Int, Num: -7},
		{Kind: arena.Let, Name: "y", Type: arena.Truth, Kids: []api.ID{ab}},
		{Kind: 200, Name: "a b", Num: math.MinInt64, Type: 9, Ref: 1000, Kids: []api.ID{1, 0, 5, 5, 2000}},
	}
	for _, n := range nodes {
		for _, id := range []api.ID{last + 1, 1000, math.MaxUint64} {
			p := right(t)
			s := trial.From(id, 7)
			got, ok := site.Make(p, n, s.Next)
			want := right(t)
			want.Put(id, n)
			if got != id || !ok || !arena.Same(p, want) || s.Asked != 1 {
				t.Errorf("Make of %v: %d, %v, asked %d times", n, got, ok, s.Asked)
			}
		}
	}
}

func TestMakeTakesTheNextID(t *testing.T) {
	p := right(t)
	next := op.Fresh(2)
	for i := range 3 {
		if id, ok := site.Make(p, api.Node{Kind: arena.Int, Num: int64(i)}, next); id != api.ID(131073+i) || !ok {
			t.Error(id, ok)
		}
	}
	for i := range 3 {
		if n, ok := p.Get(api.ID(131073 + i)); n.Num != int64(i) || !ok {
			t.Error(n)
		}
	}
}

func TestMakeFails(t *testing.T) {
	p := right(t)
	next := map[string]func() (api.ID, bool){
		"no function":       nil,
		"no ID":             trial.From().Next,
		"an ID and false":   func() (api.ID, bool) { return 1000, false },
		"the ID 0":          trial.One(0),
		"the root's":        trial.One(1),
		"one that exists":   trial.One(sum),
		"another of them":   trial.One(last),
		"none for 0 stamps": op.Fresh(0),
	}
	for what, next := range next {
		if id, ok := site.Make(p, api.Node{Kind: arena.Int}, next); id != 0 || ok {
			t.Errorf("Make with %s: %d, %v", what, id, ok)
		}
		if id, ok := site.Clone(p, one, nil, next); id != 0 || ok {
			t.Errorf("Clone with %s: %d, %v", what, id, ok)
		}
	}
	if !arena.Same(p, right(t)) {
		t.Error("something has changed")
	}
}

// TestExample: of (a + b), where a is mapped to the node 7.
func TestExample(t *testing.T) {
	p := trial.Right(t, "module main { func main() int { return -2; } func f(a int, b int) int { return (a + b); } }")
	// 7 is the 2, 9 the parameter a, 13 is (a + b)
	id, ok := site.Clone(p, 13, map[api.ID]api.ID{9: 7}, trial.From(trial.Row(100, 10)...).Next)
	if !ok || id != 102 || !site.Replace(p, 13, id) {
		t.Fatal(id, ok)
	}
	p.Drop(13)
	if s, _ := text.Expr(p, id); s != "(2 + b)" {
		t.Error(s)
	}
}

// clone is what Clone makes of a node: the nodes beside those of village.
type clone map[api.ID]api.Node

func wantClone(t *testing.T, id api.ID, with map[api.ID]api.ID, s *trial.Source, want clone) {
	t.Helper()
	p, wanted := right(t), right(t)
	for id, n := range want {
		wanted.Put(id, n)
	}
	got, ok := site.Clone(p, id, with, s.Next)
	if !ok || got != s.IDs[len(want)-1] || s.Asked != len(want) || !arena.Same(p, wanted) {
		t.Errorf("Clone of %d with %d: %d, %v, asked %d times", id, with, got, ok, s.Asked)
		for _, id := range s.IDs {
			n, _ := p.Get(id)
			t.Errorf("%d is %v, want %v", id, n, want[id])
		}
	}
}

// TestClone: the IDs tell in which order the nodes are created.
func TestClone(t *testing.T) {
	wantClone(t, one, nil, trial.From(100), clone{100: {Kind: arena.Int, Num: 1}})
	wantClone(t, readA, nil, trial.From(100), clone{100: {Kind: arena.Var, Ref: a}})
	wantClone(t, b, nil, trial.From(100), clone{100: {Kind: arena.Param, Name: "b", Type: arena.Number}})
	wantClone(t, second, nil, trial.From(100), clone{100: {Kind: arena.Block}})
	wantClone(t, ab, nil, trial.From(300, 100, 200, 50), clone{
		300: {Kind: arena.Var, Ref: a},
		100: {Kind: arena.Var, Ref: b},
		200: {Kind: arena.Bin, Num: plus, Kids: []api.ID{300, 100}},
	})
	wantClone(t, returned, nil, trial.From(300, 100, 200), clone{
		300: {Kind: arena.Var, Ref: letX},
		100: {Kind: arena.Neg, Kids: []api.ID{300}},
		200: {Kind: arena.Return, Kids: []api.ID{100}},
	})
	wantClone(t, call, map[api.ID]api.ID{}, trial.From(300, 100, 200), clone{
		300: {Kind: arena.Var, Ref: b},
		100: {Kind: arena.Var, Ref: a},
		200: {Kind: arena.Call, Ref: f, Kids: []api.ID{300, 100}},
	})
	wantClone(t, choice, nil, trial.From(trial.Row(100, 9)...), clone{
		100: {Kind: arena.Bool, Num: 1},
		101: {Kind: arena.Var, Ref: letX},
		102: {Kind: arena.Print, Kids: []api.ID{101}},
		103: {Kind: arena.Block, Kids: []api.ID{102}},
		104: {Kind: arena.Block},
		105: {Kind: arena.If, Kids: []api.ID{100, 103, 104}},
	})
	// What refers to a node that is cloned, too, still refers to that node.
	wantClone(t, f, nil, trial.From(trial.Row(100, 20)...), clone{
		100: {Kind: arena.Param, Name: "a", Type: arena.Number},
		101: {Kind: arena.Param, Name: "b", Type: arena.Number},
		102: {Kind: arena.Var, Ref: a},
		103: {Kind: arena.Var, Ref: b},
		104: {Kind: arena.Bin, Num: plus, Kids: []api.ID{102, 103}},
		105: {Kind: arena.Print, Kids: []api.ID{104}},
		106: {Kind: arena.Var, Ref: b},
		107: {Kind: arena.Var, Ref: a},
		108: {Kind: arena.Call, Ref: f, Kids: []api.ID{106, 107}},
		109: {Kind: arena.Return, Kids: []api.ID{108}},
		110: {Kind: arena.Block, Kids: []api.ID{105, 109}},
		111: {Kind: arena.Func, Name: "f", Type: arena.Number, Kids: []api.ID{100, 101, 110}},
	})
}

func TestCloneWith(t *testing.T) {
	wantClone(t, readA, map[api.ID]api.ID{a: one}, trial.From(100), clone{100: {Kind: arena.Int, Num: 1}})
	wantClone(t, readA, map[api.ID]api.ID{b: one}, trial.From(100), clone{100: {Kind: arena.Var, Ref: a}})
	wantClone(t, ab, map[api.ID]api.ID{b: sum}, trial.From(trial.Row(100, 9)...), clone{
		100: {Kind: arena.Var, Ref: a},
		101: {Kind: arena.Int, Num: 1},
		102: {Kind: arena.Int, Num: 2},
		103: {Kind: arena.Bin, Num: plus, Kids: []api.ID{101, 102}},
		104: {Kind: arena.Bin, Num: plus, Kids: []api.ID{100, 103}},
	})
	// Each Var gets a clone of its own.
	wantClone(t, call, map[api.ID]api.ID{a: minus, b: minus, letX: one}, trial.From(trial.Row(100, 9)...), clone{
		100: {Kind: arena.Var, Ref: letX},
		101: {Kind: arena.Neg, Kids: []api.ID{100}},
		102: {Kind: arena.Var, Ref: letX},
		103: {Kind: arena.Neg, Kids: []api.ID{102}},
		104: {Kind: arena.Call, Ref: f, Kids: []api.ID{101, 103}},
	})
	// What a Var is mapped to is cloned as it is, also if there are keys in it.
	wantClone(t, ab, map[api.ID]api.ID{a: readB, b: readA}, trial.From(trial.Row(100, 9)...), clone{
		100: {Kind: arena.Var, Ref: b},
		101: {Kind: arena.Var, Ref: a},
		102: {Kind: arena.Bin, Num: plus, Kids: []api.ID{100, 101}},
	})
	wantClone(t, ab, map[api.ID]api.ID{a: ab, b: three}, trial.From(trial.Row(100, 9)...), clone{
		100: {Kind: arena.Var, Ref: a},
		101: {Kind: arena.Var, Ref: b},
		102: {Kind: arena.Bin, Num: plus, Kids: []api.ID{100, 101}},
		103: {Kind: arena.Int, Num: 3},
		104: {Kind: arena.Bin, Num: plus, Kids: []api.ID{102, 103}},
	})
	wantClone(t, readA, map[api.ID]api.ID{a: readA}, trial.From(100), clone{100: {Kind: arena.Var, Ref: a}})
	// Only Vars are replaced: not an Assign, a Call, or the keys themselves.
	wantClone(t, assign, map[api.ID]api.ID{letX: three, assign: one, assign + 2: one}, trial.From(trial.Row(100, 9)...), clone{
		100: {Kind: arena.Int, Num: 3},
		101: {Kind: arena.Int, Num: 1},
		102: {Kind: arena.Bin, Num: plus, Kids: []api.ID{100, 101}},
		103: {Kind: arena.Assign, Ref: letX, Kids: []api.ID{102}},
	})
	wantClone(t, call, map[api.ID]api.ID{f: one, call: one, a: one, 0: three}, trial.From(trial.Row(100, 9)...), clone{
		100: {Kind: arena.Var, Ref: b},
		101: {Kind: arena.Int, Num: 1},
		102: {Kind: arena.Call, Ref: f, Kids: []api.ID{100, 101}},
	})
	wantClone(t, three, map[api.ID]api.ID{three: one, 0: one}, trial.From(100), clone{100: {Kind: arena.Int, Num: 3}})
}

// wantOldNodes expects that nothing is changed, but that nodes with some of the
// IDs may be there.
func wantOldNodes(t *testing.T, got, before *arena.Arena, ids []api.ID) {
	t.Helper()
	b := got.Copy()
	for _, id := range ids {
		if n, _ := before.Get(id); n.Kind == 0 {
			b.Put(id, api.Node{})
			b.Drop(id)
		}
	}
	if !arena.Same(b, before) {
		t.Error("something has changed")
	}
}

func TestCloneFails(t *testing.T) {
	for id, size := range map[api.ID]int{one: 1, sum: 3, call: 3, returned: 3, choice: 6, f: 12, letX: 4} {
		for count := range size {
			p := right(t)
			s := trial.From(trial.Row(100, count)...)
			if got, ok := site.Clone(p, id, nil, s.Next); got != 0 || ok || s.Asked != count+1 {
				t.Errorf("Clone of %d with %d IDs: %d, %v, asked %d times", id, count, got, ok, s.Asked)
			}
			wantOldNodes(t, p, right(t), s.IDs)
			p = right(t)
			s = trial.From(trial.Row(100, size)...)
			for _, exists := range []api.ID{1, id, last, s.IDs[0], 0} {
				s.Asked, s.IDs[count] = 0, exists
				if got, ok := site.Clone(p, id, nil, s.Next); (got != 0 || ok) && (exists != 100 || count > 0) {
					t.Errorf("Clone of %d with the ID %d: %d, %v", id, exists, got, ok)
				}
				p = right(t)
			}
		}
	}
	for _, id := range nowhere() {
		p := right(t)
		if got, ok := site.Clone(p, id, map[api.ID]api.ID{id: one}, trial.From(trial.Row(100, 9)...).Next); got != 0 || ok || !arena.Same(p, right(t)) {
			t.Errorf("Clone of %d: %d, %v", id, got, ok)
		}
		// No expression is mapped to: the call only has to end.
		site.Clone(p, ab, map[api.ID]api.ID{a: id}, trial.From(trial.Row(100, 9)...).Next)
	}
}

// TestCloneApart: of what is no child any more, of what is one twice, and of what
// is below itself.
func TestCloneApart(t *testing.T) {
	p := right(t)
	site.Remove(p, ab)
	s := trial.From(trial.Row(100, 9)...)
	if id, ok := site.Clone(p, ab, map[api.ID]api.ID{a: sum}, s.Next); id != 104 || !ok {
		t.Error(id, ok)
	}
	wantKids(t, p, 104, 102, 103)

	p = right(t)
	site.Replace(p, two, one)
	s = trial.From(trial.Row(100, 9)...)
	if id, ok := site.Clone(p, sum, nil, s.Next); id != 102 || !ok {
		t.Error(id, ok)
	}
	wantKids(t, p, 102, 100, 101)

	for _, ring := range []api.ID{sum, letX, body, 1} {
		p = right(t)
		site.Replace(p, two, ring)
		s = trial.From(trial.Row(100, 9)...)
		if id, ok := site.Clone(p, sum, nil, s.Next); id != 0 || ok {
			t.Error(id, ok)
		}
		wantOldNodes(t, p, trial.With(right(t), sum, func(n *api.Node) { n.Kids[1] = ring }), s.IDs)
	}
	p = right(t)
	site.Replace(p, readB, ab)
	if id, ok := site.Clone(p, call, map[api.ID]api.ID{a: ab}, trial.From(trial.Row(100, 9)...).Next); id != 0 || ok {
		t.Error(id, ok)
	}
}

// TestCloneIsShaped: at the place of what was cloned, it is the same program.
func TestCloneIsShaped(t *testing.T) {
	for _, id := range []api.ID{letX, sum, loop, less, inLoop, choice, first, printed, returned, bodyOfF, ab, call, last} {
		p := right(t)
		got, ok := site.Clone(p, id, nil, op.Fresh(3))
		parent, at := p.Parent(id)
		if !ok || !site.Replace(p, id, got) {
			t.Fatalf("Clone of %d: %d, %v", id, got, ok)
		}
		if id == letX { // it stays, because what refers to it still does
			continue
		}
		p.Drop(id)
		if printed, e := text.Print(p); printed != village || e != api.OK || !arena.Alike(p, right(t)) {
			t.Errorf("Clone of %d: error %d\n%s", id, e, printed)
		}
		if other, place := p.Parent(got); other != parent || place != at {
			t.Errorf("%d is at %d of %d", got, place, other)
		}
	}
}

// TestMemory: what is passed in and what is returned are nobody else's.
func TestMemory(t *testing.T) {
	p := right(t)
	kids := []api.ID{one, two, three, 77}
	n := api.Node{Kind: arena.Call, Ref: f, Kids: kids[:2]}
	site.Make(p, n, trial.One(100))
	kids[0], kids[2] = 55, 66
	wantKids(t, p, 100, one, two)
	site.Insert(p, 100, 2, readA)
	site.Replace(p, two, readB)
	if !slices.Equal(kids, []api.ID{55, two, 66, 77}) {
		t.Error("the argument has become", kids)
	}
	with := map[api.ID]api.ID{a: sum, b: one}
	site.Clone(p, ab, with, trial.From(trial.Row(200, 9)...).Next)
	if len(with) != 2 || with[a] != sum || with[b] != one {
		t.Error("the argument has become", with)
	}
	site.Replace(p, one, three)
	wantKids(t, p, 202, 200, 201)
	wantKids(t, p, 204, 202, 203)
}
