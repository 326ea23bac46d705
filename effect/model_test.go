package effect_test

import (
	"math/rand"
	"slices"
	"testing"

	"hourglass/api"
	"hourglass/arena"
	"hourglass/effect"
	"hourglass/grammar"
)

// model answers as slowly and literally as possible.
type model struct {
	a         *arena.Arena
	functions []api.ID // by increasing ID
	// reaches is whether one function reaches the other one.
	reaches map[[2]api.ID]bool
}

func newModel(a *arena.Arena) model {
	m := model{a: a, reaches: map[[2]api.ID]bool{}}
	for _, id := range a.IDs() {
		if m.node(id).Kind != arena.Func {
			continue
		}
		m.functions = append(m.functions, id)
		for _, g := range m.calls(id) {
			m.reaches[[2]api.ID{id, g}] = true
		}
	}
	for _, k := range m.functions {
		for _, i := range m.functions {
			for _, j := range m.functions {
				if m.reaches[[2]api.ID{i, k}] && m.reaches[[2]api.ID{k, j}] {
					m.reaches[[2]api.ID{i, j}] = true
				}
			}
		}
	}
	return m
}

func (m model) node(id api.ID) api.Node {
	n, _ := m.a.Get(id)
	return n
}

// some reports whether a node or one below it is such.
func (m model) some(id api.ID, such func(n api.Node) bool) bool {
	n := m.node(id)
	return such(n) || slices.ContainsFunc(n.Kids, func(kid api.ID) bool { return m.some(kid, such) })
}

func (m model) calls(id api.ID) []api.ID {
	var l []api.ID
	m.some(id, func(n api.Node) bool {
		if n.Kind == arena.Call {
			l = append(l, n.Ref)
		}
		return false
	})
	return l
}

func (m model) reached(id api.ID) []api.ID {
	var l []api.ID
	for _, f := range m.functions {
		for _, g := range m.calls(id) {
			if f == g || m.reaches[[2]api.ID{g, f}] {
				l = append(l, f)
				break
			}
		}
	}
	return l
}

func (m model) divides(n api.Node) bool {
	return n.Kind == arena.Bin && (grammar.Sign(n.Num) == "/" || grammar.Sign(n.Num) == "%")
}

func (m model) quiet(f api.ID) bool {
	if m.node(f).Kind != arena.Func {
		return false
	}
	for _, g := range append(m.reached(f), f) {
		if m.reaches[[2]api.ID{g, g}] || m.some(g, func(n api.Node) bool {
			return m.divides(n) || slices.Contains([]byte{arena.Print, arena.Read, arena.While}, n.Kind)
		}) {
			return false
		}
	}
	return true
}

// order takes the first function that calls only such as it has taken.
func (m model) order() ([]api.ID, bool) {
	var l []api.ID
	for range m.functions {
		for _, f := range m.functions {
			if !slices.Contains(l, f) && !slices.ContainsFunc(m.calls(f), func(g api.ID) bool { return !slices.Contains(l, g) }) {
				l = append(l, f)
				break
			}
		}
	}
	if len(l) < len(m.functions) {
		return nil, false
	}
	return l, true
}

func (m model) expression(id api.ID) bool {
	return slices.Contains([]byte{arena.Int, arena.Bool, arena.Var, arena.Not, arena.Neg, arena.Bin, arena.Call, arena.Read}, m.node(id).Kind)
}

func (m model) safe(id api.ID) bool {
	return m.expression(id) && !m.some(id, func(n api.Node) bool {
		return m.divides(n) || n.Kind == arena.Call || n.Kind == arena.Read
	})
}

func (m model) fixed(v api.ID) bool {
	kind := m.node(v).Kind
	return (kind == arena.Param || kind == arena.Let) && !m.some(1, func(n api.Node) bool { return n.Kind == arena.Assign && n.Ref == v })
}

func (m model) stable(id api.ID) bool {
	return m.safe(id) && !m.some(id, func(n api.Node) bool { return n.Kind == arena.Var && !m.fixed(n.Ref) })
}

func (m model) size(id api.ID, kinds ...byte) int {
	size := 0
	m.some(id, func(n api.Node) bool {
		if slices.Contains(kinds, n.Kind) {
			size++
		}
		return false
	})
	return size
}

// scattered returns the program with other IDs, up to 3000.
func scattered(r *rand.Rand, a *arena.Arena) *arena.Arena {
	ids := map[api.ID]api.ID{0: 0, 1: 1}
	places := r.Perm(2998)
	for i, id := range a.IDs() {
		if id != 1 {
			ids[id] = api.ID(places[i] + 2)
		}
	}
	b := arena.New()
	for id, n := range a.Walk(1) {
		n.Ref = ids[n.Ref]
		for i, kid := range n.Kids {
			n.Kids[i] = ids[kid]
		}
		b.Put(ids[id], n)
	}
	return b
}

// thin takes calls out of a program, so that not all functions reach all.
func thin(r *rand.Rand, a *arena.Arena) {
	share := r.Intn(10)
	for id, n := range a.Walk(1) {
		if n.Kind == arena.Call && r.Intn(10) < share {
			for _, kid := range n.Kids {
				a.Drop(kid)
			}
			parent, _ := a.Parent(id)
			if p, ok := a.Get(parent); ok && p.Kind == arena.Do {
				a.Put(parent, api.Node{Kind: arena.Print, Kids: []api.ID{id}})
			}
			a.Put(id, api.Node{Kind: arena.Int})
		}
	}
}

func TestModel(t *testing.T) {
	r := rand.New(rand.NewSource(1))
	var kinds []byte
	for kind := byte(arena.Program); kind <= arena.Read; kind++ {
		kinds = append(kinds, kind)
	}
	ordered, quiet, loud, programs := 0, 0, 0, 0
	for range 600 {
		w := author{r: r}
		a := parsed(t, w.program())
		if a.Len() > 1000 {
			continue
		}
		a = scattered(r, a)
		thin(r, a)
		m := newModel(a)
		programs++
		order, ok := m.order()
		if ok {
			ordered++
		}
		wantOrder(t, a, order, ok, w.out.String())
		for _, f := range m.functions {
			want := m.quiet(f)
			if want {
				quiet++
			} else {
				loud++
			}
			wantQuiet(t, a, f, want, w.out.String())
		}
		for id := range a.Walk(1) {
			if r.Intn(8) > 0 {
				continue
			}
			wantIDs(t, "Reaches", effect.Reaches(a, id), m.reached(id)...)
			if effect.Safe(a, id) != m.safe(id) || effect.Fixed(a, id) != m.fixed(id) || effect.Stable(a, id) != m.stable(id) {
				t.Errorf("Safe, Fixed, Stable of %d: %v, %v, %v", id, effect.Safe(a, id), effect.Fixed(a, id), effect.Stable(a, id))
			}
			for _, kind := range kinds {
				want := m.size(id, kind)
				if got := effect.Count(a, id, kind); got != want {
					t.Errorf("Count of kind %d below %d: %d, want %d", kind, id, got, want)
				}
			}
			if got, want := effect.Size(a, id), m.size(id, kinds...); got != want {
				t.Errorf("Size of %d: %d, want %d", id, got, want)
			}
		}
		if t.Failed() {
			t.Fatal(w.out.String())
		}
	}
	if ordered < 50 || programs-ordered < 50 || quiet < 50 || loud < 50 {
		t.Errorf("%d of %d programs in order, %d functions quiet, %d not", ordered, programs, quiet, loud)
	}
}
