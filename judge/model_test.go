package judge_test

import (
	"math/rand"
	"slices"
	"testing"

	"hourglass/api"
	"hourglass/arena"
	"hourglass/judge"
	"hourglass/op"
	"hourglass/step"
	"hourglass/trial"
)

// model finds prints as literally as possible.
type model struct {
	nodes trial.Nodes
}

// above returns the nearest node of a kind at or above one.
func (m model) above(id api.ID, kind byte) api.ID {
	for id != 0 && m.nodes[id].Kind != kind {
		id, _ = m.nodes.Parent(id)
	}
	return id
}

func (m model) scope(id api.ID) api.ID {
	switch m.nodes[id].Kind {
	case arena.Module:
		return 1
	case arena.Func:
		return m.above(id, arena.Module)
	case arena.Param, arena.Let:
		return m.above(id, arena.Func)
	}
	return 0
}

func (m model) of(o op.Op) judge.Print {
	wanted := map[byte]byte{op.RenameModule: arena.Module, op.RenameFunc: arena.Func, op.RenameParam: arena.Param, op.RenameLet: arena.Let, op.SwapParts: arena.Bin}
	kind, ok := wanted[o.Kind]
	if !ok || m.nodes[o.A].Kind != kind {
		return judge.Print{}
	}
	if o.Kind == op.SwapParts {
		return written(o.A)
	}
	return written(o.A, claim(m.scope(o.A), o.Name), claim(m.scope(o.A), m.nodes[o.A].Name))
}

func (m model) meets(x, y op.Op) bool {
	p, q := m.of(x), m.of(y)
	if !p.Known || !q.Known {
		return true
	}
	for _, id := range p.Writes {
		if slices.Contains(q.Writes, id) {
			return true
		}
	}
	for _, c := range p.Claims {
		if slices.Contains(q.Claims, c) {
			return true
		}
	}
	return false
}

// choice returns an operation, mostly one whose print is known.
func choice(c trial.Changer) op.Op {
	kinds := []byte{op.RenameModule, op.RenameFunc, op.RenameParam, op.RenameLet, op.SwapParts}
	for range 200 {
		if o := c.Op(); slices.Contains(kinds, o.Kind) {
			return o
		}
	}
	return c.Op()
}

// wantBothOrders expects that two lists can be folded one after the other, with
// the same result in both orders, whatever the stamps.
func wantBothOrders(t *testing.T, below func(n int) int, a *arena.Arena, l, m []op.Op) {
	t.Helper()
	fold := func(l []op.Op) *arena.Arena {
		var stamped []step.Stamped
		for _, o := range l {
			stamped = append(stamped, step.Stamped{Stamp: uint32(below(50)), Op: o})
		}
		b, _, e := step.Fold(a, stamped)
		if e != api.OK {
			t.Fatalf("%v: error %d", l, e)
		}
		return b
	}
	if !arena.Same(fold(slices.Concat(l, m)), fold(slices.Concat(m, l))) {
		t.Fatalf("%v and %v: the results differ", l, m)
	}
}

// apply reports whether an operation can be applied.
func apply(a *arena.Arena, o op.Op) (*arena.Arena, bool) {
	b, e := step.Apply(a, o, 7)
	return b, e == api.OK
}

// TestPairs compares prints with the model's, and applies those operations in
// both orders that commute.
func TestPairs(t *testing.T) {
	below := rand.New(rand.NewSource(1)).Intn
	commute, meet, differ := 0, 0, 0
	for range 25 {
		a := trial.Scattered(below, trial.Short(t, below))
		m := model{trial.NodesOf(a)}
		for _, id := range a.IDs() {
			if got := judge.Scope(a, id); got != m.scope(id) {
				t.Fatalf("Scope of %d: %d, want %d", id, got, m.scope(id))
			}
		}
		for range 150 {
			c := trial.Changer{Below: below, Arena: a}
			x, y := choice(c), choice(c)
			if below(10) == 0 {
				y = c.Op()
			}
			wantPrint(t, x.Text(), judge.Of(a, x), m.of(x))
			if got := judge.Commute(a, x, y); got == m.meets(x, y) {
				t.Fatalf("%s and %s commute: %v", x.Text(), y.Text(), got)
			}
			b, first := apply(a, x)
			d, second := apply(a, y)
			if !first || !second {
				continue
			}
			if judge.Commute(a, x, y) {
				commute++
				wantBothOrders(t, below, a, []op.Op{x}, []op.Op{y})
				continue
			}
			meet++
			b, first = apply(b, y)
			d, second = apply(d, x)
			if !first || !second || !arena.Same(b, d) {
				differ++
			}
		}
	}
	if commute < 200 || meet < 100 || differ < 20 {
		t.Error(commute, meet, differ)
	}
}

// possible returns operations that can be folded on an arena; each is chosen for
// what the ones before it have made.
func possible(below func(n int) int, a *arena.Arena) []op.Op {
	var l []op.Op
	for range below(5) {
		c := trial.Changer{Below: below, Arena: a}
		o := choice(c)
		if below(30) == 0 {
			o = c.Op()
		}
		if b, ok := apply(a, o); ok {
			a, l = b, append(l, o)
		}
	}
	return l
}

func TestLists(t *testing.T) {
	below := rand.New(rand.NewSource(2)).Intn
	counts := map[bool]int{}
	long := 0
	for range 40 {
		a := trial.Scattered(below, trial.Short(t, below))
		for range 40 {
			l, m := possible(below, a), possible(below, a)
			want := true
			for _, x := range l {
				for _, y := range m {
					want = want && judge.Commute(a, x, y)
				}
			}
			counts[want]++
			if got := judge.Apart(a, l, m); got != want {
				t.Fatalf("%v and %v are apart: %v", l, m, got)
			}
			if want && len(l) > 0 && len(m) > 0 { // otherwise there is one order only
				wantBothOrders(t, below, a, l, m)
			}
			if want && len(l) > 1 && len(m) > 1 {
				long++
			}
		}
	}
	if counts[true] < 500 || counts[false] < 100 || long < 30 {
		t.Error(counts, long)
	}
}

// TestLong: of long lists, too, each element counts.
func TestLong(t *testing.T) {
	a := trial.Crowd(t, program+" module more { func more(a bool) bool { let b int = 1; print (b + 1); print (b * 2); return a; } } module last { func last() int {", 1000)
	f, g := trial.Named(t, a, "f"), trial.Named(t, a, "g")
	var l, m []op.Op
	for i := range 20000 {
		l = append(l, rename(op.RenameFunc, f, []string{"a", "b", "c"}[i%3]))
		m = append(m, rename(op.RenameFunc, g, []string{"d", "e"}[i%2]))
	}
	if !judge.Apart(a, l, m) {
		t.Error("they are not apart")
	}
	if judge.Apart(a, append(l, rename(op.RenameFunc, f, "e")), m) || judge.Apart(a, m, append(l, op.Op{})) {
		t.Error("they are apart")
	}
}
