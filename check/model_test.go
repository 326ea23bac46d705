package check_test

import (
	"math/rand"
	"slices"
	"testing"

	"hourglass/api"
	"hourglass/arena"
	"hourglass/check"
	"hourglass/grammar"
	"hourglass/text"
)

// model answers as slowly and literally as possible.
type model struct {
	a *arena.Arena
}

func (m model) node(id api.ID) api.Node {
	n, _ := m.a.Get(id)
	return n
}

// path returns the nodes from the root to one.
func (m model) path(to api.ID) []api.ID {
	var down func(id api.ID) []api.ID
	down = func(id api.ID) []api.ID {
		if id == to {
			return []api.ID{id}
		}
		for _, kid := range m.node(id).Kids {
			if rest := down(kid); rest != nil {
				return append([]api.ID{id}, rest...)
			}
		}
		return nil
	}
	return down(1)
}

// seen are the children before those of the path that are parameters or Lets.
func (m model) seen(at api.ID) []api.ID {
	var l []api.ID
	path := m.path(at)
	for i := 1; i < len(path); i++ {
		for _, kid := range m.node(path[i-1]).Kids {
			if kid == path[i] {
				break
			}
			if k := m.node(kid).Kind; k == arena.Param || k == arena.Let {
				l = append(l, kid)
			}
		}
	}
	return l
}

// below returns the nodes at and below one, each before its children.
func (m model) below(id api.ID) []api.ID {
	if m.node(id).Kind == 0 {
		return nil
	}
	l := []api.ID{id}
	for _, kid := range m.node(id).Kids {
		l = append(l, m.below(kid)...)
	}
	return l
}

// such returns those of the nodes that have one of the kinds.
func (m model) such(ids []api.ID, kinds ...byte) []api.ID {
	return slices.DeleteFunc(slices.Clone(ids), func(id api.ID) bool {
		return !slices.Contains(kinds, m.node(id).Kind)
	})
}

func (m model) names(ids []api.ID) []string {
	var l []string
	for _, id := range ids {
		l = append(l, m.node(id).Name)
	}
	return l
}

func (m model) refs(id api.ID, kind byte) []api.ID {
	var l []api.ID
	for _, id := range m.such(m.below(id), kind) {
		if ref := m.node(id).Ref; !slices.Contains(l, ref) {
			l = append(l, ref)
		}
	}
	return l
}

func (m model) function(module, name string) api.ID {
	for _, k := range m.node(1).Kids {
		for _, f := range m.node(k).Kids {
			if m.node(k).Name == module && m.node(f).Name == name {
				return f
			}
		}
	}
	return 0
}

func twice(l []string) bool {
	for i := range l {
		for j := range i {
			if l[i] == l[j] {
				return true
			}
		}
	}
	return false
}

func (m model) clash() bool {
	modules := m.node(1).Kids
	bad := twice(m.names(modules))
	for _, k := range modules {
		bad = bad || twice(m.names(m.node(k).Kids))
		for _, f := range m.node(k).Kids {
			bad = bad || twice(m.names(m.such(m.below(f), arena.Param, arena.Let)))
		}
	}
	return bad
}

// letter is a type's: n, t, or - for none.
func (m model) letter(id api.ID) string {
	n := m.node(id)
	switch n.Kind {
	case arena.Int, arena.Neg, arena.Read:
		return "n"
	case arena.Bool, arena.Not:
		return "t"
	case arena.Var, arena.Call:
		return m.declared(n.Ref)
	case arena.Bin:
		return rules(n.Num)[2:3]
	}
	return "-"
}

func (m model) declared(id api.ID) string {
	return "-nt"[m.node(id).Type:][:1]
}

// rules are the operands and the result of a sign; e is either type.
func rules(op int64) string {
	switch grammar.Sign(op) {
	case "+", "-", "*", "/", "%":
		return "nnn"
	case "<", "<=", ">", ">=":
		return "nnt"
	case "==", "!=":
		return "eet"
	}
	return "ttt"
}

// fits reports whether a node's expressions have the letters that it requires.
func (m model) fits(id api.ID) bool {
	n := m.node(id)
	have := ""
	for _, kid := range n.Kids {
		if l := m.letter(kid); l != "-" {
			have += l
		}
	}
	want := have
	switch n.Kind {
	case arena.Neg:
		want = "n"
	case arena.Not, arena.If, arena.While:
		want = "t"
	case arena.Bin:
		want = rules(n.Num)[:2]
		if want == "ee" && have[:1] == have[1:] {
			want = have
		}
	case arena.Call:
		want = ""
		for _, p := range m.such(m.node(n.Ref).Kids, arena.Param) {
			want += m.declared(p)
		}
	case arena.Let:
		want = m.declared(id)
	case arena.Assign:
		want = m.declared(n.Ref)
	case arena.Return:
		want = m.declared(m.path(id)[2])
	}
	return have == want
}

func (m model) main() api.ID {
	f := m.function("main", "main")
	if m.node(f).Type != arena.Number || len(m.node(f).Kids) > 1 {
		return 0
	}
	return f
}

func (m model) right() api.Errno {
	if !text.Shaped(m.a) {
		return api.ErrForm
	}
	if m.clash() {
		return api.ErrClash
	}
	all := m.below(1)
	for _, id := range m.such(all, arena.Var, arena.Assign) {
		if !slices.Contains(m.seen(id), m.node(id).Ref) {
			return api.ErrName
		}
	}
	for _, id := range all {
		if !m.fits(id) {
			return api.ErrType
		}
	}
	if m.main() == 0 {
		return api.ErrNone
	}
	return api.OK
}

// users returns those that refer to a node, by increasing ID.
func (m model) users(to api.ID) []api.ID {
	var l []api.ID
	for id := range api.ID(3000) {
		if n, ok := m.a.Get(id); ok && n.Ref == to {
			l = append(l, id)
		}
	}
	return l
}

// change changes a program in one place, mostly so that it stays Shaped.
func change(r *rand.Rand, a *arena.Arena) {
	m := model{a}
	all := m.below(1)
	pick := func(kinds ...byte) api.ID {
		l := m.such(all, kinds...)
		if len(l) == 0 {
			return 1
		}
		return l[r.Intn(len(l))]
	}
	var id api.ID
	var n api.Node
	at := func(x api.ID) { id, n = x, m.node(x) }
	named := []byte{arena.Module, arena.Func, arena.Param, arena.Let}
	switch r.Intn(10) {
	case 0:
		at(check.Main(a))
		n.Type = []byte{arena.Number, arena.Truth}[r.Intn(2)]
		n.Name = []string{"main", "man"}[r.Intn(2)]
	case 1:
		at(pick(named[r.Intn(4)]))
		n.Name = m.node(pick(n.Kind)).Name
	case 2, 3:
		at(pick(arena.Var, arena.Assign))
		n.Ref = pick(arena.Param, arena.Let)
	case 4:
		at(pick(arena.Call))
		n.Ref = pick(arena.Func)
	case 5:
		at(pick(arena.Func, arena.Param, arena.Let))
		n.Type = 3 - n.Type
	case 6:
		at(pick(arena.Bin))
		n.Num = 1 + r.Int63n(13)
	case 7:
		at(pick(arena.Call, arena.Block, arena.Func, arena.Bin))
		if len(n.Kids) > 1 {
			i := r.Intn(len(n.Kids) - 1)
			n.Kids[i], n.Kids[i+1] = n.Kids[i+1], n.Kids[i]
		}
	default:
		at(pick(arena.Call, arena.Func))
		if len(n.Kids) > 0 {
			a.Drop(n.Kids[0])
			n.Kids = n.Kids[1:]
		}
	}
	if id > 1 {
		a.Put(id, n)
	}
}

// scattered returns the program with other IDs, up to 3000.
func scattered(r *rand.Rand, a *arena.Arena) *arena.Arena {
	ids := map[api.ID]api.ID{0: 0, 1: 1}
	places := r.Perm(2998)
	for i, id := range a.IDs() {
		if id != 1 {
			ids[id] = api.ID(places[i] + 2)
		}
	}
	b := arena.New()
	for id, n := range a.Walk(1) {
		n.Ref = ids[n.Ref]
		for i, kid := range n.Kids {
			n.Kids[i] = ids[kid]
		}
		b.Put(ids[id], n)
	}
	return b
}

func wantSame(t *testing.T, a *arena.Arena) {
	t.Helper()
	m := model{a}
	types := map[string]byte{"-": arena.None, "n": arena.Number, "t": arena.Truth}
	for id := range a.Walk(1) {
		if got, want := check.Type(a, id), types[m.letter(id)]; got != want {
			t.Errorf("Type of %d: %d, want %d", id, got, want)
		}
		wantIDs(t, "Seen", check.Seen(a, id), m.seen(id)...)
		u := check.Uses(a, id)
		wantIDs(t, "Reads", u.Reads, m.refs(id, arena.Var)...)
		wantIDs(t, "Writes", u.Writes, m.refs(id, arena.Assign)...)
		wantIDs(t, "Calls", u.Calls, m.refs(id, arena.Call)...)
	}
	some := api.ID(1)
	for _, k := range m.node(1).Kids {
		functions := m.node(k).Kids
		wantIDs(t, "Funcs", check.Funcs(a, k), functions...)
		for _, f := range functions {
			some = f
			if got, want := check.Names(a, f), m.names(m.such(m.below(f), arena.Param, arena.Let)); !slices.Equal(got, want) {
				t.Errorf("Names of %d: %q, want %q", f, got, want)
			}
			if got, want := check.Func(a, m.node(k).Name, m.node(f).Name), m.function(m.node(k).Name, m.node(f).Name); got != want {
				t.Errorf("Func of %d: %d, want %d", f, got, want)
			}
		}
	}
	wantIDs(t, "Modules", check.Modules(a), m.node(1).Kids...)
	for _, id := range append(m.such(m.below(some), arena.Param, arena.Let), some) {
		wantIDs(t, "Users", check.Users(a, id), m.users(id)...)
	}
	if got, want := check.Main(a), m.main(); got != want {
		t.Errorf("Main: %d, want %d", got, want)
	}
}

// TestModel compares all calls with the model, for programs that are right and
// for changed ones.
func TestModel(t *testing.T) {
	r := rand.New(rand.NewSource(1))
	counts := map[api.Errno]int{}
	for range 200 {
		w := author{r: r}
		s := w.program()
		a := parsed(t, s)
		wantRight(t, a, api.OK, s)
		if a.Len() > 400 {
			continue
		}
		if a.Len() < 120 {
			wantSame(t, a)
		}
		for range 8 {
			b := scattered(r, a)
			for range 1 + r.Intn(2) {
				change(r, b)
			}
			want := model{b}.right()
			counts[want]++
			printed, _ := text.Print(b)
			wantRight(t, b, want, printed)
			if want != api.ErrForm && a.Len() < 120 && r.Intn(10) == 0 {
				wantSame(t, b)
			}
			if t.Failed() {
				t.Fatalf("in %q, first %q", printed, s)
			}
		}
	}
	for _, e := range []api.Errno{api.OK, api.ErrForm, api.ErrClash, api.ErrName, api.ErrType, api.ErrNone} {
		if counts[e] < 20 {
			t.Errorf("only %d programs with error %d", counts[e], e)
		}
	}
}
