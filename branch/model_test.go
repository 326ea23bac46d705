package branch_test

import (
	"bytes"
	"math/rand"
	"slices"
	"testing"

	"hourglass/api"
	"hourglass/arena"
	"hourglass/branch"
	"hourglass/check"
	"hourglass/judge"
	"hourglass/op"
	"hourglass/past"
	"hourglass/step"
	"hourglass/trial"
)

// model does what is promised as literally as possible.
type model struct {
	names   []string
	pasts   map[string]*past.Past
	current string
	stamp   uint32
}

func modelOf(t *testing.T, base *arena.Arena) *model {
	t.Helper()
	p, e := past.New(base, 0)
	if e != api.OK {
		t.Fatal(e)
	}
	return &model{names: []string{"trunk"}, pasts: map[string]*past.Past{"trunk": p}, current: "trunk"}
}

func (m *model) copy() *model {
	c := &model{slices.Clone(m.names), map[string]*past.Past{}, m.current, m.stamp}
	for name, p := range m.pasts {
		c.pasts[name] = p.Copy()
	}
	return c
}

func (m *model) Do(o op.Op) (uint32, api.Errno) {
	e := m.pasts[m.current].Do(o, m.stamp+1)
	if e != api.OK {
		return 0, e
	}
	m.stamp++
	return m.stamp, api.OK
}

func (m *model) Undo(stamp uint32) (uint32, api.Errno) { return m.pasts[m.current].Undo(stamp) }

func (m *model) Redo(stamp uint32) (uint32, api.Errno) { return m.pasts[m.current].Redo(stamp) }

func (m *model) Fork(name string) api.Errno {
	if name == "if" {
		return api.ErrName
	}
	if slices.Contains(m.names, name) {
		return api.ErrBranch
	}
	m.names = append(m.names, name)
	m.pasts[name] = m.pasts[m.current].Copy()
	return api.OK
}

func (m *model) Switch(name string) api.Errno {
	if !slices.Contains(m.names, name) {
		return api.ErrNone
	}
	m.current = name
	return api.OK
}

func (m *model) Merge(name string) (uint32, api.Errno) {
	if !slices.Contains(m.names, name) {
		return 0, api.ErrNone
	}
	if name == m.current {
		return 0, api.ErrBranch
	}
	has := map[uint32]bool{}
	for _, e := range m.pasts[m.current].All() {
		has[e.Stamp] = true
	}
	var l []step.Stamped
	for _, e := range m.pasts[name].All() {
		if e.Live && !has[e.Stamp] {
			l = append(l, step.Stamped{Stamp: e.Stamp, Op: e.Op})
		}
	}
	return m.pasts[m.current].Take(l)
}

func (m *model) freeze() {
	for _, p := range m.pasts {
		p.Freeze(m.stamp)
	}
}

func (m *model) bytes() []byte {
	var l [][]byte
	for _, name := range m.names {
		l = append(l, named(name, m.pasts[name].Bytes()))
	}
	return laid(uint64(m.stamp), uint64(slices.Index(m.names, m.current)), uint64(len(l)), l...)
}

// wantModel expects that a book is what a model is.
func wantModel(t *testing.T, b *branch.Book, m *model) {
	t.Helper()
	wantNames(t, b, m.stamp, m.current, m.names...)
	for _, name := range m.names {
		if p := b.Past(name); !past.Same(p, m.pasts[name]) || !arena.Same(p.Now(), m.pasts[name].Now()) {
			t.Errorf("the past of %s is another one", name)
		}
	}
	if !arena.Same(b.Now(), m.pasts[m.current].Now()) || check.Right(b.Now()) != api.OK {
		t.Error("Now is another one")
	}
	if !bytes.Equal(b.Bytes(), m.bytes()) {
		t.Error("Bytes are others")
	}
}

// again returns the book, or another one that should be the same.
func again(t *testing.T, below func(n int) int, b *branch.Book) *branch.Book {
	t.Helper()
	switch below(6) {
	case 0:
		return b.Copy()
	case 1:
		return parsed(t, b.Bytes())
	}
	return b
}

// TestRandomly gives random commands to a book and its model.
func TestRandomly(t *testing.T) {
	below := rand.New(rand.NewSource(1)).Intn
	counts := trial.Counts{}
	for range 40 {
		base := trial.Scattered(below, trial.Short(t, below))
		b, e := branch.New(base)
		if e != api.OK {
			t.Fatal(e)
		}
		m := modelOf(t, base)
		kept, model := b.Copy(), m.copy()
		for i := range 80 {
			c := trial.AnyCommand(below, b)
			stamp, e := c.To(b)
			wantStamp, want := c.To(m)
			trial.WantCause(t, c.Word, stamp, e, wantStamp, want)
			counts.Add(c.Word, e)
			if c.Word == "merge" && want != api.OK && stamp > 0 {
				counts.Add("a cause of merge", api.OK)
			}
			if below(80) == 0 {
				b.Freeze()
				m.freeze()
			}
			if i%8 == 7 {
				b = again(t, below, b)
				wantModel(t, b, m)
				wantModel(t, kept, model)
				if branch.Same(b, kept) != bytes.Equal(m.bytes(), model.bytes()) {
					t.Error("Same is wrong")
				}
				kept, model = b.Copy(), m.copy()
			}
			if t.Failed() {
				t.FailNow()
			}
		}
		for _, name := range b.Names() {
			trial.WantKept(t, below, b.Past(name))
		}
	}
	counts.Want(t, "do", 5, api.OK, api.ErrArg, api.ErrNone, api.ErrClash)
	counts.Want(t, "undo", 5, api.OK, api.ErrFrozen, api.ErrUnknown, api.ErrDead, api.ErrNone)
	counts.Want(t, "redo", 5, api.OK, api.ErrFrozen, api.ErrUnknown, api.ErrLive)
	counts.Want(t, "fork", 5, api.OK, api.ErrName, api.ErrBranch)
	counts.Want(t, "switch", 5, api.OK, api.ErrNone)
	counts.Want(t, "merge", 5, api.OK, api.ErrNone, api.ErrBranch)
	counts.Want(t, "a cause of merge", 5, api.OK)
}

// operations are what was done on a branch.
func operations(b *branch.Book, name string) []op.Op {
	var l []op.Op
	for _, s := range b.Past(name).Live() {
		l = append(l, s.Op)
	}
	return l
}

// TestMergeOfWhatCommutes: two branches whose operations are apart can be merged
// into each other, and then have the same program.
func TestMergeOfWhatCommutes(t *testing.T) {
	below := rand.New(rand.NewSource(2)).Intn
	merged := 0
	for range 200 {
		base := trial.Short(t, below)
		b, e := branch.New(base)
		if e != api.OK {
			t.Fatal(e)
		}
		trial.Fork(t, b, "x")
		for range 8 {
			c := trial.Changer{Below: below, Arena: b.Now()}
			if o := c.Op(); judge.Of(base, o).Known {
				b.Do(o)
			}
			trial.Switch(t, b, c.One("trunk", "x"))
		}
		if !judge.Apart(base, operations(b, "trunk"), operations(b, "x")) {
			continue
		}
		c := b.Copy()
		trial.Switch(t, b, "trunk")
		trial.WantMerge(t, b, "x", 0, api.OK)
		trial.Switch(t, c, "x")
		trial.WantMerge(t, c, "trunk", 0, api.OK)
		if !arena.Same(b.Now(), c.Now()) {
			t.Fatal("the programs differ")
		}
		merged++
	}
	if merged < 25 {
		t.Error(merged)
	}
}
