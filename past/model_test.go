package past_test

import (
	"math/rand"
	"slices"
	"testing"

	"hourglass/api"
	"hourglass/arena"
	"hourglass/check"
	"hourglass/op"
	"hourglass/past"
	"hourglass/step"
	"hourglass/trial"
)

// model does what is promised as literally as possible, and folds all anew each
// time.
type model struct {
	base    *arena.Arena
	frozen  uint32
	entries []past.Entry
}

func (m *model) copy() *model {
	return &model{m.base, m.frozen, slices.Clone(m.entries)}
}

func (m *model) find(stamp uint32) *past.Entry {
	for i := range m.entries {
		if m.entries[i].Stamp == stamp {
			return &m.entries[i]
		}
	}
	return nil
}

func (m *model) stamp() uint32 {
	last := m.frozen
	for _, e := range m.entries {
		last = max(last, e.Stamp)
	}
	return last
}

// folded reports whether the entries can be folded; otherwise they become what
// they were.
func (m *model) folded(before []past.Entry) (uint32, api.Errno) {
	_, stamp, e := step.Fold(m.base, live(m.entries))
	if e != api.OK {
		m.entries = before
	}
	return stamp, e
}

func (m *model) do(o op.Op, stamp uint32) (uint32, api.Errno) {
	if stamp <= m.stamp() {
		return 0, api.ErrArg
	}
	if len(m.entries) == api.MaxOps {
		return 0, api.ErrFull
	}
	before := slices.Clone(m.entries)
	m.entries = append(m.entries, past.Entry{Stamp: stamp, Op: o, Live: true})
	_, e := m.folded(before)
	return 0, e
}

func (m *model) turn(stamp uint32, live bool) (uint32, api.Errno) {
	if stamp >= 1 && stamp <= m.frozen {
		return 0, api.ErrFrozen
	}
	found := m.find(stamp)
	if found == nil {
		return 0, api.ErrUnknown
	}
	if found.Live == live {
		return 0, map[bool]api.Errno{true: api.ErrLive, false: api.ErrDead}[live]
	}
	before := slices.Clone(m.entries)
	found.Live = live
	return m.folded(before)
}

func (m *model) take(l []step.Stamped) (uint32, api.Errno) {
	for _, s := range l {
		if s.Stamp <= m.frozen {
			return 0, api.ErrFrozen
		}
	}
	for i, s := range l {
		if m.find(s.Stamp) != nil || slices.ContainsFunc(l[:i], func(other step.Stamped) bool { return other.Stamp == s.Stamp }) {
			return 0, api.ErrArg
		}
	}
	if len(m.entries)+len(l) > api.MaxOps {
		return 0, api.ErrFull
	}
	before := slices.Clone(m.entries)
	for _, s := range l {
		m.entries = append(m.entries, past.Entry{Stamp: s.Stamp, Op: s.Op, Live: true})
	}
	return m.folded(before)
}

func (m *model) freeze(stamp uint32) {
	now, _, _ := step.Fold(m.base, live(m.entries))
	m.base, m.frozen, m.entries = now, max(stamp, m.stamp()), nil
}

// pair is a past and its model.
type pair struct {
	past  *past.Past
	model *model
}

// world is some pasts with one base, which take from each other.
type world struct {
	t     *testing.T
	below func(n int) int
	pairs []pair
	last  uint32
	count trial.Counts
}

func newWorld(t *testing.T, below func(n int) int, count trial.Counts) *world {
	t.Helper()
	base := trial.Scattered(below, trial.Short(t, below))
	w := &world{t: t, below: below, last: uint32(below(3)), count: count}
	for range 3 {
		p, e := past.New(base, w.last)
		if e != api.OK {
			t.Fatal(e)
		}
		w.pairs = append(w.pairs, pair{p, &model{base: base.Copy(), frozen: w.last}})
	}
	return w
}

// stamp returns one of a past, mostly.
func (w *world) stamp(p pair) uint32 {
	if n := len(p.model.entries); n > 0 && w.below(12) > 0 {
		return p.model.entries[w.below(n)].Stamp
	}
	return uint32(w.below(int(w.last) + 3))
}

// missing returns the live entries of a past that another one does not have, and
// rarely others.
func (w *world) missing(p, from pair) []step.Stamped {
	var l []step.Stamped
	for _, s := range live(from.model.entries) {
		if p.model.find(s.Stamp) == nil || w.below(100) == 0 {
			l = append(l, s)
		}
	}
	if w.below(8) == 0 {
		l = append(l, step.Stamped{Stamp: w.stamp(p), Op: w.op(p)})
	}
	return l
}

func (w *world) op(p pair) op.Op {
	return trial.Changer{Below: w.below, Arena: p.past.Now()}.Op()
}

func (w *world) want(what string, stamp uint32, e api.Errno, wantStamp uint32, want api.Errno) {
	w.t.Helper()
	trial.WantCause(w.t, what, stamp, e, wantStamp, want)
	w.count.Add(what, e)
}

// call makes one call of a past and its model.
func (w *world) call(p pair) {
	w.t.Helper()
	var stamp, wantStamp uint32
	var e, want api.Errno
	switch w.below(10) {
	case 0, 1, 2, 3:
		w.last++
		o, at := w.op(p), w.last
		if w.below(10) == 0 {
			at = w.stamp(p)
		}
		e = p.past.Do(o, at)
		_, want = p.model.do(o, at)
		w.want("Do", 0, e, 0, want)
	case 4, 5:
		at := w.stamp(p)
		stamp, e = p.past.Undo(at)
		wantStamp, want = p.model.turn(at, false)
		w.want("Undo", stamp, e, wantStamp, want)
	case 6, 7:
		at := w.stamp(p)
		stamp, e = p.past.Redo(at)
		wantStamp, want = p.model.turn(at, true)
		w.want("Redo", stamp, e, wantStamp, want)
	case 8:
		l := w.missing(p, w.pairs[w.below(3)])
		stamp, e = p.past.Take(l)
		wantStamp, want = p.model.take(l)
		w.want("Take", stamp, e, wantStamp, want)
	default:
		w.rarely(p)
	}
}

func (w *world) rarely(p pair) {
	switch w.below(5) {
	case 0:
		at := uint32(w.below(int(w.last) + 2))
		p.past.Freeze(at)
		p.model.freeze(at)
		w.last = max(w.last, at)
	case 1:
		w.pairs[w.below(3)] = pair{p.past.Copy(), p.model.copy()}
	default:
		q, e := past.Parse(p.past.Bytes())
		if e != api.OK {
			w.t.Fatalf("Parse: error %d", e)
		}
		w.pairs[w.below(3)] = pair{q, p.model.copy()}
	}
}

func (w *world) compare(p pair) {
	w.t.Helper()
	wantPast(w.t, p.past, p.model.base, p.model.frozen, p.model.entries...)
	if e := check.Right(p.past.Now()); e != api.OK {
		w.t.Errorf("Now is not right: %d", e)
	}
}

func (w *world) compareAll() {
	w.t.Helper()
	for i, p := range w.pairs {
		w.compare(p)
		for _, q := range w.pairs[:i] {
			same := p.model.frozen == q.model.frozen && arena.Same(p.model.base, q.model.base) && slices.Equal(p.model.entries, q.model.entries)
			if past.Same(p.past, q.past) != same {
				w.t.Errorf("Same is not %v", same)
			}
		}
	}
}

// TestRandomly compares pasts with models, over random histories.
func TestRandomly(t *testing.T) {
	below := rand.New(rand.NewSource(1)).Intn
	count := trial.Counts{}
	for range 60 {
		w := newWorld(t, below, count)
		for i := range 60 {
			p := w.pairs[below(3)]
			w.call(p)
			w.compare(p)
			if i%6 == 5 {
				w.compareAll()
			}
			if t.Failed() {
				t.FailNow()
			}
		}
		for _, p := range w.pairs {
			trial.WantKept(t, below, p.past)
		}
	}
	count.Want(t, "Do", 5, api.OK, api.ErrArg, api.ErrNone, api.ErrClash)
	count.Want(t, "Undo", 5, api.OK, api.ErrFrozen, api.ErrUnknown, api.ErrDead, api.ErrNone)
	count.Want(t, "Redo", 5, api.OK, api.ErrFrozen, api.ErrUnknown, api.ErrLive)
	count.Want(t, "Take", 3, api.OK, api.ErrFrozen, api.ErrArg, api.ErrNone)
}
