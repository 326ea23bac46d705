package past_test

import (
	"math"
	"slices"
	"testing"

	"hourglass/api"
	"hourglass/arena"
	"hourglass/op"
	"hourglass/past"
	"hourglass/step"
	"hourglass/trial"
)

// program has the modules m, which is 2, and main; 6 is the Return of m.f, 7 the
// 1 in it.
const program = "module m { func f() int { return 1; } } module main { func main() int { let x int = m.f(); return x; } }"

// renamed is the program with another name of m.
func renamed(name string) string {
	return "module " + name + " { func f() int { return 1; } } module main { func main() int { let x int = " + name + ".f(); return x; } }"
}

func rename(name string) op.Op {
	return op.Op{Kind: op.RenameModule, A: 2, Name: name}
}

func add(name string) op.Op {
	return op.Op{Kind: op.AddModule, Name: name}
}

// made is the first node that a stamp has made.
func made(stamp uint32) api.ID {
	return api.ID(stamp)*65536 + 1
}

// drop drops the module that a stamp has added.
func drop(stamp uint32) op.Op {
	return op.Op{Kind: op.DropModule, A: made(stamp)}
}

func started(t *testing.T, program string, stamp uint32) *past.Past {
	t.Helper()
	p, e := past.New(trial.Right(t, program), stamp)
	if p == nil || e != api.OK {
		t.Fatalf("New: %v, error %d", p, e)
	}
	return p
}

func do(t *testing.T, p *past.Past, stamp uint32, o op.Op) {
	t.Helper()
	if e := p.Do(o, stamp); e != api.OK {
		t.Fatalf("Do of %d, %s: error %d", stamp, o.Text(), e)
	}
}

func wantErrno(t *testing.T, what string, got, want api.Errno) {
	t.Helper()
	if got != want {
		t.Errorf("%s: error %d, want %d", what, got, want)
	}
}

// wantCause is for the calls that also return a stamp.
func wantCause(t *testing.T, what string, stamp uint32, e api.Errno, wantStamp uint32, want api.Errno) {
	t.Helper()
	if stamp != wantStamp || e != want {
		t.Errorf("%s: %d, error %d, want %d, error %d", what, stamp, e, wantStamp, want)
	}
}

func wantUndo(t *testing.T, p *past.Past, stamp, cause uint32, want api.Errno) {
	t.Helper()
	got, e := p.Undo(stamp)
	wantCause(t, "Undo", got, e, cause, want)
}

func wantRedo(t *testing.T, p *past.Past, stamp, cause uint32, want api.Errno) {
	t.Helper()
	got, e := p.Redo(stamp)
	wantCause(t, "Redo", got, e, cause, want)
}

func wantTake(t *testing.T, p *past.Past, l []step.Stamped, cause uint32, want api.Errno) {
	t.Helper()
	got, e := p.Take(l)
	wantCause(t, "Take", got, e, cause, want)
}

func wantNow(t *testing.T, p *past.Past, program string) {
	t.Helper()
	trial.WantProgram(t, "Now", trial.Of(p.Now(), api.OK), program)
}

func live(l []past.Entry) []step.Stamped {
	var lives []step.Stamped
	for _, e := range l {
		if e.Live {
			lives = append(lives, step.Stamped{Stamp: e.Stamp, Op: e.Op})
		}
	}
	return lives
}

// wantPast expects all that a past tells.
func wantPast(t *testing.T, p *past.Past, base *arena.Arena, frozen uint32, entries ...past.Entry) {
	t.Helper()
	stamp := frozen
	for _, e := range entries {
		stamp = max(stamp, e.Stamp)
	}
	if got := p.All(); !slices.Equal(got, entries) {
		t.Errorf("All: %v, want %v", got, entries)
	}
	if got, want := p.Live(), live(entries); !slices.Equal(got, want) {
		t.Errorf("Live: %v, want %v", got, want)
	}
	if p.Frozen() != frozen || p.Stamp() != stamp {
		t.Errorf("Frozen %d, Stamp %d, want %d, %d", p.Frozen(), p.Stamp(), frozen, stamp)
	}
	if !arena.Same(p.Base(), base) {
		t.Errorf("Base has changed")
	}
	now, _, e := step.Fold(base, live(entries))
	if e != api.OK {
		t.Fatalf("Fold: error %d", e)
	}
	trial.WantArena(t, "Now", trial.Of(p.Now(), api.OK), now)
}

func TestExample(t *testing.T) {
	p := started(t, program, 0)
	do(t, p, 1, rename("k"))
	wantNow(t, p, renamed("k"))
	wantUndo(t, p, 1, 0, api.OK)
	wantNow(t, p, program)
	if !arena.Same(p.Now(), p.Base()) {
		t.Error("Now is not the base")
	}
}

func TestNew(t *testing.T) {
	a := trial.Right(t, program)
	for _, stamp := range []uint32{0, 1, 7, 1 << 31, math.MaxUint32} {
		wantPast(t, started(t, program, stamp), a, stamp)
	}
	for _, w := range trial.Wrongs(t, program) {
		if p, e := past.New(w.Arena, 0); p != nil || e != api.ErrForm {
			t.Errorf("%s: %v, error %d, want ErrForm", w.Why, p, e)
		}
	}
}

func TestDo(t *testing.T) {
	a := trial.Right(t, program)
	p := started(t, program, 4)
	do(t, p, 5, add("k"))
	wantPast(t, p, a, 4, past.Entry{Stamp: 5, Op: add("k"), Live: true})
	do(t, p, 100, rename("l"))
	do(t, p, math.MaxUint32, op.Op{Kind: op.RenameModule, A: made(5), Name: "m"})
	wantPast(t, p, a, 4, past.Entry{Stamp: 5, Op: add("k"), Live: true}, past.Entry{Stamp: 100, Op: rename("l"), Live: true},
		past.Entry{Stamp: math.MaxUint32, Op: op.Op{Kind: op.RenameModule, A: made(5), Name: "m"}, Live: true})
	wantNow(t, p, renamed("l")+" module m { }")
	wantErrno(t, "after the last stamp", p.Do(rename("x"), math.MaxUint32), api.ErrArg)
}

func TestDoErrors(t *testing.T) {
	a := trial.Right(t, program)
	p := started(t, program, 4)
	for _, stamp := range []uint32{0, 1, 3, 4} {
		wantErrno(t, "a frozen stamp", p.Do(rename("k"), stamp), api.ErrArg)
	}
	wantErrno(t, "a clash", p.Do(rename("main"), 5), api.ErrClash)
	wantErrno(t, "no operation", p.Do(op.Op{}, 5), api.ErrArg)
	wantErrno(t, "no such node", p.Do(drop(5), 6), api.ErrNone)
	wantErrno(t, "a clash and a frozen stamp", p.Do(rename("main"), 4), api.ErrArg)
	wantPast(t, p, a, 4)
	do(t, p, 7, rename("k"))
	for _, stamp := range []uint32{0, 4, 5, 6, 7} {
		wantErrno(t, "a stamp that is not above the last one", p.Do(rename("l"), stamp), api.ErrArg)
		wantErrno(t, "the same, and a clash", p.Do(rename("main"), stamp), api.ErrArg)
	}
	wantPast(t, p, a, 4, past.Entry{Stamp: 7, Op: rename("k"), Live: true})
	wantUndo(t, p, 7, 0, api.OK)
	wantErrno(t, "the stamp of a dead entry", p.Do(rename("l"), 7), api.ErrArg)
	do(t, p, 8, rename("l"))
	wantTake(t, p, []step.Stamped{{Stamp: 20, Op: rename("x")}, {Stamp: 9, Op: rename("y")}}, 0, api.OK)
	wantErrno(t, "a stamp below one that is not the last entry's", p.Do(rename("z"), 10), api.ErrArg)
	wantErrno(t, "the largest stamp", p.Do(rename("z"), 20), api.ErrArg)
	do(t, p, 21, rename("z"))
}

// full has MaxOps entries with even stamps, of which every second one is dead.
func full(t *testing.T) *past.Past {
	t.Helper()
	p := started(t, program, 0)
	for i := range uint32(api.MaxOps) {
		do(t, p, 2*i+2, rename([]string{"k", "l"}[i%2]))
	}
	for i := uint32(4); i <= 40; i += 4 {
		wantUndo(t, p, i, 0, api.OK)
	}
	return p
}

func TestFull(t *testing.T) {
	p := full(t)
	q := p.Copy()
	wantErrno(t, "one more", p.Do(rename("x"), 3000), api.ErrFull)
	wantErrno(t, "one more, with a clash", p.Do(rename("main"), 3000), api.ErrFull)
	wantErrno(t, "one more, with an old stamp", p.Do(rename("x"), 2000), api.ErrArg)
	wantErrno(t, "one more, with no operation", p.Do(op.Op{}, 2001), api.ErrFull)
	wantTake(t, p, []step.Stamped{{Stamp: 2001, Op: rename("x")}}, 0, api.ErrFull)
	wantTake(t, p, []step.Stamped{{Stamp: 2001}}, 0, api.ErrFull)
	wantTake(t, p, []step.Stamped{{Stamp: 2000, Op: rename("x")}}, 0, api.ErrArg)
	wantTake(t, p, []step.Stamped{{Stamp: 0, Op: rename("x")}}, 0, api.ErrFrozen)
	wantTake(t, p, nil, 0, api.OK)
	if !past.Same(p, q) || len(p.All()) != api.MaxOps {
		t.Error("the past has changed")
	}
	wantUndo(t, p, 2000, 0, api.OK)
	wantRedo(t, p, 4, 0, api.OK)
	wantErrno(t, "dead entries make no room", p.Do(rename("x"), 3000), api.ErrFull)
	p.Freeze(0)
	do(t, p, 3000, rename("x"))
	wantTake(t, p, q.Live()[:10], 0, api.ErrFrozen)
}

// TestTakeUpToFull: as many as there is room for.
func TestTakeUpToFull(t *testing.T) {
	p := started(t, program, 10)
	do(t, p, 11, rename("x"))
	var l []step.Stamped
	for i := range uint32(api.MaxOps) {
		l = append(l, step.Stamped{Stamp: 5000 - i, Op: rename([]string{"k", "l"}[i%2])})
	}
	wantTake(t, p, l, 0, api.ErrFull)
	wantTake(t, p, append(l, l[0]), 0, api.ErrArg)
	wantTake(t, p, append(l, step.Stamped{Stamp: 10}), 0, api.ErrFrozen)
	wantPast(t, p, trial.Right(t, program), 10, past.Entry{Stamp: 11, Op: rename("x"), Live: true})
	wantTake(t, p, l[1:], 0, api.OK)
	if len(p.All()) != api.MaxOps || p.Stamp() != 4999 {
		t.Error(len(p.All()), p.Stamp())
	}
	wantNow(t, p, renamed("l"))
}

func TestUndoAndRedo(t *testing.T) {
	a := trial.Right(t, program)
	p := started(t, program, 4)
	do(t, p, 5, rename("k"))
	do(t, p, 6, add("m"))
	do(t, p, 9, op.Op{Kind: op.RenameModule, A: made(6), Name: "n"})
	entries := func(live ...bool) []past.Entry {
		return []past.Entry{{Stamp: 5, Op: rename("k"), Live: live[0]}, {Stamp: 6, Op: add("m"), Live: live[1]},
			{Stamp: 9, Op: op.Op{Kind: op.RenameModule, A: made(6), Name: "n"}, Live: live[2]}}
	}
	wantUndo(t, p, 5, 6, api.ErrClash) // m would be there twice
	wantUndo(t, p, 6, 9, api.ErrNone)  // there would be nothing to rename
	wantPast(t, p, a, 4, entries(true, true, true)...)
	wantUndo(t, p, 9, 0, api.OK)
	wantPast(t, p, a, 4, entries(true, true, false)...)
	wantUndo(t, p, 6, 0, api.OK)
	wantUndo(t, p, 5, 0, api.OK)
	wantPast(t, p, a, 4, entries(false, false, false)...)
	wantRedo(t, p, 9, 9, api.ErrNone)
	wantRedo(t, p, 6, 6, api.ErrClash)
	wantPast(t, p, a, 4, entries(false, false, false)...)
	wantRedo(t, p, 5, 0, api.OK)
	wantRedo(t, p, 6, 0, api.OK)
	wantRedo(t, p, 9, 0, api.OK)
	wantPast(t, p, a, 4, entries(true, true, true)...)
	wantNow(t, p, renamed("k")+" module n { }")
}

// TestRedoInItsPlace: what is redone comes before what was done later.
func TestRedoInItsPlace(t *testing.T) {
	p := started(t, program, 0)
	do(t, p, 1, rename("k"))
	wantUndo(t, p, 1, 0, api.OK)
	do(t, p, 2, rename("l"))
	wantRedo(t, p, 1, 0, api.OK)
	wantNow(t, p, renamed("l"))
	wantUndo(t, p, 2, 0, api.OK)
	wantNow(t, p, renamed("k"))
	do(t, p, 3, add("x"))
	wantUndo(t, p, 3, 0, api.OK)
	do(t, p, 4, add("x"))
	wantRedo(t, p, 3, 4, api.ErrClash) // the later one is the cause
}

func TestUndoErrors(t *testing.T) {
	p := started(t, program, 4)
	do(t, p, 6, rename("k"))
	do(t, p, 8, rename("l"))
	wantUndo(t, p, 8, 0, api.OK)
	before := p.Copy()
	for _, stamp := range []uint32{1, 2, 3, 4} {
		wantUndo(t, p, stamp, 0, api.ErrFrozen)
		wantRedo(t, p, stamp, 0, api.ErrFrozen)
	}
	for _, stamp := range []uint32{0, 5, 7, 9, math.MaxUint32} {
		wantUndo(t, p, stamp, 0, api.ErrUnknown)
		wantRedo(t, p, stamp, 0, api.ErrUnknown)
	}
	wantUndo(t, p, 8, 0, api.ErrDead)
	wantRedo(t, p, 6, 0, api.ErrLive)
	if !past.Same(p, before) || !arena.Same(p.Now(), before.Now()) {
		t.Error("the past has changed")
	}
	q := started(t, program, 0)
	wantUndo(t, q, 0, 0, api.ErrUnknown)
	wantRedo(t, q, 0, 0, api.ErrUnknown)
	wantUndo(t, q, 1, 0, api.ErrUnknown)
}

func TestTake(t *testing.T) {
	a := trial.Right(t, program)
	p := started(t, program, 4)
	do(t, p, 10, add("k"))
	do(t, p, 12, rename("l"))
	wantUndo(t, p, 12, 0, api.OK)
	had := p.All()
	wantTake(t, p, []step.Stamped{{Stamp: 9, Op: add("x")}, {Stamp: 20, Op: drop(9)}, {Stamp: 11, Op: drop(10)}}, 0, api.OK)
	wantPast(t, p, a, 4, append(had, past.Entry{Stamp: 9, Op: add("x"), Live: true}, past.Entry{Stamp: 20, Op: drop(9), Live: true}, past.Entry{Stamp: 11, Op: drop(10), Live: true})...)
	wantUndo(t, p, 10, 11, api.ErrNone)
	wantUndo(t, p, 20, 0, api.OK)
	wantNow(t, p, program+" module x { }")
	wantUndo(t, p, 9, 0, api.OK)
	wantRedo(t, p, 20, 20, api.ErrNone)
}

func TestTakeErrors(t *testing.T) {
	p := started(t, program, 4)
	do(t, p, 10, add("k"))
	do(t, p, 12, rename("l"))
	wantUndo(t, p, 12, 0, api.OK)
	before := p.Copy()
	for _, c := range []struct {
		l     []step.Stamped
		cause uint32
		want  api.Errno
	}{
		{[]step.Stamped{{Stamp: 0, Op: add("x")}}, 0, api.ErrFrozen},
		{[]step.Stamped{{Stamp: 4, Op: add("x")}}, 0, api.ErrFrozen},
		{[]step.Stamped{{Stamp: 11, Op: add("x")}, {Stamp: 1, Op: add("y")}}, 0, api.ErrFrozen},
		{[]step.Stamped{{Stamp: 10, Op: add("x")}, {Stamp: 1, Op: add("y")}}, 0, api.ErrFrozen},
		{[]step.Stamped{{Stamp: 11}, {Stamp: 3, Op: add("y")}}, 0, api.ErrFrozen},
		{[]step.Stamped{{Stamp: 10, Op: add("x")}}, 0, api.ErrArg},
		{[]step.Stamped{{Stamp: 12, Op: add("x")}}, 0, api.ErrArg}, // also of a dead one
		{[]step.Stamped{{Stamp: 11, Op: add("x")}, {Stamp: 11, Op: add("y")}}, 0, api.ErrArg},
		{[]step.Stamped{{Stamp: 11, Op: rename("main")}, {Stamp: 10, Op: add("y")}}, 0, api.ErrArg},
		{[]step.Stamped{{Stamp: 11, Op: rename("main")}}, 11, api.ErrClash},
		{[]step.Stamped{{Stamp: 13, Op: add("x")}, {Stamp: 11, Op: add("x")}, {Stamp: 14}}, 11, api.ErrClash},
		{[]step.Stamped{{Stamp: 13, Op: add("x")}, {Stamp: 11}}, 11, api.ErrArg},
		{[]step.Stamped{{Stamp: 13, Op: drop(12)}}, 13, api.ErrNone},
	} {
		wantTake(t, p, c.l, c.cause, c.want)
		if !past.Same(p, before) || !arena.Same(p.Now(), before.Now()) {
			t.Errorf("%v has changed the past", c.l)
		}
	}
	wantTake(t, p, nil, 0, api.OK)
	wantTake(t, p, []step.Stamped{}, 0, api.OK)
	if !past.Same(p, before) {
		t.Error("nothing was taken, but the past has changed")
	}
}

func TestFreeze(t *testing.T) {
	for _, c := range []struct{ stamp, frozen uint32 }{{0, 9}, {4, 9}, {8, 9}, {9, 9}, {10, 10}, {math.MaxUint32, math.MaxUint32}} {
		p := started(t, program, 4)
		do(t, p, 5, rename("k"))
		do(t, p, 8, add("m"))
		do(t, p, 9, add("n"))
		wantUndo(t, p, 9, 0, api.OK)
		now := p.Now()
		p.Freeze(c.stamp)
		wantPast(t, p, now, c.frozen)
		wantNow(t, p, renamed("k")+" module m { }")
		wantUndo(t, p, 5, 0, api.ErrFrozen)
		wantRedo(t, p, 9, 0, api.ErrFrozen)
		wantErrno(t, "a frozen stamp", p.Do(add("o"), c.frozen), api.ErrArg)
		if c.frozen < math.MaxUint32 {
			do(t, p, c.frozen+1, drop(8))
			wantUndo(t, p, c.frozen+1, 0, api.OK)
		}
		wantNow(t, p, renamed("k")+" module m { }")
	}
	p := started(t, program, 4)
	p.Freeze(3)
	wantPast(t, p, trial.Right(t, program), 4)
	p.Freeze(6)
	wantPast(t, p, trial.Right(t, program), 6)
	q := started(t, program, 4)
	wantTake(t, q, []step.Stamped{{Stamp: 20, Op: add("x")}, {Stamp: 10, Op: add("y")}}, 0, api.OK)
	q.Freeze(11)
	if q.Frozen() != 20 {
		t.Error(q.Frozen())
	}
}

func TestSame(t *testing.T) {
	changes := map[string]func(t *testing.T) *past.Past{
		"started": func(t *testing.T) *past.Past { return started(t, program, 4) },
		"frozen":  func(t *testing.T) *past.Past { return started(t, program, 5) },
		"base":    func(t *testing.T) *past.Past { return started(t, renamed("k"), 4) },
		"moved": func(t *testing.T) *past.Past {
			p, _ := past.New(trial.Moved(trial.Right(t, program), 100), 4)
			return p
		},
	}
	for name, l := range map[string][]past.Entry{
		"done":       {{Stamp: 6, Op: add("k"), Live: true}},
		"dead":       {{Stamp: 6, Op: add("k")}},
		"stamp":      {{Stamp: 7, Op: add("k"), Live: true}},
		"operation":  {{Stamp: 6, Op: add("l"), Live: true}},
		"two":        {{Stamp: 6, Op: add("k"), Live: true}, {Stamp: 7, Op: add("l"), Live: true}},
		"turned":     {{Stamp: 7, Op: add("l"), Live: true}, {Stamp: 6, Op: add("k"), Live: true}},
		"one is not": {{Stamp: 6, Op: add("k"), Live: true}, {Stamp: 7, Op: add("l")}},
	} {
		changes[name] = func(t *testing.T) *past.Past {
			p := started(t, program, 4)
			for _, e := range l {
				wantTake(t, p, []step.Stamped{{Stamp: e.Stamp, Op: e.Op}}, 0, api.OK)
				if !e.Live {
					wantUndo(t, p, e.Stamp, 0, api.OK)
				}
			}
			return p
		}
	}
	changes["nil"] = func(*testing.T) *past.Past { return nil }
	for x, make := range changes {
		for y, other := range changes {
			if got := past.Same(make(t), other(t)); got != (x == y) {
				t.Errorf("Same of %s and %s: %v", x, y, got)
			}
		}
	}
}

func TestNil(t *testing.T) {
	var p *past.Past
	wantErrno(t, "Do", p.Do(rename("k"), 1), api.ErrNone)
	wantErrno(t, "Do", p.Do(op.Op{}, 0), api.ErrNone)
	wantUndo(t, p, 1, 0, api.ErrNone)
	wantUndo(t, p, 0, 0, api.ErrNone)
	wantRedo(t, p, 1, 0, api.ErrNone)
	wantTake(t, p, nil, 0, api.ErrNone)
	wantTake(t, p, []step.Stamped{{}}, 0, api.ErrNone)
	p.Freeze(7)
	if p.Now() != nil || p.Base() != nil || p.Copy() != nil || p.Stamp() != 0 || p.Frozen() != 0 {
		t.Error("a nil past has something")
	}
	if len(p.All())+len(p.Live())+len(p.Bytes()) > 0 {
		t.Error("a nil past has entries or bytes")
	}
}
