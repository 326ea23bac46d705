package past_test

import (
	"math"
	"slices"
	"testing"

	"hourglass/api"
	"hourglass/arena"
	"hourglass/op"
	"hourglass/past"
	"hourglass/step"
	"hourglass/trial"
)

func started(t *testing.T, program string, stamp uint32) *past.Past {
	t.Helper()
	p, e := past.New(trial.Right(t, program), stamp)
	if p == nil || e != api.OK {
		t.Fatalf("New: %v, error %d", p, e)
	}
	return p
}

func do(t *testing.T, p *past.Past, stamp uint32, o op.Op) {
	t.Helper()
	if e := p.Do(o, stamp); e != api.OK {
		t.Fatalf("Do of %d, %s: error %d", stamp, o.Text(), e)
	}
}

func wantUndo(t *testing.T, p *past.Past, stamp, cause uint32, want api.Errno) {
	t.Helper()
	got, e := p.Undo(stamp)
	trial.WantCause(t, "Undo", got, e, cause, want)
}

func wantRedo(t *testing.T, p *past.Past, stamp, cause uint32, want api.Errno) {
	t.Helper()
	got, e := p.Redo(stamp)
	trial.WantCause(t, "Redo", got, e, cause, want)
}

func wantTake(t *testing.T, p *past.Past, l []step.Stamped, cause uint32, want api.Errno) {
	t.Helper()
	got, e := p.Take(l)
	trial.WantCause(t, "Take", got, e, cause, want)
}

func wantNow(t *testing.T, p *past.Past, program string) {
	t.Helper()
	trial.WantProgram(t, "Now", trial.Of(p.Now(), api.OK), program)
}

func live(l []past.Entry) []step.Stamped {
	var lives []step.Stamped
	for _, e := range l {
		if e.Live {
			lives = append(lives, step.Stamped{Stamp: e.Stamp, Op: e.Op})
		}
	}
	return lives
}

// wantPast expects all that a past tells.
func wantPast(t *testing.T, p *past.Past, base *arena.Arena, frozen uint32, entries ...past.Entry) {
	t.Helper()
	stamp := frozen
	for _, e := range entries {
		stamp = max(stamp, e.Stamp)
	}
	if got := p.All(); !slices.Equal(got, entries) {
		t.Errorf("All: %v, want %v", got, entries)
	}
	if got, want := p.Live(), live(entries); !slices.Equal(got, want) {
		t.Errorf("Live: %v, want %v", got, want)
	}
	if p.Frozen() != frozen || p.Stamp() != stamp {
		t.Errorf("Frozen %d, Stamp %d, want %d, %d", p.Frozen(), p.Stamp(), frozen, stamp)
	}
	if !arena.Same(p.Base(), base) {
		t.Errorf("Base has changed")
	}
	now, _, e := step.Fold(base, live(entries))
	if e != api.OK {
		t.Fatalf("Fold: error %d", e)
	}
	trial.WantArena(t, "Now", trial.Of(p.Now(), api.OK), now)
}

func TestExample(t *testing.T) {
	p := started(t, trial.Little, 0)
	do(t, p, 1, trial.Rename("k"))
	wantNow(t, p, trial.LittleNamed("k"))
	wantUndo(t, p, 1, 0, api.OK)
	wantNow(t, p, trial.Little)
	if !arena.Same(p.Now(), p.Base()) {
		t.Error("Now is not the base")
	}
}

func TestNew(t *testing.T) {
	a := trial.Right(t, trial.Little)
	for _, stamp := range []uint32{0, 1, 7, 1 << 31, math.MaxUint32} {
		wantPast(t, started(t, trial.Little, stamp), a, stamp)
	}
	for _, w := range trial.Wrongs(t, trial.Little) {
		if p, e := past.New(w.Arena, 0); p != nil || e != api.ErrForm {
			t.Errorf("%s: %v, error %d, want ErrForm", w.Why, p, e)
		}
	}
}

func TestDo(t *testing.T) {
	a := trial.Right(t, trial.Little)
	p := started(t, trial.Little, 4)
	do(t, p, 5, trial.Add("k"))
	wantPast(t, p, a, 4, past.Entry{Stamp: 5, Op: trial.Add("k"), Live: true})
	do(t, p, 100, trial.Rename("l"))
	do(t, p, math.MaxUint32, op.Op{Kind: op.RenameModule, A: trial.Made(5), Name: "m"})
	wantPast(t, p, a, 4, past.Entry{Stamp: 5, Op: trial.Add("k"), Live: true}, past.Entry{Stamp: 100, Op: trial.Rename("l"), Live: true},
		past.Entry{Stamp: math.MaxUint32, Op: op.Op{Kind: op.RenameModule, A: trial.Made(5), Name: "m"}, Live: true})
	wantNow(t, p, trial.LittleNamed("l")+" module m { }")
	trial.WantErrno(t, "after the last stamp", p.Do(trial.Rename("x"), math.MaxUint32), api.ErrArg)
}

func TestDoErrors(t *testing.T) {
	a := trial.Right(t, trial.Little)
	p := started(t, trial.Little, 4)
	for _, stamp := range []uint32{0, 1, 3, 4} {
		trial.WantErrno(t, "a frozen stamp", p.Do(trial.Rename("k"), stamp), api.ErrArg)
	}
	trial.WantErrno(t, "a clash", p.Do(trial.Rename("main"), 5), api.ErrClash)
	trial.WantErrno(t, "no operation", p.Do(op.Op{}, 5), api.ErrArg)
	trial.WantErrno(t, "no such node", p.Do(trial.Drop(5), 6), api.ErrNone)
	trial.WantErrno(t, "a clash and a frozen stamp", p.Do(trial.Rename("main"), 4), api.ErrArg)
	wantPast(t, p, a, 4)
	do(t, p, 7, trial.Rename("k"))
	for _, stamp := range []uint32{0, 4, 5, 6, 7} {
		trial.WantErrno(t, "a stamp that is not above the last one", p.Do(trial.Rename("l"), stamp), api.ErrArg)
		trial.WantErrno(t, "the same, and a clash", p.Do(trial.Rename("main"), stamp), api.ErrArg)
	}
	wantPast(t, p, a, 4, past.Entry{Stamp: 7, Op: trial.Rename("k"), Live: true})
	wantUndo(t, p, 7, 0, api.OK)
	trial.WantErrno(t, "the stamp of a dead entry", p.Do(trial.Rename("l"), 7), api.ErrArg)
	do(t, p, 8, trial.Rename("l"))
	wantTake(t, p, []step.Stamped{{Stamp: 20, Op: trial.Rename("x")}, {Stamp: 9, Op: trial.Rename("y")}}, 0, api.OK)
	trial.WantErrno(t, "a stamp below one that is not the last entry's", p.Do(trial.Rename("z"), 10), api.ErrArg)
	trial.WantErrno(t, "the largest stamp", p.Do(trial.Rename("z"), 20), api.ErrArg)
	do(t, p, 21, trial.Rename("z"))
}

// full has MaxOps entries with even stamps, of which every second one is dead.
func full(t *testing.T) *past.Past {
	t.Helper()
	p := started(t, trial.Little, 0)
	for i := range uint32(api.MaxOps) {
		do(t, p, 2*i+2, trial.Rename([]string{"k", "l"}[i%2]))
	}
	for i := uint32(4); i <= 40; i += 4 {
		wantUndo(t, p, i, 0, api.OK)
	}
	return p
}

func TestFull(t *testing.T) {
	p := full(t)
	q := p.Copy()
	trial.WantErrno(t, "one more", p.Do(trial.Rename("x"), 3000), api.ErrFull)
	trial.WantErrno(t, "one more, with a clash", p.Do(trial.Rename("main"), 3000), api.ErrFull)
	trial.WantErrno(t, "one more, with an old stamp", p.Do(trial.Rename("x"), 2000), api.ErrArg)
	trial.WantErrno(t, "one more, with no operation", p.Do(op.Op{}, 2001), api.ErrFull)
	wantTake(t, p, []step.Stamped{{Stamp: 2001, Op: trial.Rename("x")}}, 0, api.ErrFull)
	wantTake(t, p, []step.Stamped{{Stamp: 2001}}, 0, api.ErrFull)
	wantTake(t, p, []step.Stamped{{Stamp: 2000, Op: trial.Rename("x")}}, 0, api.ErrArg)
	wantTake(t, p, []step.Stamped{{Stamp: 0, Op: trial.Rename("x")}}, 0, api.ErrFrozen)
	wantTake(t, p, nil, 0, api.OK)
	if !past.Same(p, q) || len(p.All()) != api.MaxOps {
		t.Error("the past has changed")
	}
	wantUndo(t, p, 2000, 0, api.OK)
	wantRedo(t, p, 4, 0, api.OK)
	trial.WantErrno(t, "dead entries make no room", p.Do(trial.Rename("x"), 3000), api.ErrFull)
	p.Freeze(0)
	do(t, p, 3000, trial.Rename("x"))
	wantTake(t, p, q.Live()[:10], 0, api.ErrFrozen)
}

// TestTakeUpToFull: as many as there is room for.
func TestTakeUpToFull(t *testing.T) {
	p := started(t, trial.Little, 10)
	do(t, p, 11, trial.Rename("x"))
	var l []step.Stamped
	for i := range uint32(api.MaxOps) {
		l = append(l, step.Stamped{Stamp: 5000 - i, Op: trial.Rename([]string{"k", "l"}[i%2])})
	}
	wantTake(t, p, l, 0, api.ErrFull)
	wantTake(t, p, append(l, l[0]), 0, api.ErrArg)
	wantTake(t, p, append(l, step.Stamped{Stamp: 10}), 0, api.ErrFrozen)
	wantPast(t, p, trial.Right(t, trial.Little), 10, past.Entry{Stamp: 11, Op: trial.Rename("x"), Live: true})
	wantTake(t, p, l[1:], 0, api.OK)
	if len(p.All()) != api.MaxOps || p.Stamp() != 4999 {
		t.Error(len(p.All()), p.Stamp())
	}
	wantNow(t, p, trial.LittleNamed("l"))
}

func TestUndoAndRedo(t *testing.T) {
	a := trial.Right(t, trial.Little)
	p := started(t, trial.Little, 4)
	do(t, p, 5, trial.Rename("k"))
	do(t, p, 6, trial.Add("m"))
	do(t, p, 9, op.Op{Kind: op.RenameModule, A: trial.Made(6), Name: "n"})
	entries := func(live ...bool) []past.Entry {
		return []past.Entry{{Stamp: 5, Op: trial.Rename("k"), Live: live[0]}, {Stamp: 6, Op: trial.Add("m"), Live: live[1]},
			{Stamp: 9, Op: op.Op{Kind: op.RenameModule, A: trial.Made(6), Name: "n"}, Live: live[2]}}
	}
	wantUndo(t, p, 5, 6, api.ErrClash) // m would be there twice
	wantUndo(t, p, 6, 9, api.ErrNone)  // there would be nothing to rename
	wantPast(t, p, a, 4, entries(true, true, true)...)
	wantUndo(t, p, 9, 0, api.OK)
	wantPast(t, p, a, 4, entries(true, true, false)...)
	wantUndo(t, p, 6, 0, api.OK)
	wantUndo(t, p, 5, 0, api.OK)
	wantPast(t, p, a, 4, entries(false, false, false)...)
	wantRedo(t, p, 9, 9, api.ErrNone)
	wantRedo(t, p, 6, 6, api.ErrClash)
	wantPast(t, p, a, 4, entries(false, false, false)...)
	wantRedo(t, p, 5, 0, api.OK)
	wantRedo(t, p, 6, 0, api.OK)
	wantRedo(t, p, 9, 0, api.OK)
	wantPast(t, p, a, 4, entries(true, true, true)...)
	wantNow(t, p, trial.LittleNamed("k")+" module n { }")
}

// TestRedoInItsPlace: what is redone comes before what was done later.
func TestRedoInItsPlace(t *testing.T) {
	p := started(t, trial.Little, 0)
	do(t, p, 1, trial.Rename("k"))
	wantUndo(t, p, 1, 0, api.OK)
	do(t, p, 2, trial.Rename("l"))
	wantRedo(t, p, 1, 0, api.OK)
	wantNow(t, p, trial.LittleNamed("l"))
	wantUndo(t, p, 2, 0, api.OK)
	wantNow(t, p, trial.LittleNamed("k"))
	do(t, p, 3, trial.Add("x"))
	wantUndo(t, p, 3, 0, api.OK)
	do(t, p, 4, trial.Add("x"))
	wantRedo(t, p, 3, 4, api.ErrClash) // the later one is the cause
}

func TestUndoErrors(t *testing.T) {
	p := started(t, trial.Little, 4)
	do(t, p, 6, trial.Rename("k"))
	do(t, p, 8, trial.Rename("l"))
	wantUndo(t, p, 8, 0, api.OK)
	before := p.Copy()
	for _, stamp := range []uint32{1, 2, 3, 4} {
		wantUndo(t, p, stamp, 0, api.ErrFrozen)
		wantRedo(t, p, stamp, 0, api.ErrFrozen)
	}
	for _, stamp := range []uint32{0, 5, 7, 9, math.MaxUint32} {
		wantUndo(t, p, stamp, 0, api.ErrUnknown)
		wantRedo(t, p, stamp, 0, api.ErrUnknown)
	}
	wantUndo(t, p, 8, 0, api.ErrDead)
	wantRedo(t, p, 6, 0, api.ErrLive)
	if !past.Same(p, before) || !arena.Same(p.Now(), before.Now()) {
		t.Error("the past has changed")
	}
	q := started(t, trial.Little, 0)
	wantUndo(t, q, 0, 0, api.ErrUnknown)
	wantRedo(t, q, 0, 0, api.ErrUnknown)
	wantUndo(t, q, 1, 0, api.ErrUnknown)
}

func TestTake(t *testing.T) {
	a := trial.Right(t, trial.Little)
	p := started(t, trial.Little, 4)
	do(t, p, 10, trial.Add("k"))
	do(t, p, 12, trial.Rename("l"))
	wantUndo(t, p, 12, 0, api.OK)
	had := p.All()
	wantTake(t, p, []step.Stamped{{Stamp: 9, Op: trial.Add("x")}, {Stamp: 20, Op: trial.Drop(9)}, {Stamp: 11, Op: trial.Drop(10)}}, 0, api.OK)
	wantPast(t, p, a, 4, append(had, past.Entry{Stamp: 9, Op: trial.Add("x"), Live: true}, past.Entry{Stamp: 20, Op: trial.Drop(9), Live: true}, past.Entry{Stamp: 11, Op: trial.Drop(10), Live: true})...)
	wantUndo(t, p, 10, 11, api.ErrNone)
	wantUndo(t, p, 20, 0, api.OK)
	wantNow(t, p, trial.Little+" module x { }")
	wantUndo(t, p, 9, 0, api.OK)
	wantRedo(t, p, 20, 20, api.ErrNone)
}

func TestTakeErrors(t *testing.T) {
	p := started(t, trial.Little, 4)
	do(t, p, 10, trial.Add("k"))
	do(t, p, 12, trial.Rename("l"))
	wantUndo(t, p, 12, 0, api.OK)
	before := p.Copy()
	for _, c := range []struct {
		l     []step.Stamped
		cause uint32
		want  api.Errno
	}{
		{[]step.Stamped{{Stamp: 0, Op: trial.Add("x")}}, 0, api.ErrFrozen},
		{[]step.Stamped{{Stamp: 4, Op: trial.Add("x")}}, 0, api.ErrFrozen},
		{[]step.Stamped{{Stamp: 11, Op: trial.Add("x")}, {Stamp: 1, Op: trial.Add("y")}}, 0, api.ErrFrozen},
		{[]step.Stamped{{Stamp: 10, Op: trial.Add("x")}, {Stamp: 1, Op: trial.Add("y")}}, 0, api.ErrFrozen},
		{[]step.Stamped{{Stamp: 11}, {Stamp: 3, Op: trial.Add("y")}}, 0, api.ErrFrozen},
		{[]step.Stamped{{Stamp: 10, Op: trial.Add("x")}}, 0, api.ErrArg},
		{[]step.Stamped{{Stamp: 12, Op: trial.Add("x")}}, 0, api.ErrArg}, // also of a dead one
		{[]step.Stamped{{Stamp: 11, Op: trial.Add("x")}, {Stamp: 11, Op: trial.Add("y")}}, 0, api.ErrArg},
		{[]step.Stamped{{Stamp: 11, Op: trial.Rename("main")}, {Stamp: 10, Op: trial.Add("y")}}, 0, api.ErrArg},
		{[]step.Stamped{{Stamp: 11, Op: trial.Rename("main")}}, 11, api.ErrClash},
		{[]step.Stamped{{Stamp: 13, Op: trial.Add("x")}, {Stamp: 11, Op: trial.Add("x")}, {Stamp: 14}}, 11, api.ErrClash},
		{[]step.Stamped{{Stamp: 13, Op: trial.Add("x")}, {Stamp: 11}}, 11, api.ErrArg},
		{[]step.Stamped{{Stamp: 13, Op: trial.Drop(12)}}, 13, api.ErrNone},
	} {
		wantTake(t, p, c.l, c.cause, c.want)
		if !past.Same(p, before) || !arena.Same(p.Now(), before.Now()) {
			t.Errorf("%v has changed the past", c.l)
		}
	}
	wantTake(t, p, nil, 0, api.OK)
	wantTake(t, p, []step.Stamped{}, 0, api.OK)
	if !past.Same(p, before) {
		t.Error("nothing was taken, but the past has changed")
	}
}

func TestFreeze(t *testing.T) {
	for _, c := range []struct{ stamp, frozen uint32 }{{0, 9}, {4, 9}, {8, 9}, {9, 9}, {10, 10}, {math.MaxUint32, math.MaxUint32}} {
		p := started(t, trial.Little, 4)
		do(t, p, 5, trial.Rename("k"))
		do(t, p, 8, trial.Add("m"))
		do(t, p, 9, trial.Add("n"))
		wantUndo(t, p, 9, 0, api.OK)
		now := p.Now()
		p.Freeze(c.stamp)
		wantPast(t, p, now, c.frozen)
		wantNow(t, p, trial.LittleNamed("k")+" module m { }")
		wantUndo(t, p, 5, 0, api.ErrFrozen)
		wantRedo(t, p, 9, 0, api.ErrFrozen)
		trial.WantErrno(t, "a frozen stamp", p.Do(trial.Add("o"), c.frozen), api.ErrArg)
		if c.frozen < math.MaxUint32 {
			do(t, p, c.frozen+1, trial.Drop(8))
			wantUndo(t, p, c.frozen+1, 0, api.OK)
		}
		wantNow(t, p, trial.LittleNamed("k")+" module m { }")
	}
	p := started(t, trial.Little, 4)
	p.Freeze(3)
	wantPast(t, p, trial.Right(t, trial.Little), 4)
	p.Freeze(6)
	wantPast(t, p, trial.Right(t, trial.Little), 6)
	q := started(t, trial.Little, 4)
	wantTake(t, q, []step.Stamped{{Stamp: 20, Op: trial.Add("x")}, {Stamp: 10, Op: trial.Add("y")}}, 0, api.OK)
	q.Freeze(11)
	if q.Frozen() != 20 {
		t.Error(q.Frozen())
	}
}

func TestSame(t *testing.T) {
	changes := map[string]func(t *testing.T) *past.Past{
		"started": func(t *testing.T) *past.Past { return started(t, trial.Little, 4) },
		"frozen":  func(t *testing.T) *past.Past { return started(t, trial.Little, 5) },
		"base":    func(t *testing.T) *past.Past { return started(t, trial.LittleNamed("k"), 4) },
		"moved": func(t *testing.T) *past.Past {
			p, _ := past.New(trial.Moved(trial.Right(t, trial.Little), 100), 4)
			return p
		},
	}
	for name, l := range map[string][]past.Entry{
		"done":       {{Stamp: 6, Op: trial.Add("k"), Live: true}},
		"dead":       {{Stamp: 6, Op: trial.Add("k")}},
		"stamp":      {{Stamp: 7, Op: trial.Add("k"), Live: true}},
		"operation":  {{Stamp: 6, Op: trial.Add("l"), Live: true}},
		"two":        {{Stamp: 6, Op: trial.Add("k"), Live: true}, {Stamp: 7, Op: trial.Add("l"), Live: true}},
		"turned":     {{Stamp: 7, Op: trial.Add("l"), Live: true}, {Stamp: 6, Op: trial.Add("k"), Live: true}},
		"one is not": {{Stamp: 6, Op: trial.Add("k"), Live: true}, {Stamp: 7, Op: trial.Add("l")}},
	} {
		changes[name] = func(t *testing.T) *past.Past {
			p := started(t, trial.Little, 4)
			for _, e := range l {
				wantTake(t, p, []step.Stamped{{Stamp: e.Stamp, Op: e.Op}}, 0, api.OK)
				if !e.Live {
					wantUndo(t, p, e.Stamp, 0, api.OK)
				}
			}
			return p
		}
	}
	changes["nil"] = func(*testing.T) *past.Past { return nil }
	for x, make := range changes {
		for y, other := range changes {
			if got := past.Same(make(t), other(t)); got != (x == y) {
				t.Errorf("Same of %s and %s: %v", x, y, got)
			}
		}
	}
}

func TestNil(t *testing.T) {
	var p *past.Past
	trial.WantErrno(t, "Do", p.Do(trial.Rename("k"), 1), api.ErrNone)
	trial.WantErrno(t, "Do", p.Do(op.Op{}, 0), api.ErrNone)
	wantUndo(t, p, 1, 0, api.ErrNone)
	wantUndo(t, p, 0, 0, api.ErrNone)
	wantRedo(t, p, 1, 0, api.ErrNone)
	wantTake(t, p, nil, 0, api.ErrNone)
	wantTake(t, p, []step.Stamped{{}}, 0, api.ErrNone)
	p.Freeze(7)
	if p.Now() != nil || p.Base() != nil || p.Copy() != nil || p.Stamp() != 0 || p.Frozen() != 0 {
		t.Error("a nil past has something")
	}
	if len(p.All())+len(p.Live())+len(p.Bytes()) > 0 {
		t.Error("a nil past has entries or bytes")
	}
}
