package step_test

import (
	"math/rand"
	"testing"

	"hourglass/api"
	"hourglass/arena"
	"hourglass/author"
	"hourglass/check"
	"hourglass/op"
	"hourglass/step"
	"hourglass/trial"
)

// wantNoFold expects an error, and the stamp that caused it.
func wantNoFold(t *testing.T, what string, a *arena.Arena, l []step.Stamped, want uint32, e api.Errno) {
	t.Helper()
	b, stamp, got := step.Fold(a, l)
	if b != nil || stamp != want || got != e {
		t.Errorf("%s: %v, %d, error %d, want %d, error %d", what, b, stamp, got, want, e)
	}
}

func wantFold(t *testing.T, what string, a *arena.Arena, l []step.Stamped, want *arena.Arena) {
	t.Helper()
	b, stamp, e := step.Fold(a, l)
	if stamp != 0 {
		t.Errorf("%s: stamp %d", what, stamp)
	}
	trial.WantArena(t, what, trial.Of(b, e), want)
}

// TestExample: of an empty list, the result is a copy.
func TestExample(t *testing.T) {
	a := trial.Right(t, laid(functions, body, modules))
	wantFold(t, "nil", a, nil, a)
	wantFold(t, "empty", a, []step.Stamped{}, a)
	trial.WantNew(t, "Fold of nothing", a, func(a *arena.Arena) (*arena.Arena, api.Errno) {
		b, _, e := step.Fold(a, nil)
		return b, e
	})
	if b, stamp, e := step.Fold(nil, nil); b != nil || stamp != 0 || e != api.OK {
		t.Errorf("Fold of nil: %v, %d, error %d", b, stamp, e)
	}
}

// growing adds the module k, moves f into it, makes a sum a function of it, and
// renames that; 5*65536+1 is the module, 9*65536+1 the function.
func growing(t *testing.T, a *arena.Arena) []step.Stamped {
	return []step.Stamped{
		{Stamp: 5, Op: op.Op{Kind: op.AddModule, Name: "k"}},
		{Stamp: 3, Op: op.Op{Kind: op.MoveFunc, A: trial.Named(t, a, "f"), B: 5*65536 + 1}},
		{Stamp: 9, Op: op.Op{Kind: op.ExtractFunc, A: trial.Find(t, a, "(2 + 3)"), B: 5*65536 + 1, Name: "s"}},
		{Stamp: 0, Op: op.Op{Kind: op.RenameFunc, A: 9*65536 + 1, Name: "five"}},
	}
}

func TestFold(t *testing.T) {
	a := trial.Right(t, laid(functions, body, modules))
	l := growing(t, a)
	b, stamp, e := step.Fold(a, l)
	if stamp != 0 {
		t.Error(stamp)
	}
	const changed = "let x int = k.five(); if (1 < 2) { print k.f(x); } else { } return x;"
	trial.WantProgram(t, "Fold", trial.Of(b, e), laid("func g() int { return 1; }", changed, modules+" module k { func f(p int) int { return (p + 1); } func five() int { return (2 + 3); } }"))
	trial.WantNew(t, "Fold", a, func(a *arena.Arena) (*arena.Arena, api.Errno) {
		b, _, e := step.Fold(a, l)
		return b, e
	})
}

func TestFoldErrors(t *testing.T) {
	a := trial.Right(t, laid(functions, body, modules))
	l := growing(t, a)
	wantNoFold(t, "without the first", a, l[1:], 3, api.ErrNone)
	wantNoFold(t, "only the third", a, l[2:], 9, api.ErrNone)
	wantNoFold(t, "only the last, of stamp 0", a, l[3:], 0, api.ErrNone)
	twice := append(growing(t, a), step.Stamped{Stamp: 5, Op: op.Op{Kind: op.AddModule, Name: "other"}})
	wantNoFold(t, "a stamp twice", a, twice, 5, api.ErrFull)
	wrong := append(growing(t, a), step.Stamped{Stamp: 77, Op: op.Op{Kind: op.AddModule}}, step.Stamped{Stamp: 78})
	wantNoFold(t, "an operation that is not right", a, wrong, 77, api.ErrArg)
	wantNoFold(t, "not even a program", nil, l, 5, api.ErrForm)
	again := append(growing(t, a), step.Stamped{Stamp: 80, Op: op.Op{Kind: op.AddModule, Name: "k"}}, step.Stamped{Stamp: 81})
	wantNoFold(t, "the first of two errors", a, again, 80, api.ErrClash)
}

// TestFoldOfMany: also of MaxOps operations and more.
func TestFoldOfMany(t *testing.T) {
	a := trial.Right(t, laid("", "return 0;", ""))
	var l []step.Stamped
	for i := range uint32(api.MaxOps + 1) {
		l = append(l, step.Stamped{Stamp: i, Op: op.Op{Kind: op.RenameModule, A: 2, Name: []string{"a", "b"}[i%2]}})
	}
	b, stamp, e := step.Fold(a, l)
	if stamp != 0 {
		t.Error(stamp)
	}
	trial.WantProgram(t, "Fold", trial.Of(b, e), "module a { } module main { func main() int { return 0; } }")
}

// TestGrows goes by the kind alone.
func TestGrows(t *testing.T) {
	want := [256]int{1: 1, 2: 1, 3: 1, 4: 1, 5: 1, 6: 2, 7: 2, 8: 3, 9: 3, 10: 1, 11: 1, 12: 1, 13: 1, 14: 1}
	for kind := range 256 {
		for _, o := range []op.Op{{}, {A: 2}, {A: 2, B: 3}, {Name: "k"}, {A: 2, B: 3, Name: "k"}} {
			o.Kind = byte(kind)
			if got := step.Grows(o); got != want[kind] {
				t.Errorf("Grows of %v: %d, want %d", o, got, want[kind])
			}
		}
	}
}

// TestRandomly compares each Apply with the call that is meant, and what the
// program does before and after it.
func TestRandomly(t *testing.T) {
	below := rand.New(rand.NewSource(2)).Intn
	var o op.Op
	counts := trial.Randomly(t, below, 80, func(c trial.Changer) trial.Call {
		stamp := uint32(c.Below(30))
		o = c.Op()
		return trial.Call{Name: op.Word(o.Kind), Got: trial.Of(step.Apply(c.Arena, o, stamp)), Want: direct(c.Arena, o, stamp)}
	}, func(before, after *arena.Arena) {
		if e := check.Right(after); e != api.OK {
			t.Errorf("%s: the result is not right: %d", o.Text(), e)
		}
		if step.Grows(o) == 1 {
			trial.WantSameRuns(t, below, before, after)
			return
		}
		trial.WantAlike(t, before, after, trial.Input(below), 2000, step.Grows(o))
	})
	for kind := byte(1); kind <= op.SwapParts; kind++ {
		counts.Want(t, op.Word(kind), 5, api.OK)
	}
	counts.Want(t, op.Word(op.RenameLet), 5, api.ErrNone, api.ErrClash)
	counts.Want(t, op.Word(op.ExtractLet), 5, api.ErrUnsafe, api.ErrFull)
	counts.Want(t, op.Word(op.DropModule), 5, api.ErrUsed)
}

// TestFoldRandomly compares folds with one Apply after the other, and what the
// programs do with each other.
func TestFoldRandomly(t *testing.T) {
	below := rand.New(rand.NewSource(3)).Intn
	failed, folded := 0, 0
	for range 400 {
		a := trial.Right(t, author.Program(below))
		if a.Len() > 300 {
			continue
		}
		var l []step.Stamped
		now, times := a, 1
		for i := range below(8) {
			s := step.Stamped{Stamp: uint32(10 + i), Op: trial.Changer{Below: below, Arena: now}.Op()}
			l = append(l, s)
			next, e := step.Apply(now, s.Op, s.Stamp)
			if e == api.OK {
				now, times = next, times*step.Grows(s.Op)
				continue
			}
			failed++
			wantNoFold(t, s.Op.Text(), a, l, s.Stamp, e)
			l = l[:len(l)-1]
		}
		folded += len(l)
		wantFold(t, "a list", a, l, now)
		if times < 100 {
			trial.WantAlike(t, a, now, trial.Input(below), 2000, times)
		}
	}
	if failed < 50 || folded < 300 {
		t.Error(failed, folded)
	}
}
