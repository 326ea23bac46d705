package trial_test

import (
	"math/rand"
	"strconv"
	"testing"

	"hourglass/api"
	"hourglass/check"
	"hourglass/op"
	"hourglass/past"
	"hourglass/step"
	"hourglass/trial"
)

func TestLittle(t *testing.T) {
	a := trial.Right(t, trial.Little)
	l := []step.Stamped{{Stamp: 3, Op: trial.Add("x")}, {Stamp: 4, Op: trial.Rename("k")}}
	b, _, e := step.Fold(a, l)
	trial.WantProgram(t, "Fold", trial.Of(b, e), trial.LittleNamed("k")+" module x { }")
	if n, ok := b.Get(trial.Made(3)); !ok || n.Name != "x" {
		t.Error(n, ok)
	}
	b, _, e = step.Fold(a, append(l, step.Stamped{Stamp: 5, Op: trial.Drop(3)}))
	trial.WantProgram(t, "Fold", trial.Of(b, e), trial.LittleNamed("k"))
	trial.WantProgram(t, "Little", trial.Of(a, api.OK), trial.LittleNamed("m"))
}

func TestShort(t *testing.T) {
	below := rand.New(rand.NewSource(1)).Intn
	for range 50 {
		if a := trial.Short(t, below); a.Len() > 80 || check.Right(a) != api.OK {
			t.Error(a.Len())
		}
	}
}

// TestWantKept: a past keeps what its program does.
func TestWantKept(t *testing.T) {
	below := rand.New(rand.NewSource(1)).Intn
	p, e := past.New(trial.Right(t, trial.Little), 0)
	if e != api.OK {
		t.Fatal(e)
	}
	for i := range uint32(40) {
		o := op.Op{Kind: op.ExtractLet, A: 6, Name: "x" + strconv.Itoa(int(i))}
		wantTold(t, "kept", false, func(c *counter) { trial.WantKept(c, below, p) })
		trial.WantErrno(t, "Do", p.Do(o, i+1), api.OK)
	}
}

func TestWantErrno(t *testing.T) {
	wantTold(t, "the same", false, func(c *counter) { trial.WantErrno(c, "it", api.ErrArg, api.ErrArg) })
	wantTold(t, "another", true, func(c *counter) { trial.WantErrno(c, "it", api.ErrArg, api.ErrName) })
	wantTold(t, "the same with a stamp", false, func(c *counter) { trial.WantCause(c, "it", 3, api.ErrArg, 3, api.ErrArg) })
	wantTold(t, "another stamp", true, func(c *counter) { trial.WantCause(c, "it", 3, api.ErrArg, 4, api.ErrArg) })
	wantTold(t, "another error", true, func(c *counter) { trial.WantCause(c, "it", 3, api.ErrArg, 3, api.OK) })
}

func TestSpoil(t *testing.T) {
	l := []int{1, 2, 3}
	trial.Spoil(l[:1], 7)
	trial.Spoil[int](nil, 7)
	if l[0] != 7 || l[1] != 7 || l[2] != 7 {
		t.Error(l)
	}
}
