package trial_test

import (
	"math/rand"
	"testing"

	"hourglass/api"
	"hourglass/branch"
	"hourglass/op"
	"hourglass/trial"
)

// told is a history that notes what it is given.
type told struct {
	trial.Command
}

func (h *told) Do(o op.Op) (uint32, api.Errno) {
	h.Command = trial.Command{Word: "do", Op: o}
	return 1, api.ErrArg
}

func (h *told) Undo(stamp uint32) (uint32, api.Errno) {
	h.Command = trial.Command{Word: "undo", Stamp: stamp}
	return 2, api.ErrForm
}

func (h *told) Redo(stamp uint32) (uint32, api.Errno) {
	h.Command = trial.Command{Word: "redo", Stamp: stamp}
	return 3, api.ErrNone
}

func (h *told) Fork(name string) api.Errno {
	h.Command = trial.Command{Word: "fork", Name: name}
	return api.ErrLong
}

func (h *told) Switch(name string) api.Errno {
	h.Command = trial.Command{Word: "switch", Name: name}
	return api.ErrFull
}

func (h *told) Merge(name string) (uint32, api.Errno) {
	h.Command = trial.Command{Word: "merge", Name: name}
	return 6, api.ErrIndex
}

func TestTo(t *testing.T) {
	for i, c := range []trial.Command{
		{Word: "do", Op: trial.Add("x")}, {Word: "undo", Stamp: 7}, {Word: "redo", Stamp: 8},
		{Word: "fork", Name: "a"}, {Word: "switch", Name: "b"}, {Word: "merge", Name: "c"},
	} {
		h := &told{}
		stamp, e := c.To(h)
		if h.Command != c || int(e) != i+1 || stamp != 0 && int(stamp) != i+1 {
			t.Errorf("%+v: %+v, %d, error %d", c, h.Command, stamp, e)
		}
	}
}

func TestAnyCommand(t *testing.T) {
	below := rand.New(rand.NewSource(1)).Intn
	b, e := branch.New(trial.Right(t, trial.Little))
	if e != api.OK {
		t.Fatal(e)
	}
	done, failed := map[string]int{}, map[string]int{}
	for range 1000 {
		c := trial.AnyCommand(below, b)
		if _, e := c.To(b); e == api.OK {
			done[c.Word]++
		} else {
			failed[c.Word]++
		}
	}
	for word, least := range map[string]int{"do": 100, "undo": 20, "redo": 20, "fork": 6, "switch": 30, "merge": 5} {
		if done[word] < least || failed[word] == 0 {
			t.Errorf("%s: %d were done, %d not", word, done[word], failed[word])
		}
	}
}
