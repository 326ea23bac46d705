package trial_test

import (
	"math/rand"
	"testing"

	"hourglass/api"
	"hourglass/branch"
	"hourglass/op"
	"hourglass/trial"
)

// told is a history that notes what it is given.
type told struct {
	trial.Command
}

func (h *told) Do(o op.Op) (uint32, api.Errno) {
	h.Command = trial.Command{Word: "do", Op: o}
	return 1, api.ErrArg
}

func (h *told) Undo(stamp uint32) (uint32, api.Errno) {
	h.Command = trial.Command{Word: "undo", Stamp: stamp}
	return 2, api.ErrForm
}

func (h *told) Redo(stamp uint32) (uint32, api.Errno) {
	h.Command = trial.Command{Word: "redo", Stamp: stamp}
	return 3, api.ErrNone
}

func (h *told) Fork(name string) api.Errno {
	h.Command = trial.Command{Word: "fork", Name: name}
	return api.ErrLong
}

func (h *told) Switch(name string) api.Errno {
	h.Command = trial.Command{Word: "switch", Name: name}
	return api.ErrFull
}

func (h *told) Merge(name string) (uint32, api.Errno) {
	h.Command = trial.Command{Word: "merge", Name: name}
	return 6, api.ErrIndex
}

func TestTo(t *testing.T) {
	for i, c := range []trial.Command{
		{Word: "do", Op: trial.Add("x")}, {Word: "undo", Stamp: 7}, {Word: "redo", Stamp: 8},
		{Word: "fork", Name: "a"}, {Word: "switch", Name: "b"}, {Word: "merge", Name: "c"},
	} {
		h := &told{}
		stamp, e := c.To(h)
		if h.Command != c || int(e) != i+1 || stamp != 0 && int(stamp) != i+1 {
			t.Errorf("%+v: %+v, %d, error %d", c, h.Command, stamp, e)
		}
	}
}

// TestWants: each tells if an answer is not as it expects.
func TestWants(t *testing.T) {
	h := &told{} // whose answers are always the same
	for what, want := range map[string]func(c *counter, e api.Errno, stamp uint32){
		"WantUndo":  func(c *counter, e api.Errno, stamp uint32) { trial.WantUndo(c, h, 7, stamp, e+api.ErrForm) },
		"WantRedo":  func(c *counter, e api.Errno, stamp uint32) { trial.WantRedo(c, h, 7, stamp+1, e+api.ErrNone) },
		"WantMerge": func(c *counter, e api.Errno, stamp uint32) { trial.WantMerge(c, h, "x", stamp+4, e+api.ErrIndex) },
	} {
		wantTold(t, what, false, func(c *counter) { want(c, 0, 2) })
		wantTold(t, what, true, func(c *counter) { want(c, 1, 2) })
		wantTold(t, what, true, func(c *counter) { want(c, 0, 3) })
	}
	b, e := branch.New(trial.Right(t, trial.Little))
	if e != api.OK {
		t.Fatal(e)
	}
	wantTold(t, "Do", false, func(c *counter) { trial.Do(c, b, 1, trial.Add("x")) })
	wantTold(t, "Do with another stamp", true, func(c *counter) { trial.Do(c, b, 1, trial.Add("y")) })
	wantTold(t, "Do twice", true, func(c *counter) { trial.Do(c, b, 0, trial.Add("x")) })
	wantTold(t, "WantDo", false, func(c *counter) { trial.WantDo(c, b, trial.Add("x"), api.ErrClash) })
	wantTold(t, "WantDo of another error", true, func(c *counter) { trial.WantDo(c, b, trial.Add("x"), api.ErrArg) })
	wantTold(t, "Fork", false, func(c *counter) { trial.Fork(c, b, "a") })
	wantTold(t, "Fork twice", true, func(c *counter) { trial.Fork(c, b, "a") })
	wantTold(t, "Switch", false, func(c *counter) { trial.Switch(c, b, "a") })
	wantTold(t, "Switch to none", true, func(c *counter) { trial.Switch(c, b, "b") })
}

func TestAnyCommand(t *testing.T) {
	below := rand.New(rand.NewSource(1)).Intn
	b, e := branch.New(trial.Right(t, trial.Little))
	if e != api.OK {
		t.Fatal(e)
	}
	done, failed := map[string]int{}, map[string]int{}
	for range 1000 {
		c := trial.AnyCommand(below, b)
		if _, e := c.To(b); e == api.OK {
			done[c.Word]++
		} else {
			failed[c.Word]++
		}
	}
	for word, least := range map[string]int{"do": 100, "undo": 20, "redo": 20, "fork": 6, "switch": 30, "merge": 5} {
		if done[word] < least || failed[word] == 0 {
			t.Errorf("%s: %d were done, %d not", word, done[word], failed[word])
		}
	}
}
