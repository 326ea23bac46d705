package name_test

import (
	"math/rand"
	"testing"

	"hourglass/api"
	"hourglass/arena"
	"hourglass/check"
	"hourglass/name"
	"hourglass/trial"
)

// TestResultsAreNew: what is returned and what was passed in do not change
// with each other.
func TestResultsAreNew(t *testing.T) {
	for what, call := range map[string]func(a *arena.Arena) (*arena.Arena, api.Errno){
		"Rename": func(a *arena.Arena) (*arena.Arena, api.Errno) {
			return name.Rename(a, arena.Let, kFX, "other")
		},
		"Rename to the same": func(a *arena.Arena) (*arena.Arena, api.Errno) {
			return name.Rename(a, arena.Let, kFX, "x")
		},
		"Move":            func(a *arena.Arena) (*arena.Arena, api.Errno) { return name.Move(a, kF, z) },
		"Move to the end": func(a *arena.Arena) (*arena.Arena, api.Errno) { return name.Move(a, main2, main) },
		"AddModule":       func(a *arena.Arena) (*arena.Arena, api.Errno) { return name.AddModule(a, "new", trial.One(99)) },
		"DropModule":      func(a *arena.Arena) (*arena.Arena, api.Errno) { return name.DropModule(a, empty) },
		"DropFunc":        func(a *arena.Arena) (*arena.Arena, api.Errno) { return name.DropFunc(a, main2) },
		"Checked":         name.Checked,
	} {
		trial.WantNew(t, what, trial.Right(t, town), call)
	}
}

// TestGarbage: all calls end, whatever the arena is, and return ErrForm if it
// is not right.
func TestGarbage(t *testing.T) {
	r := rand.New(rand.NewSource(1))
	trial.WantForm(t, r.Intn, town, func(a *arena.Arena, some func() api.ID) map[string]trial.Result {
		b, e := name.Checked(a)
		if e != check.Right(a) || (b == nil) != (e != api.OK) {
			t.Errorf("Checked: error %d", e)
		}
		return map[string]trial.Result{
			"Rename":     trial.Of(name.Rename(a, byte(r.Intn(8)), some(), "new")),
			"Move":       trial.Of(name.Move(a, some(), some())),
			"AddModule":  trial.Of(name.AddModule(a, "new", trial.One(some()))),
			"DropModule": trial.Of(name.DropModule(a, some())),
			"DropFunc":   trial.Of(name.DropFunc(a, some())),
		}
	})
}
