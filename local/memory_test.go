package local_test

import (
	"math/rand"
	"testing"

	"hourglass/api"
	"hourglass/arena"
	"hourglass/local"
	"hourglass/op"
	"hourglass/trial"
)

const body = "let x int = (a + 1); print (x + a); return x;"

// TestResultsAreNew: what is returned and what was passed in do not change with
// each other.
func TestResultsAreNew(t *testing.T) {
	for what, call := range map[string]func(a *arena.Arena) (*arena.Arena, api.Errno){
		"Extract": func(a *arena.Arena) (*arena.Arena, api.Errno) {
			return local.Extract(a, trial.Find(t, a, "(x + a)"), "v", op.Fresh(1))
		},
		"Inline": func(a *arena.Arena) (*arena.Arena, api.Errno) {
			return local.Inline(a, trial.Named(t, a, "x"), op.Fresh(1))
		},
	} {
		trial.WantNew(t, what, trial.Right(t, around(body)), call)
	}
}

// TestGarbage: all calls end, whatever the arena is, and return ErrForm if it is
// not right.
func TestGarbage(t *testing.T) {
	r := rand.New(rand.NewSource(1))
	trial.WantForm(t, r.Intn, around(body), func(a *arena.Arena, some func() api.ID) map[string]trial.Result {
		return map[string]trial.Result{
			"Extract":              trial.Of(local.Extract(a, some(), "v", op.Fresh(1))),
			"Extract with any IDs": trial.Of(local.Extract(a, some(), "v", trial.From(some(), some()).Next)),
			"Inline":               trial.Of(local.Inline(a, some(), op.Fresh(1))),
			"Inline with any IDs":  trial.Of(local.Inline(a, some(), trial.From(some(), some(), some()).Next)),
		}
	})
}
