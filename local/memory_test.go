package local_test

import (
	"math/rand"
	"testing"

	"hourglass/api"
	"hourglass/arena"
	"hourglass/check"
	"hourglass/local"
	"hourglass/op"
	"hourglass/trial"
)

const body = "let x int = (a + 1); print (x + a); return x;"

// TestResultsAreNew: what is returned and what was passed in do not change with
// each other.
func TestResultsAreNew(t *testing.T) {
	for what, call := range map[string]func(a *arena.Arena) (*arena.Arena, api.Errno){
		"Extract": func(a *arena.Arena) (*arena.Arena, api.Errno) {
			return local.Extract(a, find(t, a, "(x + a)"), "v", op.Fresh(1))
		},
		"Inline": func(a *arena.Arena) (*arena.Arena, api.Errno) {
			return local.Inline(a, named(t, a, "x"), op.Fresh(1))
		},
	} {
		trial.WantNew(t, what, trial.Right(t, around(body)), call)
	}
}

// TestGarbage: all calls end, whatever the arena is, and return ErrForm if it is
// not right.
func TestGarbage(t *testing.T) {
	r := rand.New(rand.NewSource(1))
	for range 500 {
		a := trial.Right(t, around(body))
		size := a.Len()
		some := func() api.ID { return api.ID(r.Intn(size + 2)) }
		for range 1 + r.Intn(3) {
			id := some()
			n, _ := a.Get(some())
			if r.Intn(2) == 0 {
				n.Kids = append(n.Kids, some(), some())
			}
			a.Put(id, n)
		}
		wrong := check.Right(a) != api.OK
		for what, got := range map[string]trial.Result{
			"Extract":              trial.Of(local.Extract(a, some(), "v", op.Fresh(1))),
			"Extract with any IDs": trial.Of(local.Extract(a, some(), "v", source(some(), some()).Next)),
			"Inline":               trial.Of(local.Inline(a, some(), op.Fresh(1))),
			"Inline with any IDs":  trial.Of(local.Inline(a, some(), source(some(), some(), some()).Next)),
		} {
			if wrong {
				trial.WantError(t, what, got, api.ErrForm)
			}
			if (got.Arena == nil) != (got.Error != api.OK) {
				t.Errorf("%s: error %d with %v", what, got.Error, got.Arena)
			}
		}
	}
}
