package shape_test

import (
	"math/rand"
	"testing"

	"hourglass/api"
	"hourglass/arena"
	"hourglass/op"
	"hourglass/shape"
	"hourglass/trial"
)

const body = "if b { print (a + 1); } else { } if !b { } else { print a; } return a;"

// TestResultsAreNew: what is returned and what was passed in do not change with
// each other.
func TestResultsAreNew(t *testing.T) {
	for what, call := range map[string]func(a *arena.Arena) (*arena.Arena, api.Errno){
		"Flip": func(a *arena.Arena) (*arena.Arena, api.Errno) {
			return shape.Flip(a, trial.Kind(a, arena.If)[0], op.Fresh(1))
		},
		"Flip of Not": func(a *arena.Arena) (*arena.Arena, api.Errno) {
			return shape.Flip(a, trial.Kind(a, arena.If)[1], op.Fresh(1))
		},
		"Swap": func(a *arena.Arena) (*arena.Arena, api.Errno) {
			return shape.Swap(a, trial.Find(t, a, "(a + 1)"))
		},
	} {
		trial.WantNew(t, what, trial.Right(t, around(body)), call)
	}
}

// TestNotRight makes both calls, with arguments that fit and ones that do not.
func TestNotRight(t *testing.T) {
	a := trial.Right(t, around(body))
	choices, sum := trial.Kind(a, arena.If), trial.Find(t, a, "(a + 1)")
	s := trial.From()
	for _, w := range trial.Wrongs(t, around(body)) {
		for _, id := range []api.ID{0, 1, choices[0], choices[1], sum, 1000} {
			trial.WantError(t, w.Why, trial.Of(shape.Flip(w.Arena, id, s.Next)), api.ErrForm)
			trial.WantError(t, w.Why, trial.Of(shape.Flip(w.Arena, id, nil)), api.ErrForm)
			trial.WantError(t, w.Why, trial.Of(shape.Swap(w.Arena, id)), api.ErrForm)
		}
	}
	if s.Asked > 0 {
		t.Error("fresh was called")
	}
}

// TestGarbage: all calls end, whatever the arena is, and return ErrForm if it is
// not right.
func TestGarbage(t *testing.T) {
	r := rand.New(rand.NewSource(1))
	trial.WantForm(t, r.Intn, around(body), func(a *arena.Arena, some func() api.ID) map[string]trial.Result {
		return map[string]trial.Result{
			"Flip":             trial.Of(shape.Flip(a, some(), op.Fresh(1))),
			"Flip with any ID": trial.Of(shape.Flip(a, some(), trial.One(some()))),
			"Swap":             trial.Of(shape.Swap(a, some())),
		}
	})
}
