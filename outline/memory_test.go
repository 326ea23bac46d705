package outline_test

import (
	"math/rand"
	"testing"

	"hourglass/api"
	"hourglass/arena"
	"hourglass/op"
	"hourglass/outline"
	"hourglass/trial"
)

const body = "print m.h(a, b); print main.main(); return (a + 1);"

// TestResultsAreNew: what is returned and what was passed in do not change with
// each other.
func TestResultsAreNew(t *testing.T) {
	for what, call := range map[string]func(a *arena.Arena) (*arena.Arena, api.Errno){
		"Extract": func(a *arena.Arena) (*arena.Arena, api.Errno) {
			return outline.Extract(a, trial.Find(t, a, "(a + 1)"), trial.Named(t, a, "m"), "new", op.Fresh(1))
		},
		"Inline": func(a *arena.Arena) (*arena.Arena, api.Errno) {
			return outline.Inline(a, trial.Find(t, a, "main.main()"), op.Fresh(1))
		},
	} {
		trial.WantNew(t, what, trial.Right(t, around(body)), call)
	}
}

// TestNotRight makes both calls, with arguments that fit and ones that do not.
func TestNotRight(t *testing.T) {
	a := trial.Right(t, around(body))
	sum, module, call := trial.Find(t, a, "(a + 1)"), trial.Named(t, a, "m"), trial.Find(t, a, "main.main()")
	s := trial.From()
	for _, w := range trial.Wrongs(t, around(body)) {
		for _, id := range []api.ID{0, 1, sum, module, call, 1000} {
			trial.WantError(t, w.Why, trial.Of(outline.Extract(w.Arena, id, module, "new", s.Next)), api.ErrForm)
			trial.WantError(t, w.Why, trial.Of(outline.Extract(w.Arena, sum, id, "", nil)), api.ErrForm)
			trial.WantError(t, w.Why, trial.Of(outline.Inline(w.Arena, id, s.Next)), api.ErrForm)
			trial.WantError(t, w.Why, trial.Of(outline.Inline(w.Arena, id, nil)), api.ErrForm)
		}
	}
	if s.Asked > 0 {
		t.Error("fresh was called")
	}
}

// TestGarbage: all calls end, whatever the arena is, and return ErrForm if it is
// not right.
func TestGarbage(t *testing.T) {
	r := rand.New(rand.NewSource(1))
	trial.WantForm(t, r.Intn, around(body), func(a *arena.Arena, some func() api.ID) map[string]trial.Result {
		return map[string]trial.Result{
			"Extract":              trial.Of(outline.Extract(a, some(), some(), "new", op.Fresh(1))),
			"Extract with any IDs": trial.Of(outline.Extract(a, some(), 2, "new", trial.From(some(), some(), some(), some(), some(), some()).Next)),
			"Inline":               trial.Of(outline.Inline(a, some(), op.Fresh(1))),
			"Inline with any IDs":  trial.Of(outline.Inline(a, some(), trial.From(some(), some(), some()).Next)),
		}
	})
}
