package author_test

import (
	"math/rand"
	"testing"

	"hourglass/api"
	"hourglass/arena"
	"hourglass/author"
	"hourglass/check"
	"hourglass/grammar"
)

// TestProgram: all programs are right, and each kind of node occurs often.
func TestProgram(t *testing.T) {
	kinds := map[byte]int{}
	r := rand.New(rand.NewSource(1))
	for range 300 {
		s := author.Program(r.Intn)
		a, e := grammar.Parse(s)
		if e != api.OK || check.Right(a) != api.OK {
			t.Fatalf("%s: error %d, %d", s, e, check.Right(a))
		}
		for _, n := range a.Walk(a.Root()) {
			kinds[n.Kind]++
		}
	}
	for kind := byte(arena.Program); kind <= arena.Read; kind++ {
		if kinds[kind] < 100 {
			t.Errorf("kind %d occurs %d times", kind, kinds[kind])
		}
	}
}

// TestPlainChoices: also choices that are always the first or the last end.
func TestPlainChoices(t *testing.T) {
	for _, below := range []func(n int) int{
		func(n int) int { return 0 },
		func(n int) int { return n - 1 },
		func(n int) int { return n / 2 },
	} {
		if a, e := grammar.Parse(author.Program(below)); e != api.OK || check.Right(a) != api.OK {
			t.Errorf("error %d, %d", e, check.Right(a))
		}
	}
}
