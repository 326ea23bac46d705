package run_test

import (
	"slices"
	"testing"

	"hourglass/arena"
	"hourglass/run"
)

const chatty = "let n int = read; while (n > 0) { print (n * read); n = (n - 1); } return read;"

// TestArgumentsStay: neither the arena nor the input is changed, and what the
// caller does to them later is not seen.
func TestArgumentsStay(t *testing.T) {
	a := within(t, chatty)
	before := a.Copy()
	all := []int64{3, 4, 5, 6, 7, 77, 78}
	input := all[:5]
	got := run.Run(a, input, 1000)
	want := run.Result{Value: 7, Trace: []int64{12, 10, 6}, Used: 13, Read: 5}
	wantResult(t, "the first run", got, want)
	if !arena.Same(a, before) {
		t.Error("the arena has changed")
	}
	if !slices.Equal(all, []int64{3, 4, 5, 6, 7, 77, 78}) {
		t.Error("the input has changed:", all)
	}
	clear(all)
	a.Drop(1)
	wantResult(t, "the result afterwards", got, want)
}

// TestResultsApart: two results share nothing, and results not the input.
func TestResultsApart(t *testing.T) {
	a := within(t, chatty)
	input := []int64{3, 4, 5, 6, 7}
	want := run.Result{Value: 7, Trace: []int64{12, 10, 6}, Used: 13, Read: 5}
	first := run.Run(a, input, 1000)
	second := run.Run(a, input, 1000)
	clear(first.Trace[:cap(first.Trace)])
	wantResult(t, "the second result", second, want)
	wantResult(t, "a third run", run.Run(a, input, 1000), want)
	if !slices.Equal(input, []int64{3, 4, 5, 6, 7}) {
		t.Error("the input has changed:", input)
	}
}

// TestNothingKept: a run does not depend on those before it.
func TestNothingKept(t *testing.T) {
	programs := []*arena.Arena{within(t, chatty), within(t, "let x int = main.tell(4); return (x / read);"), within(t, "return main.all(1, (read > 1), read);"), nil}
	var results []run.Result
	for _, a := range programs {
		results = append(results, run.Run(a, []int64{2, 3, 4}, 9))
	}
	for i := range 40 {
		at := (i * i) % len(programs)
		wantResult(t, "again", run.Run(programs[at], []int64{2, 3, 4}, 9), results[at])
		run.Run(programs[(i+1)%len(programs)], []int64{9}, i)
	}
}
