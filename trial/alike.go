package trial

import (
	"math"

	"hourglass/arena"
	"hourglass/run"
)

// Input returns up to seven numbers.
func Input(below func(n int) int) []int64 {
	var l []int64
	for range below(8) {
		l = append(l, []int64{0, 1, 2, 3, -1, math.MinInt64, math.MaxInt64, int64(below(math.MaxInt))}[below(8)])
	}
	return l
}

// WantAlike expects that two programs do the same with an input: where one of
// them ends within some fuel (up to the given one), the other one ends within so
// many times as much.
func WantAlike(t T, a, b *arena.Arena, input []int64, fuel, times int) {
	t.Helper()
	wantFollowed(t, a, b, input, fuel, times)
	wantFollowed(t, b, a, input, fuel, times)
}

// wantFollowed tries the least fuel within which the first program ends.
func wantFollowed(t T, a, b *arena.Arena, input []int64, fuel, times int) {
	t.Helper()
	want := run.Run(a, input, min(fuel, run.MaxFuel/times))
	if want.End == run.Spent {
		return
	}
	got := run.Run(b, input, times*want.Used)
	if !run.Same(got, want) || got.Read != want.Read {
		t.Errorf("input %d, %d times the fuel: %+v, want %+v", input, times, got, want)
	}
}

// WantSameRuns expects that all that a run tells is the same of two programs,
// with an input and some fuels.
func WantSameRuns(t T, below func(n int) int, a, b *arena.Arena) {
	t.Helper()
	input := Input(below)
	whole := wantSameRun(t, a, b, input, 3000)
	wantSameRun(t, a, b, input, whole.Used-1)
	wantSameRun(t, a, b, input, below(whole.Used+1))
}

func wantSameRun(t T, a, b *arena.Arena, input []int64, fuel int) run.Result {
	t.Helper()
	want, got := run.Run(a, input, fuel), run.Run(b, input, fuel)
	if !run.Same(got, want) || got.Used != want.Used || got.Read != want.Read {
		t.Errorf("input %d, fuel %d: %+v, want %+v", input, fuel, got, want)
	}
	return want
}
