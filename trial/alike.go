package trial

import (
	"math"

	"hourglass/arena"
	"hourglass/run"
)

// Input returns up to seven numbers.
func Input(below func(n int) int) []int64 {
	var l []int64
	for range below(8) {
		l = append(l, []int64{0, 1, 2, 3, -1, math.MinInt64, math.MaxInt64, int64(below(math.MaxInt))}[below(8)])
	}
	return l
}

// WantAlike expects that two programs do the same with an input: where one of
// them ends within some fuel (up to the given one), the other one ends within so
// many times as much.
func WantAlike(t T, a, b *arena.Arena, input []int64, fuel, times int) {
	t.Helper()
	wantFollowed(t, a, b, input, fuel, times)
	wantFollowed(t, b, a, input, fuel, times)
}

// wantFollowed tries the least fuel within which the first program ends.
func wantFollowed(t T, a, b *arena.Arena, input []int64, fuel, times int) {
	t.Helper()
	want := run.Run(a, input, min(fuel, run.MaxFuel/times))
	if want.End == run.Spent {
		return
	}
	got := run.Run(b, input, times*want.Used)
	if !run.Same(got, want) || got.Read != want.Read {
		t.Errorf("input %d, %d times the fuel: %+v, want %+v", input, times, got, want)
	}
}
