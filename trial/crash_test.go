package trial_test

import (
	"slices"
	"testing"

	"hourglass/trial"
)

func TestSubsets(t *testing.T) {
	want := [][]bool{{false, false}, {true, false}, {false, true}, {true, true}}
	if got := trial.Subsets(2); !slices.EqualFunc(got, want, slices.Equal) {
		t.Error(got)
	}
	if got := trial.Subsets(0); len(got) != 1 || len(got[0]) != 0 {
		t.Error(got)
	}
}
