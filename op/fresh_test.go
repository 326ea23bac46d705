package op_test

import (
	"math"
	"testing"

	"hourglass/api"
	"hourglass/op"
)

func wantNoID(t *testing.T, stamp uint32, next func() (api.ID, bool)) {
	t.Helper()
	for range 3 {
		if id, ok := next(); ok || id != 0 {
			t.Fatalf("stamp %d: %d, %v, want no ID", stamp, id, ok)
		}
	}
}

// TestFresh takes all IDs of some stamps.
func TestFresh(t *testing.T) {
	for _, stamp := range []uint32{1, 2, 3, 65535, 65536, math.MaxInt32, math.MaxInt32 + 1, math.MaxUint32} {
		next := op.Fresh(stamp)
		for i := range uint64(65535) {
			want := api.ID(65536*uint64(stamp) + 1 + i)
			if id, ok := next(); !ok || id != want {
				t.Fatalf("stamp %d: %d, %v, want %d", stamp, id, ok, want)
			}
		}
		wantNoID(t, stamp, next)
	}
	wantNoID(t, 0, op.Fresh(0))
}

// TestFreshIsOnItsOwn: functions of the same stamp do not know of each other.
func TestFreshIsOnItsOwn(t *testing.T) {
	want := func(next func() (api.ID, bool), want api.ID) {
		t.Helper()
		if id, ok := next(); !ok || id != want {
			t.Errorf("%d, %v, want %d", id, ok, want)
		}
	}
	x, y, z := op.Fresh(7), op.Fresh(7), op.Fresh(8)
	want(x, 7*65536+1)
	want(x, 7*65536+2)
	want(y, 7*65536+1)
	want(z, 8*65536+1)
	want(x, 7*65536+3)
	want(y, 7*65536+2)
	want(op.Fresh(7), 7*65536+1)
}
