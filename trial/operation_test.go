package trial_test

import (
	"math/rand"
	"testing"

	"hourglass/op"
	"hourglass/trial"
)

func TestOp(t *testing.T) {
	r := rand.New(rand.NewSource(1))
	c := trial.Changer{Below: r.Intn, Arena: trial.Right(t, "module m { func f(p bool) int { if !p { print 1; } else { } return 2; } }"+within(sum))}
	kinds := map[byte]int{}
	for range 2000 {
		if o := c.Op(); o.Right() {
			kinds[o.Kind]++
		}
	}
	for kind := byte(1); kind <= op.SwapParts; kind++ {
		if kinds[kind] < 50 {
			t.Errorf("kind %d: only %d times", kind, kinds[kind])
		}
	}
}
