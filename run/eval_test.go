package run_test

import (
	"math"
	"math/big"
	"math/rand"
	"testing"

	"hourglass/grammar"
	"hourglass/run"
)

// wrapped returns the lowest 64 bits.
func wrapped(n *big.Int) int64 {
	low := new(big.Int).And(n, new(big.Int).SetUint64(math.MaxUint64)) // as of an endless two's complement
	return int64(low.Uint64())
}

func truth(on bool) int64 {
	if on {
		return 1
	}
	return 0
}

// evaluated is Eval, with numbers that have as many bits as they need.
func evaluated(sign string, x, y int64) (int64, bool) {
	m, n := big.NewInt(x), big.NewInt(y)
	switch sign {
	case "+":
		return wrapped(m.Add(m, n)), true
	case "-":
		return wrapped(m.Sub(m, n)), true
	case "*":
		return wrapped(m.Mul(m, n)), true
	case "/", "%":
		if y == 0 {
			return 0, false
		}
		quotient, rest := new(big.Int).QuoRem(m, n, new(big.Int))
		if sign == "/" {
			return wrapped(quotient), true
		}
		return wrapped(rest), true
	case "<":
		return truth(m.Cmp(n) < 0), true
	case "<=":
		return truth(m.Cmp(n) <= 0), true
	case ">":
		return truth(m.Cmp(n) > 0), true
	case ">=":
		return truth(m.Cmp(n) >= 0), true
	case "==":
		return truth(m.Cmp(n) == 0), true
	case "!=":
		return truth(m.Cmp(n) != 0), true
	case "&&":
		return truth(m.Bit(0) == 1 && n.Bit(0) == 1), true
	case "||":
		return truth(m.Bit(0) == 1 || n.Bit(0) == 1), true
	}
	return 0, false
}

func wantEval(t *testing.T, op, x, y int64) {
	t.Helper()
	value, ok := run.Eval(op, x, y)
	if want, fine := evaluated(grammar.Sign(op), x, y); value != want || ok != fine {
		t.Errorf("Eval(%d, %d, %d): %d, %v, want %d, %v", op, x, y, value, ok, want, fine)
	}
}

func TestEval(t *testing.T) {
	edges := []int64{math.MinInt64, math.MinInt64 + 1, math.MinInt64 / 2, math.MinInt32, -8, -7, -3, -2, -1,
		0, 1, 2, 3, 7, 8, math.MaxInt32, math.MaxUint32, math.MaxInt64/2 + 1, math.MaxInt64 - 1, math.MaxInt64}
	for op := int64(-3); op <= 20; op++ {
		for _, x := range edges {
			for _, y := range edges {
				wantEval(t, op, x, y)
			}
		}
	}
	r := rand.New(rand.NewSource(1))
	random := func() int64 { return int64(r.Uint64()) >> r.Intn(64) }
	for range 100000 {
		wantEval(t, 1+r.Int63n(13), random(), random())
	}
	for _, op := range []int64{math.MinInt64, -1, 0, 14, 257, 1 << 32, math.MaxInt64} {
		if value, ok := run.Eval(op, 6, 3); value != 0 || ok {
			t.Errorf("Eval of the sign %d: %d, %v", op, value, ok)
		}
	}
}

// TestEvalByHand needs no other implementation.
func TestEvalByHand(t *testing.T) {
	for _, c := range []struct {
		sign    string
		x, y, z int64
		ok      bool
	}{
		{"+", math.MaxInt64, 1, math.MinInt64, true},
		{"-", math.MinInt64, 1, math.MaxInt64, true},
		{"*", math.MinInt64, -1, math.MinInt64, true},
		{"/", math.MinInt64, -1, math.MinInt64, true},
		{"%", math.MinInt64, -1, 0, true},
		{"/", -7, 2, -3, true},
		{"%", -7, 2, -1, true},
		{"/", 7, -2, -3, true},
		{"%", 7, -2, 1, true},
		{"/", 7, 0, 0, false},
		{"%", 7, 0, 0, false},
		{"<", -1, 0, 1, true},
		{">=", -1, 0, 0, true},
		{"==", 3, 1, 0, true},
		{"!=", 3, 1, 1, true},
		{"&&", 3, 1, 1, true},
		{"&&", 2, 1, 0, true},
		{"&&", -1, math.MaxInt64, 1, true},
		{"||", 2, 4, 0, true},
		{"||", 2, 5, 1, true},
		{"||", math.MinInt64, 0, 0, true},
	} {
		if z, ok := run.Eval(grammar.Op(c.sign), c.x, c.y); z != c.z || ok != c.ok {
			t.Errorf("%d %s %d: %d, %v, want %d, %v", c.x, c.sign, c.y, z, ok, c.z, c.ok)
		}
	}
}

func TestSame(t *testing.T) {
	base := run.Result{End: run.Done, Value: 3, Trace: []int64{1, 2}, Used: 7, Read: 2}
	for _, c := range []struct {
		what   string
		change func(*run.Result)
		want   bool
	}{
		{"nothing", func(*run.Result) {}, true},
		{"Used", func(r *run.Result) { r.Used = 8 }, true},
		{"Read", func(r *run.Result) { r.Read = 0 }, true},
		{"spare capacity", func(r *run.Result) { r.Trace = append(make([]int64, 0, 9), r.Trace...) }, true},
		{"End", func(r *run.Result) { r.End = run.Spent }, false},
		{"Value", func(r *run.Result) { r.Value = -3 }, false},
		{"an element", func(r *run.Result) { r.Trace = []int64{1, 3} }, false},
		{"the order", func(r *run.Result) { r.Trace = []int64{2, 1} }, false},
		{"one less", func(r *run.Result) { r.Trace = []int64{1} }, false},
		{"one more", func(r *run.Result) { r.Trace = []int64{1, 2, 0} }, false},
		{"none", func(r *run.Result) { r.Trace = nil }, false},
	} {
		other := base
		c.change(&other)
		if run.Same(base, other) != c.want || run.Same(other, base) != c.want {
			t.Errorf("Same with a change of %s: not %v", c.what, c.want)
		}
	}
	if !run.Same(run.Result{}, run.Result{Trace: []int64{}, Used: 1}) || !run.Same(run.Result{End: run.Wrong}, run.Result{End: run.Wrong}) {
		t.Error("nil and empty traces differ")
	}
	if run.Same(run.Result{End: run.Trap}, run.Result{End: run.Spent}) || run.Same(run.Result{}, run.Result{End: run.Wrong}) {
		t.Error("different ends are the same")
	}
}
