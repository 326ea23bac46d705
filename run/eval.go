package run

// The signs, by layer 9's numbers.
const (
	plus = iota + 1
	minus
	times
	divide
	remainder
	less
	atMost
	greater
	atLeast
	equal
	unequal
	and
	or
)

func Eval(op int64, x, y int64) (int64, bool) {
	switch op {
	case plus:
		return x + y, true
	case minus:
		return x - y, true
	case times:
		return x * y, true
	case divide, remainder:
		return quotient(op, x, y)
	case less:
		return truth(x < y), true
	case atMost:
		return truth(x <= y), true
	case greater:
		return truth(x > y), true
	case atLeast:
		return truth(x >= y), true
	case equal:
		return truth(x == y), true
	case unequal:
		return truth(x != y), true
	case and:
		return x & y & 1, true
	case or:
		return (x | y) & 1, true
	}
	return 0, false
}

// quotient returns that of / or of %. Go's operators have what the document
// asks of them, also for -2^63 by -1.
func quotient(op int64, x, y int64) (int64, bool) {
	if y == 0 {
		return 0, false
	}
	if op == divide {
		return x / y, true
	}
	return x % y, true
}

func truth(on bool) int64 {
	if on {
		return 1
	}
	return 0
}
