package run_test

import (
	"math"
	"math/rand"
	"slices"
	"strconv"
	"strings"
	"testing"

	"hourglass/api"
	"hourglass/arena"
	"hourglass/check"
	"hourglass/grammar"
	"hourglass/run"
)

func parsed(t *testing.T, program string) *arena.Arena {
	t.Helper()
	a, e := grammar.Parse(program)
	if e != api.OK {
		t.Fatalf("%s: %v", program, e)
	}
	return a
}

// right returns a program that is.
func right(t *testing.T, program string) *arena.Arena {
	t.Helper()
	a := parsed(t, program)
	if e := check.Right(a); e != api.OK {
		t.Fatalf("%s: %v", program, e)
	}
	return a
}

// helpers are functions that bodies may call.
const helpers = `
	func pair(a int, b int) int { return ((a * 100) + b); }
	func tell(a int) int { print a; return a; }
	func yes(a int) bool { print a; return true; }
	func no(a int) bool { print a; return false; }
	func all(a int, b bool, c int) int { print a; print b; print c; return a; }
`

// within returns a program whose Main has that body.
func within(t *testing.T, body string) *arena.Arena {
	t.Helper()
	return right(t, "module main { func main() int { "+body+" }"+helpers+"}")
}

// wantResult compares all fields.
func wantResult(t *testing.T, what string, got, want run.Result) {
	t.Helper()
	if got.End != want.End || got.Value != want.Value || !slices.Equal(got.Trace, want.Trace) || got.Used != want.Used || got.Read != want.Read {
		t.Errorf("%s: %+v, want %+v", what, got, want)
	}
}

func done(value int64, trace ...int64) run.Result {
	return run.Result{End: run.Done, Value: value, Trace: trace}
}

func trap(trace ...int64) run.Result {
	return run.Result{End: run.Trap, Trace: trace}
}

// wantSame runs a body with all fuel, and looks at End, Value and Trace.
func wantSame(t *testing.T, body string, input []int64, want run.Result) {
	t.Helper()
	got := run.Run(within(t, body), input, run.MaxFuel)
	if !run.Same(got, want) {
		t.Errorf("%s: %+v, want %+v", body, got, want)
	}
}

func TestExample(t *testing.T) {
	a := right(t, "module main { func main() int { print 1; return 2; } }")
	wantResult(t, "the example", run.Run(a, nil, 10), run.Result{Value: 2, Trace: []int64{1}, Used: 3})
}

func TestConstants(t *testing.T) {
	if run.Done != 0 || run.Trap != 1 || run.Spent != 2 || run.Wrong != 3 || run.MaxFuel != 50000 {
		t.Error(run.Done, run.Trap, run.Spent, run.Wrong, run.MaxFuel)
	}
}

func TestExpressions(t *testing.T) {
	const lowest = "(-9223372036854775807 - 1)"
	for e, want := range map[string]int64{
		"7": 7, "0": 0, "9223372036854775807": math.MaxInt64,
		"true": 1, "false": 0, "!true": 0, "!false": 1, "!!true": 1,
		"-5": -5, "--5": 5, "-0": 0, "-" + lowest: math.MinInt64,
		"(3 + 4)": 7, "(3 - 4)": -1, "(3 * 4)": 12,
		"(7 / 2)": 3, "(-7 / 2)": -3, "(7 / -2)": -3, "(-7 / -2)": 3,
		"(7 % 2)": 1, "(-7 % 2)": -1, "(7 % -2)": 1, "(-7 % -2)": -1, "(6 % 3)": 0, "(0 / 5)": 0,
		"(9223372036854775807 + 1)":              math.MinInt64,
		"(" + lowest + " - 1)":                   math.MaxInt64,
		"(9223372036854775807 * 2)":              -2,
		"(" + lowest + " * " + lowest + ")":      0,
		"(" + lowest + " / -1)":                  math.MinInt64,
		"(" + lowest + " % -1)":                  0,
		"(" + lowest + " < 9223372036854775807)": 1,
		"(1 < 2)":                                1,
		"(2 < 2)":                                0,
		"(3 < 2)":                                0,
		"(1 <= 2)":                               1,
		"(2 <= 2)":                               1,
		"(3 <= 2)":                               0,
		"(1 > 2)":                                0,
		"(2 > 2)":                                0,
		"(3 > 2)":                                1,
		"(1 >= 2)":                               0,
		"(2 >= 2)":                               1,
		"(3 >= 2)":                               1,
		"(1 == 2)":                               0,
		"(2 == 2)":                               1,
		"(1 != 2)":                               1,
		"(2 != 2)":                               0,
		"(true == true)":                         1,
		"(true == false)":                        0,
		"(false == false)":                       1,
		"(true != false)":                        1,
		"(true != true)":                         0,
		"(true && true)":                         1,
		"(true && false)":                        0,
		"(false && true)":                        0,
		"(false && false)":                       0,
		"(true || true)":                         1,
		"(true || false)":                        1,
		"(false || true)":                        1,
		"(false || false)":                       0,
		"((1 + 2) * (3 - (4 / 2)))":              3,
		"(10 - (3 - 2))":                         9,
		"((10 - 3) - 2)":                         5,
		"(!(1 < 2) || (3 == (1 + 2)))":           1,
		"main.pair(3, 4)":                        304,
		"main.pair(main.pair(1, 2), -main.pair(3,4))": 9896,
	} {
		wantSame(t, "print "+e+"; return 0;", nil, done(0, want))
		wantSame(t, "if true { print "+e+"; } else { } return 0;", nil, done(0, want))
	}
}

// TestLeftToRight: the numbers of the input tell what was evaluated first.
func TestLeftToRight(t *testing.T) {
	input := []int64{1, 2, 3, 4}
	for body, want := range map[string]run.Result{
		"return (read - read);":                                      done(-1),
		"return ((read - read) * (read - read));":                    done(1),
		"return (read - (read - read));":                             done(2),
		"return ((read * 10) + read);":                               done(12),
		"return main.pair(read, read);":                              done(102),
		"return main.pair(main.pair(read, read), read);":             done(10203),
		"return main.all(read, (read < read), read);":                done(1, 1, 1, 4),
		"return (main.tell(7) - main.tell(8));":                      done(-1, 7, 8),
		"return main.pair(main.tell(7), main.tell(8));":              done(708, 7, 8),
		"print (main.tell(9) < main.tell(8)); return 0;":             done(0, 9, 8, 0),
		"print (main.yes(1) == main.no(2)); return 0;":               done(0, 1, 2, 0),
		"let x int = 1; return (x + main.tell((x + 1)));":            done(3, 2),
		"print (read == 1); print (2 == read); return -read;":        done(-3, 1, 1),
		"do main.tell(read); do main.pair(read, read); return read;": done(4, 1),
	} {
		wantSame(t, body, input, want)
	}
}

// TestDecided: the right operand is left out where the left one decides, with
// all that it would do.
func TestDecided(t *testing.T) {
	for body, want := range map[string]run.Result{
		"print (false && (1 == (1 / 0))); return read;":                                 done(5, 0),
		"print (true || (1 == (1 / 0))); return read;":                                  done(5, 1),
		"print (true && (1 == (1 / 0))); return read;":                                  trap(),
		"print (false || (1 == (1 / 0))); return read;":                                 trap(),
		"print (false && (read == 5)); return read;":                                    done(5, 0),
		"print (true || (read == 5)); return read;":                                     done(5, 1),
		"print (true && (read == 5)); return read;":                                     done(6, 1),
		"print (false || (read == 6)); return read;":                                    done(6, 0),
		"print (main.no(1) && main.yes(2)); return 0;":                                  done(0, 1, 0),
		"print (main.yes(1) || main.yes(2)); return 0;":                                 done(0, 1, 1),
		"print (main.yes(1) && main.no(2)); return 0;":                                  done(0, 1, 2, 0),
		"print (main.no(1) || main.yes(2)); return 0;":                                  done(0, 1, 2, 1),
		"print ((main.no(1) && main.no(2)) || main.yes(3)); return 0;":                  done(0, 1, 3, 1),
		"print (main.no(1) && (main.no(2) || main.yes(3))); return 0;":                  done(0, 1, 0),
		"print ((main.yes(1) || main.no(2)) && main.no(3)); return 0;":                  done(0, 1, 3, 0),
		"print !(main.no(1) && main.no(2)); return 0;":                                  done(0, 1, 1),
		"print ((main.no(1) && main.no(2)) == (main.yes(3) || main.yes(4))); return 0;": done(0, 1, 3, 0),
	} {
		wantSame(t, body, []int64{5, 6}, want)
	}
}

func TestStatements(t *testing.T) {
	for body, want := range map[string]run.Result{
		"return 1;":                                                        done(1),
		"let x int = 4; return x;":                                         done(4),
		"let x int = 4; x = (x + 1); return x;":                            done(5),
		"let x int = 4; let y int = x; x = 1; return y;":                   done(4),
		"let x bool = true; x = !x; print x; return 0;":                    done(0, 0),
		"if true { print 1; } else { print 2; } return 3;":                 done(3, 1),
		"if false { print 1; } else { print 2; } return 3;":                done(3, 2),
		"if false { print 1; } else { } return 3;":                         done(3),
		"if true { } else { print 2; } return 3;":                          done(3),
		"while false { print 1; } return 3;":                               done(3),
		"do main.tell(4); return 3;":                                       done(3, 4),
		"do main.yes(4); return 3;":                                        done(3, 4),
		"print true; print 5; print -6; return 0;":                         done(0, 1, 5, -6),
		"let i int = 0; while (i < 3) { print i; i = (i + 1); } return i;": done(3, 0, 1, 2),
		"let i int = 0; while (i < 6) { if ((i % 2) == 0) { print i; } else { let j int = i; while (j > 3) { print -j; j = (j - 1); } } i = (i + 1); } return i;": done(6, 0, 2, 4, -5, -4),
		"let i int = 0; while (i < 3) { let j int = (i * i); print j; j = 7; i = (i + 1); } return 0;":                                                            done(0, 0, 1, 4),
		"let b bool = true; while b { b = false; } print b; return 0;":                                                                                            done(0, 0),
	} {
		wantSame(t, body, nil, want)
	}
}

// TestVariables: each call has its own.
func TestVariables(t *testing.T) {
	for program, want := range map[string]run.Result{
		// An argument is a value.
		"module main { func main() int { let x int = 1; let y int = main.f(x); return ((x * 10) + y); } func f(x int) int { x = (x + 1); return x; } }": done(12),
		// Functions may use the same names.
		"module main { func main() int { let x int = 1; do main.f(5); return x; } func f(y int) int { let x int = y; x = (x + 1); print x; return x; } }": done(1, 6),
		// What a nested call sets does not change the caller's variables.
		"module main { func main() int { return main.f(3); } func f(n int) int { let x int = n; if (n > 0) { do main.f((n - 1)); } else { } print x; n = (n * 2); return (n + x); } }": done(9, 0, 1, 2, 3),
		// Two calls of one function within an expression.
		"module main { func main() int { return main.f(10); } func f(n int) int { let r int = n; if (n > 1) { r = (main.f((n - 1)) + main.f((n - 2))); } else { } return r; } }": done(55),
		// A call among the arguments of a call of the same function.
		"module main { func main() int { return main.f(main.f(1, 2), main.f(3, main.f(4, 5))); } func f(a int, b int) int { print a; return ((a * 10) + b); } }": done(195, 1, 4, 3, 12),
		// Functions call each other, also those of other modules.
		"module m { func even(n int) bool { let r bool = true; if (n > 0) { r = main.odd((n - 1)); } else { } return r; } } module main { func odd(n int) bool { let r bool = false; if (n > 0) { r = m.even((n - 1)); } else { } return r; } func main() int { print main.odd(7); print m.even(7); print m.even(8); return 0; } }": done(0, 1, 0, 1),
		// What a Do's call returns is left nowhere.
		"module main { func main() int { return (5 - main.f(2)); } func f(n int) int { do main.g(); do main.g(); return n; } func g() int { return 9; } }": done(3),
		// Main may call itself, and there may be other functions with its name.
		"module a { func main() int { return 5; } } module main { func f() int { return 6; } func main() int { let x int = read; if (x > 0) { x = (main.main() + a.main()); } else { } return (x + 1); } }": done(13),
	} {
		got := run.Run(right(t, program), []int64{1, 1, 0}, run.MaxFuel)
		if !run.Same(got, want) {
			t.Errorf("%s: %+v, want %+v", program, got, want)
		}
	}
}

func TestRead(t *testing.T) {
	count := within(t, "let n int = read; while (n > 0) { print read; n = (n - 1); } return read;")
	for _, c := range []struct {
		input []int64
		want  run.Result
	}{
		{nil, run.Result{Used: 4, Read: 2}},
		{[]int64{}, run.Result{Used: 4, Read: 2}},
		{[]int64{0, 9}, run.Result{Value: 9, Used: 4, Read: 2}},
		{[]int64{0, 9, 8}, run.Result{Value: 9, Used: 4, Read: 2}},
		{[]int64{2, 9, 8}, run.Result{Trace: []int64{9, 8}, Used: 10, Read: 4}},
		{[]int64{2, 9, 8, 7}, run.Result{Value: 7, Trace: []int64{9, 8}, Used: 10, Read: 4}},
		{[]int64{3, math.MinInt64}, run.Result{Trace: []int64{math.MinInt64, 0, 0}, Used: 13, Read: 5}},
		{[]int64{-3, math.MaxInt64}, run.Result{Value: math.MaxInt64, Used: 4, Read: 2}},
	} {
		wantResult(t, "reading", run.Run(count, c.input, run.MaxFuel), c.want)
	}
}

// TestTrap puts a division by 0 into each place.
func TestTrap(t *testing.T) {
	for body, want := range map[string]run.Result{
		"return (1 / 0);":                          {Used: 2},
		"return (1 % 0);":                          {Used: 2},
		"return (0 / 0);":                          {Used: 2},
		"return (read / read);":                    {Used: 2, Read: 2},
		"return ((1 / 0) + read);":                 {Used: 2},
		"return (read + -(1 / 0));":                {Used: 2, Read: 1},
		"print 1; print (1 % 0); return 1;":        {Used: 3, Trace: []int64{1}},
		"let x int = (1 / 0); return 1;":           {Used: 2},
		"let x int = 1; x = (x / 0); return 1;":    {Used: 3},
		"if ((1 / 0) == 1) { } else { } return 1;": {Used: 2},
		"while !((1 % 0) == 1) { } return 1;":      {Used: 2},
		"do main.tell((1 / 0)); return 1;":         {Used: 2},
		"do main.pair((1 / 0), read); return 1;":   {Used: 2},
		"do main.pair(read, (1 / 0)); return 1;":   {Used: 2, Read: 1},
		"do main.tell(2); return (5 / (3 - 3));":   {Used: 6, Trace: []int64{2}},
		"print 1; if true { while true { print 2; do main.pair(1, (2 % 0)); } } else { } return 1;": {Used: 6, Trace: []int64{1, 2}},
	} {
		want.End = run.Trap
		wantResult(t, body, run.Run(within(t, body), nil, run.MaxFuel), want)
	}
	a := right(t, "module main { func main() int { print 1; return main.f(3); } func f(n int) int { let r int = 0; if (n > 0) { r = main.f((n - 1)); } else { r = (1 / n); } print n; return r; } }")
	wantResult(t, "a Trap within calls", run.Run(a, nil, run.MaxFuel), run.Result{End: run.Trap, Trace: []int64{1}, Used: 19})
}

// TestWrong: whatever is not Right.
func TestWrong(t *testing.T) {
	programs := map[string]*arena.Arena{
		"nil":                      nil,
		"new":                      arena.New(),
		"one that is not a tree":   arena.New(),
		"ErrClash":                 parsed(t, "module main { func main() int { print 1; return read; } func f() int { return 1; } func g() int { return 2; } }"),
		"ErrName":                  parsed(t, "module main { func main() int { print 1; if true { let x int = 1; } else { } let y int = 2; return y; } }"),
		"ErrType":                  parsed(t, "module main { func main() int { print 1; return true; } }"),
		"no Main":                  parsed(t, "module main { func f() int { print 1; return 1; } }"),
		"another module's main":    parsed(t, "module m { func main() int { print 1; return 1; } }"),
		"main with a parameter":    parsed(t, "module main { func main(a int) int { print 1; return 1; } }"),
		"main that returns a bool": parsed(t, "module main { func main() bool { print 1; return true; } }"),
		"no Program":               right(t, "module main { func main() int { return 1; } }"),
		"ErrType elsewhere":        parsed(t, "module main { func main() int { print 1; return 1; } func f() int { return !1; } }"),
	}
	programs["one that is not a tree"].Put(2, api.Node{Kind: arena.Module, Name: "m"})
	rename(programs["ErrClash"], "g", "f")
	repoint(programs["ErrName"], "y", "x")
	programs["no Program"].Drop(1)
	for what, a := range programs {
		if check.Right(a) == api.OK {
			t.Errorf("%s: it is right", what)
		}
		for _, fuel := range []int{-1, 0, 1, run.MaxFuel} {
			wantResult(t, what, run.Run(a, []int64{1}, fuel), run.Result{End: run.Wrong})
		}
	}
}

// rename gives another name to the function with that one.
func rename(a *arena.Arena, from, to string) {
	id := check.Func(a, "main", from)
	n, _ := a.Get(id)
	n.Name = to
	a.Put(id, n)
}

// repoint makes what refers to one variable refer to another one.
func repoint(a *arena.Arena, from, to string) {
	ids := map[string]api.ID{}
	for id, n := range a.Walk(1) {
		ids[n.Name] = id
	}
	for _, user := range check.Users(a, ids[from]) {
		n, _ := a.Get(user)
		n.Ref = ids[to]
		a.Put(user, n)
	}
}

// TestGarbage: nothing panics or goes on forever, whatever the arena is.
func TestGarbage(t *testing.T) {
	r := rand.New(rand.NewSource(1))
	for range 2000 {
		a := within(t, "let x int = 1; while (x < 5) { x = (x + main.tell(read)); } return x;")
		ids := a.IDs()
		for range 1 + r.Intn(3) {
			n, _ := a.Get(ids[r.Intn(len(ids))])
			switch r.Intn(5) {
			case 0:
				n.Kind = byte(r.Intn(22))
			case 1:
				n.Ref = ids[r.Intn(len(ids))]
			case 2:
				n.Kids = append(n.Kids, ids[r.Intn(len(ids))])
			case 3:
				n.Num = int64(r.Intn(16))
			case 4:
				n.Type = byte(r.Intn(4))
			}
			a.Put(ids[r.Intn(len(ids))], n)
		}
		got := run.Run(a, []int64{1, 2}, 300)
		if check.Right(a) != api.OK {
			wantResult(t, "garbage", got, run.Result{End: run.Wrong})
		} else if got.End == run.Wrong {
			t.Error("Wrong, although it is right")
		}
	}
}

// TestDeep: calls are nested as far as fuel lasts, each below as much as a
// program can nest.
func TestDeep(t *testing.T) {
	for expression, within := range map[string]string{
		"main.f(n)":                               "int",
		strings.Repeat("-", 88) + "main.f(n)":     "int",
		strings.Repeat("!", 88) + "main.f(n)":     "bool",
		nested("(1 + ", "main.f(n)", ")", 88):     "int",
		nested("(true && ", "main.f(n)", ")", 88): "bool",
		nested("main.g(", "main.f(n)", ")", 88):   "int",
	} {
		a := right(t, "module main { func main() int { do main.f(1); return 1; } func f(n int) "+within+" { return "+expression+"; } func g(n int) int { return n; } }")
		wantResult(t, expression, run.Run(a, nil, run.MaxFuel), run.Result{End: run.Spent, Used: run.MaxFuel})
	}
	a := right(t, "module main { func main() int { return main.f(9998); } func f(n int) int { let r int = 0; if (n > 0) { r = (main.f((n - 1)) + 1); } else { } return r; } }")
	wantResult(t, "a deep call", run.Run(a, nil, run.MaxFuel), run.Result{Value: 9998, Used: 49996})
	a = right(t, "module main { func main() int { "+nested("if true { ", "print 1; ", "} else { } ", 89)+"return 2; } }")
	wantResult(t, "deep ifs", run.Run(a, nil, run.MaxFuel), run.Result{Value: 2, Trace: []int64{1}, Used: 92})
	a = right(t, "module main { func main() int { while "+nested("(false || ", "(read > 0)", ")", 88)+" { print 1; } return 2; } }")
	wantResult(t, "a deep condition", run.Run(a, []int64{1, 1}, run.MaxFuel), run.Result{Value: 2, Trace: []int64{1, 1}, Used: 7, Read: 3})
}

func nested(before, within, after string, times int) string {
	return strings.Repeat(before, times) + within + strings.Repeat(after, times)
}

// TestLarge: a program with as many nodes as there may be.
func TestLarge(t *testing.T) {
	count := (api.MaxNodes - 6) / 2
	var b strings.Builder
	want := run.Result{Value: 1, Used: count + 2}
	for i := range count {
		b.WriteString("print " + strconv.Itoa(i%10) + ";")
		want.Trace = append(want.Trace, int64(i%10))
	}
	a := right(t, "module main { func main() int { "+b.String()+" return 1; } }")
	wantResult(t, "a large program", run.Run(a, nil, run.MaxFuel), want)
}
