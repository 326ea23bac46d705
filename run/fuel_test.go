package run_test

import (
	"math"
	"strconv"
	"strings"
	"testing"

	"hourglass/run"
)

// happening is what a run does, in order: f uses fuel, r reads, p prints, and x
// traps; it is Done after the last one.
type happening string

// until returns what remains of a run with that fuel. What it prints, and the
// value, are those of the run with enough fuel.
func (h happening) until(fuel int, whole run.Result) run.Result {
	var r run.Result
	printed := 0
	for _, what := range h {
		switch {
		case what == 'f' && r.Used == fuel:
			r.End = run.Spent
			r.Trace = whole.Trace[:printed]
			return r
		case what == 'f':
			r.Used++
		case what == 'r':
			r.Read++
		case what == 'p':
			printed++
		case what == 'x':
			r.End = run.Trap
		}
	}
	r.Value = whole.Value
	r.Trace = whole.Trace[:printed]
	return r
}

// TestEachFuel runs each body with no fuel, a unit, two units, and so on.
func TestEachFuel(t *testing.T) {
	for body, h := range map[string]happening{
		"return 1;":                          "f f",
		"return read;":                       "f f r",
		"print 1; return 2;":                 "f f p f",
		"print read; return 2;":              "f fr p f",
		"let x int = read; return x;":        "f fr f",
		"let x int = 1; x = read; return x;": "f f fr f",
		"if (read == 1) { print 1; } else { print 2; print 3; } return 1;":                   "f fr fp f",
		"if (read == 2) { print 1; } else { print 2; print 3; } return 1;":                   "f fr fp fp f",
		"if true { } else { } return 1;":                                                     "f f f",
		"if true { if false { } else { if true { print 7; } else { } } } else { } return 1;": "f f f f fp f",
		"while false { } return 1;":                                                          "f f f",
		"while (read < 3) { print 1; } return 1;":                                            "f fr fp fr fp fr fp fr fp fr f",
		"while (read < 3) { } return 1;":                                                     "f fr fr fr fr fr f",
		"while (read < 2) { while (read < 3) { print read; } } return read;":                 "f fr fr frp fr frp fr fr fr",
		// The arguments of a call are evaluated before its fuel is used.
		"do main.tell(1); return 1;":                            "f f f fp f f",
		"do main.tell(read); return 1;":                         "f f r f fp f f",
		"do main.pair(read, read); return 1;":                   "f f rr f f f",
		"return main.pair(read, main.tell(read));":              "f f r r f fp f f f",
		"return (main.tell(1) + main.tell(2));":                 "f f f fp f f fp f",
		"return main.pair(main.tell(1), main.tell(2));":         "f f f fp f f fp f f f",
		"if main.yes(1) { } else { } return 1;":                 "f f f fp f f",
		"while main.no(1) { } return 1;":                        "f f f fp f f",
		"let x int = main.tell(1); x = main.tell(2); return x;": "f f f fp f f f fp f f",
		"print main.yes(1); return 1;":                          "f f f fp f p f",
		"print (main.no(1) && main.no(2)); return 1;":           "f f f fp f p f",
		"print (main.yes(1) && main.no(2)); return 1;":          "f f f fp f f fp f p f",
		"print (main.yes(1) || main.no(2)); return 1;":          "f f f fp f p f",
		// Fuel is used before what can trap.
		"return (1 / 0);":                             "f f x",
		"print (read % 0); return 1;":                 "f f r x",
		"let x int = (read / 0); return 1;":           "f f r x",
		"let x int = 1; x = (read / 0); return 1;":    "f f f r x",
		"if ((read / 0) == 1) { } else { } return 1;": "f f r x",
		"while ((read / 0) == 1) { } return 1;":       "f f r x",
		"do main.tell((read / 0)); return 1;":         "f f r x",
		"return main.pair(main.tell(1), (read / 0));": "f f f fp f r x",
		"print 1; do main.tell(2); return (1 / 0);":   "f fp f f fp f f x",
	} {
		a := within(t, body)
		input := []int64{1, 2, 1, 2, 3, 3, 3}
		h = happening(strings.ReplaceAll(string(h), " ", ""))
		whole := run.Run(a, input, run.MaxFuel)
		needed := strings.Count(string(h), "f")
		for fuel := range needed + 3 {
			wantResult(t, body+" with "+strconv.Itoa(fuel), run.Run(a, input, fuel), h.until(fuel, whole))
		}
		wantResult(t, body, whole, h.until(run.MaxFuel, whole))
		if len(whole.Trace) != strings.Count(string(h), "p") {
			t.Errorf("%s: it printed %v", body, whole.Trace)
		}
	}
}

// TestFuelOutOfBounds: below 0 is 0, and above MaxFuel is MaxFuel.
func TestFuelOutOfBounds(t *testing.T) {
	forever := within(t, "while true { } return 1;")
	for fuel, used := range map[int]int{
		math.MinInt: 0, -run.MaxFuel: 0, -1: 0, 0: 0, 1: 1, 2: 2, 1000: 1000,
		run.MaxFuel - 1: run.MaxFuel - 1, run.MaxFuel: run.MaxFuel, run.MaxFuel + 1: run.MaxFuel, math.MaxInt32: run.MaxFuel, math.MaxInt: run.MaxFuel,
	} {
		wantResult(t, "fuel "+strconv.Itoa(fuel), run.Run(forever, nil, fuel), run.Result{End: run.Spent, Used: used})
	}
}

// TestLastFuel: what needs MaxFuel is Done, and what needs one more is not.
func TestLastFuel(t *testing.T) {
	// The call of Main, the Let, 24,998 times the condition and the Assign, the
	// last condition, and the Return.
	loop := func(times int, more string) run.Result {
		a := within(t, "let i int = 0; while (i < "+strconv.Itoa(times)+") { i = (i + 1); } "+more+"return i;")
		return run.Run(a, nil, math.MaxInt)
	}
	wantResult(t, "MaxFuel", loop(24998, ""), run.Result{Value: 24998, Used: run.MaxFuel})
	wantResult(t, "one more", loop(24998, "print 1; "), run.Result{End: run.Spent, Trace: []int64{1}, Used: run.MaxFuel})
	wantResult(t, "one less", loop(24997, "print 1; "), run.Result{Value: 24997, Trace: []int64{1}, Used: run.MaxFuel - 1})
}
