package shape_test

import (
	"math"
	"slices"
	"testing"

	"hourglass/api"
	"hourglass/arena"
	"hourglass/grammar"
	"hourglass/shape"
	"hourglass/text"
	"hourglass/trial"
)

func TestTurns(t *testing.T) {
	turning := []string{"+", "*", "==", "!="}
	for number := int64(-300); number <= 300; number++ {
		if got, want := shape.Turns(number), slices.Contains(turning, grammar.Sign(number)); got != want {
			t.Errorf("Turns of %d: %v", number, got)
		}
	}
	for _, number := range []int64{math.MinInt64, math.MaxInt64, 1<<32 + 1, 1<<8 + 3, 1<<32 + 10, -1 << 63} {
		if shape.Turns(number) {
			t.Errorf("Turns of %d", number)
		}
	}
}

// swap is for the first expression that is printed like that.
func swap(t *testing.T, body, e string) trial.Result {
	t.Helper()
	a := trial.Right(t, around(body))
	return trial.Of(shape.Swap(a, trial.Find(t, a, e)))
}

// swaps are bodies, expressions in them, and what they become with the operands
// exchanged.
func swaps() [][3]string {
	return [][3]string{
		{"print (a + 1); return 0;", "(a + 1)", "print (1 + a); return 0;"},
		{"print (a * -a); return 0;", "(a * -a)", "print (-a * a); return 0;"},
		{"print ((a - 1) == (2 - a)); return 0;", "((a - 1) == (2 - a))", "print ((2 - a) == (a - 1)); return 0;"},
		{"print (b == (a < 1)); return 0;", "(b == (a < 1))", "print ((a < 1) == b); return 0;"},
		{"print (!b != (b && true)); return 0;", "(!b != (b && true))", "print ((b && true) != !b); return 0;"},
		{"print (a != 9223372036854775807); return 0;", "(a != 9223372036854775807)", "print (9223372036854775807 != a); return 0;"},
		{"print (a + a); return 0;", "(a + a)", "print (a + a); return 0;"},
		{"print ((a + 1) + (a * 2)); return 0;", "((a + 1) + (a * 2))", "print ((a * 2) + (a + 1)); return 0;"},
		{"print ((a + 1) + (a * 2)); return 0;", "(a * 2)", "print ((a + 1) + (2 * a)); return 0;"},
		{"print ((a + 1) / read); return 0;", "(a + 1)", "print ((1 + a) / read); return 0;"},
		{"print (read - main.loud((a * 3))); return 0;", "(a * 3)", "print (read - main.loud((3 * a))); return 0;"},
		{"let x int = (a + 1); return x;", "(a + 1)", "let x int = (1 + a); return x;"},
		{"a = (a * 2); return a;", "(a * 2)", "a = (2 * a); return a;"},
		{"if (a == 1) { print 1; } else { print 2; } return a;", "(a == 1)", "if (1 == a) { print 1; } else { print 2; } return a;"},
		{"while (a != 3) { a = (a + 1); } return a;", "(a != 3)", "while (3 != a) { a = (a + 1); } return a;"},
		{"do main.loud((a + 1)); return a;", "(a + 1)", "do main.loud((1 + a)); return a;"},
		{"return (1 + a);", "(1 + a)", "return (a + 1);"},
	}
}

func TestSwap(t *testing.T) {
	for _, c := range swaps() {
		a := trial.Right(t, around(c[0]))
		id := trial.Find(t, a, c[1])
		got := trial.Of(shape.Swap(a, id))
		wantBody(t, c[1]+" in "+c[0], got, c[2])
		trial.WantArena(t, c[1]+" in "+c[0], got, trial.With(a, id, func(n *api.Node) { slices.Reverse(n.Kids) }))
		wantBehavior(t, a, got.Arena)
		trial.WantArena(t, "Swap of Swap", trial.Of(shape.Swap(got.Arena, id)), trial.Right(t, around(c[0])))
	}
}

// TestSwapOfEachSign: with operands that all signs of their types have.
func TestSwapOfEachSign(t *testing.T) {
	for number := int64(1); grammar.Sign(number) != ""; number++ {
		sign := grammar.Sign(number)
		numbers, truths := [2]string{"a", "1"}, [2]string{"b", "(a < 1)"}
		operands := [][2]string{numbers}
		switch sign {
		case "&&", "||":
			operands = [][2]string{truths}
		case "==", "!=":
			operands = [][2]string{numbers, truths}
		}
		for _, o := range operands {
			e := "(" + o[0] + " " + sign + " " + o[1] + ")"
			got := swap(t, "print "+e+"; return 0;", e)
			if !shape.Turns(number) {
				trial.WantError(t, e, got, api.ErrUnsafe)
				continue
			}
			wantBody(t, e, got, "print ("+o[1]+" "+sign+" "+o[0]+"); return 0;")
		}
	}
}

func TestSwapUnsafe(t *testing.T) {
	for _, sign := range []string{"+", "*", "==", "!="} {
		for _, o := range []string{"read", "(a / 1)", "(7 % 3)", "main.loud(a)", "-read", "(1 + (a / 2))", "(a - main.loud(1))", "(read + 1)"} {
			for _, e := range []string{"(" + o + " " + sign + " a)", "(a " + sign + " " + o + ")", "(" + o + " " + sign + " " + o + ")"} {
				trial.WantError(t, e, swap(t, "print "+e+"; return 0;", e), api.ErrUnsafe)
			}
		}
	}
	for _, e := range []string{"(b == (read < 1))", "((read < 1) != b)", "(b == (1 == main.loud(1)))", "(!((a / 1) < 2) != b)"} {
		trial.WantError(t, e, swap(t, "print "+e+"; return 0;", e), api.ErrUnsafe)
	}
}

func TestSwapErrors(t *testing.T) {
	a := trial.Right(t, around(statements))
	for _, id := range append(a.IDs(), 0, 1000, math.MaxUint64) {
		n, _ := a.Get(id)
		if printed, _ := text.Expr(a, id); n.Kind != arena.Bin {
			trial.WantError(t, printed, trial.Of(shape.Swap(a, id)), api.ErrNone)
		}
	}
}
