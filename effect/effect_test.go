package effect_test

import (
	"strings"
	"testing"

	"hourglass/api"
	"hourglass/arena"
	"hourglass/effect"
	"hourglass/grammar"
)

func parsed(t *testing.T, s string) *arena.Arena {
	t.Helper()
	a, e := grammar.Parse(s)
	if e != api.OK {
		t.Fatalf("Parse of %q: error %d", s, e)
	}
	return a
}

// at returns the nth node of a kind, in the order of the text.
func at(t *testing.T, a *arena.Arena, kind byte, nth int) api.ID {
	t.Helper()
	for id, n := range a.Walk(a.Root()) {
		if n.Kind == kind {
			if nth == 0 {
				return id
			}
			nth--
		}
	}
	t.Fatalf("too few nodes of kind %d", kind)
	return 0
}

// returning returns a program and the expression that its function returns.
func returning(t *testing.T, e string) (*arena.Arena, api.ID) {
	t.Helper()
	a := parsed(t, "module m { func f(a int, b bool, c int) int { let l int = 1; c = 2; return "+e+"; } func g() int { return 1; } }")
	n, _ := a.Get(at(t, a, arena.Return, 0))
	return a, n.Kids[0]
}

func TestSafe(t *testing.T) {
	for e, want := range map[string]bool{
		"1": true, "4": true, "(4 + 5)": true, "true": true, "false": true, "a": true, "c": true, "l": true, "!b": true, "-a": true, "read": false, "m.g()": false, "m.f(1, true, 2)": false,
		"!!b": true, "--1": true, "-read": false, "!(1 < read)": false, "-m.g()": false,
		"(a + (1 / 2))": false, "((1 % 2) + a)": false, "-(1 / 2)": false, "(a + (b + (c + l)))": true, "(a == -(1 + (2 * (3 % 4))))": false, "(1 + read)": false, "(read + 1)": false,
		"(m.g() * 2)": false, "(2 * m.g())": false,
	} {
		if a, id := returning(t, e); effect.Safe(a, id) != want {
			t.Errorf("Safe of %s: %v", e, !want)
		}
	}
	for op := int64(1); op <= 13; op++ {
		e := "(1 " + grammar.Sign(op) + " 2)"
		a, id := returning(t, e)
		if want := !strings.Contains("/ %", grammar.Sign(op)); effect.Safe(a, id) != want {
			t.Errorf("Safe of %s: %v", e, !want)
		}
	}
}

// TestSafeIsForExpressions: no other node is Safe.
func TestSafeIsForExpressions(t *testing.T) {
	a := parsed(t, "module m { func f(p int) int { let x int = 1; x = 2; if true { } else { } while true { } print 1; do m.f(1); return 1; } }")
	for id, n := range a.Walk(1) {
		want := n.Kind == arena.Int || n.Kind == arena.Bool
		if got := effect.Safe(a, id); got != want {
			t.Errorf("Safe of %d, kind %d: %v", id, n.Kind, got)
		}
		if got := effect.Stable(a, id); got != want {
			t.Errorf("Stable of %d, kind %d: %v", id, n.Kind, got)
		}
	}
	for _, id := range []api.ID{0, 1000} {
		if effect.Safe(a, id) || effect.Stable(a, id) {
			t.Errorf("%d is Safe or Stable", id)
		}
	}
}

const changing = "module m { func f(p int, q int) int { let x int = q; let y int = x; if true { x = p; } else { while true { let z int = p; let w int = z; z = w; } } return y; } func g(r int, s int) int { s = r; return 1; } }"

func TestFixed(t *testing.T) {
	a := parsed(t, changing)
	for id, n := range a.Walk(1) {
		want := n.Name != "" && strings.Contains("p q y w r", n.Name)
		if got := effect.Fixed(a, id); got != want {
			t.Errorf("Fixed of %d, %q: %v", id, n.Name, got)
		}
		if n.Kind != arena.Var {
			continue
		}
		v, _ := a.Get(n.Ref)
		if got, want := effect.Stable(a, id), strings.Contains("p q y w r", v.Name); got != want {
			t.Errorf("Stable of %q: %v", v.Name, got)
		}
	}
	for _, id := range []api.ID{0, 1000} {
		if effect.Fixed(a, id) {
			t.Errorf("%d is Fixed", id)
		}
	}
}

func TestStable(t *testing.T) {
	for e, want := range map[string]bool{
		"1": true, "true": true, "a": true, "b": true, "l": true, "c": false, "-a": true, "-c": false, "!b": true, "(a + l)": true, "(a + c)": false, "(c + a)": false, "((a + l) * -(1 - c))": false, "((a + l) * -(1 - l))": true,
		"read": false, "m.g()": false, "(a / 1)": false, "(a % 1)": false, "(a + (a / 1))": false, "(c < 1)": false, "(a < 1)": true,
	} {
		if a, id := returning(t, e); effect.Stable(a, id) != want {
			t.Errorf("Stable of %s: %v", e, !want)
		}
	}
}

// TestSizes compares with counts by hand.
func TestSizes(t *testing.T) {
	a := parsed(t, "module m { func f(p int) int { if (p < 1) { print -p; print 2; } else { } return m.f((p + 1)); } } module k { }")
	for id, want := range map[api.ID]int{
		1: 22, 2: 20, 3: 19, 4: 1, 5: 17, // Program, m, f, p, Block
		6: 11, 7: 3, 8: 1, 9: 1, // if, <, p, 1
		10: 6, 11: 3, 12: 2, 13: 1, 14: 2, 15: 1, 16: 1, // Block, print, -, p, print, 2, Block
		17: 5, 18: 4, 19: 3, 20: 1, 21: 1, 22: 1, // return, m.f, +, p, 1, k
		0: 0, 23: 0,
	} {
		if got := effect.Size(a, id); got != want {
			t.Errorf("Size of %d: %d, want %d", id, got, want)
		}
	}
	count := func(id api.ID, kind byte, want int) {
		t.Helper()
		if got := effect.Count(a, id, kind); got != want {
			t.Errorf("Count of kind %d below %d: %d, want %d", kind, id, got, want)
		}
	}
	count(1, arena.Program, 1)
	count(1, arena.Module, 2)
	count(2, arena.Module, 1)
	count(3, arena.Module, 0)
	count(1, arena.Block, 3)
	count(1, arena.Var, 3)
	count(6, arena.Var, 2)
	count(8, arena.Var, 1)
	count(17, arena.Var, 1)
	count(1, arena.Bin, 2)
	count(1, arena.Print, 2)
	count(14, arena.Print, 1)
	count(1, arena.While, 0)
	count(1, 0, 0)
	count(1, 99, 0)
	count(0, arena.Var, 0)
	count(1000, arena.Var, 0)
	count(1000, 0, 0)
}
