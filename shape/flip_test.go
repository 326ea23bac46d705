package shape_test

import (
	"math"
	"math/rand"
	"strings"
	"testing"

	"hourglass/api"
	"hourglass/arena"
	"hourglass/op"
	"hourglass/shape"
	"hourglass/text"
	"hourglass/trial"
)

// around returns a program in which a function with the parameters a and b has
// that body.
func around(body string) string {
	return "module main { func main() int { return main.f(read, (read < 3)); } func f(a int, b bool) int { " + body + " } func loud(x int) int { print x; return x; } }"
}

// wantBody expects a success, and a program around that body.
func wantBody(t *testing.T, what string, got trial.Result, body string) {
	t.Helper()
	trial.WantProgram(t, what, got, around(body))
}

// wantBehavior expects that a program does the same as before, with the same
// fuel.
func wantBehavior(t *testing.T, before, after *arena.Arena) {
	t.Helper()
	r := rand.New(rand.NewSource(1))
	for range 20 {
		trial.WantSameRuns(t, r.Intn, before, after)
	}
}

// flipped is a body, which of its if statements is flipped, and what it becomes.
type flipped struct {
	body  string
	which int
	want  string
}

func flips() []flipped {
	return []flipped{
		{"if b { print 1; } else { print 2; } return a;", 0, "if !b { print 2; } else { print 1; } return a;"},
		{"if !b { print 1; } else { print 2; } return a;", 0, "if b { print 2; } else { print 1; } return a;"},
		{"if !!b { print 1; } else { print 2; } return a;", 0, "if !b { print 2; } else { print 1; } return a;"},
		{"if !!!b { print 1; } else { print 2; } return a;", 0, "if !!b { print 2; } else { print 1; } return a;"},
		{"if (a < 3) { print 1; } else { print 2; } return a;", 0, "if !(a < 3) { print 2; } else { print 1; } return a;"},
		{"if !(a < 3) { print 1; } else { print 2; } return a;", 0, "if (a < 3) { print 2; } else { print 1; } return a;"},
		{"if (!b && b) { print 1; } else { print 2; } return a;", 0, "if !(!b && b) { print 2; } else { print 1; } return a;"},
		{"if true { print 1; } else { print 2; } return a;", 0, "if !true { print 2; } else { print 1; } return a;"},
		{"if (read == 0) { print read; } else { print -read; } return read;", 0, "if !(read == 0) { print -read; } else { print read; } return read;"},
		{"if ((7 / a) == 3) { print 1; } else { print 2; } return a;", 0, "if !((7 / a) == 3) { print 2; } else { print 1; } return a;"},
		{"if !(main.loud(a) < 3) { print 1; } else { print (1 % a); } return a;", 0, "if (main.loud(a) < 3) { print (1 % a); } else { print 1; } return a;"},
		{"if b { } else { print 1; } return a;", 0, "if !b { print 1; } else { } return a;"},
		{"if b { print 1; } else { } return a;", 0, "if !b { } else { print 1; } return a;"},
		{"if !b { } else { } return a;", 0, "if b { } else { } return a;"},
		{"if b { let x int = 1; print x; a = x; } else { let y bool = b; b = !y; do main.loud(2); } print b; return a;", 0, "if !b { let y bool = b; b = !y; do main.loud(2); } else { let x int = 1; print x; a = x; } print b; return a;"},
		{"if b { if !b { print 1; } else { print 2; } } else { print 3; } return a;", 0, "if !b { print 3; } else { if !b { print 1; } else { print 2; } } return a;"},
		{"if b { if !b { print 1; } else { print 2; } } else { print 3; } return a;", 1, "if b { if b { print 2; } else { print 1; } } else { print 3; } return a;"},
		{"if b { print 1; } else { print 2; if (a < 1) { print 3; } else { } print 4; } return a;", 1, "if b { print 1; } else { print 2; if !(a < 1) { } else { print 3; } print 4; } return a;"},
		{"print 1; if b { print 2; } else { print 3; } if b { print 4; } else { print 5; } return a;", 1, "print 1; if b { print 2; } else { print 3; } if !b { print 5; } else { print 4; } return a;"},
		{"while b { if (a < 4) { a = (a + 1); } else { b = false; } } return a;", 0, "while b { if !(a < 4) { b = false; } else { a = (a + 1); } } return a;"},
		{"if b { while !b { } print 1; } else { while (a < 2) { a = (a + 1); } } return a;", 0, "if !b { while (a < 2) { a = (a + 1); } } else { while !b { } print 1; } return a;"},
	}
}

func TestExample(t *testing.T) {
	a := trial.Right(t, around("if b { print 1; } else { print 2; } return 0;"))
	wantBody(t, "if", trial.Of(shape.Flip(a, trial.Kind(a, arena.If)[0], op.Fresh(1))), "if !b { print 2; } else { print 1; } return 0;")
}

func TestFlip(t *testing.T) {
	for _, c := range flips() {
		a := trial.Right(t, around(c.body))
		b := a.Copy()
		for _, stamp := range []uint32{1, math.MaxUint32} {
			got := trial.Of(shape.Flip(a, trial.Kind(a, arena.If)[c.which], op.Fresh(stamp)))
			wantBody(t, c.body, got, c.want)
			wantBehavior(t, a, got.Arena)
		}
		if !arena.Same(a, b) {
			t.Errorf("%s: the argument has changed", c.body)
		}
	}
}

// TestFlipWithSmallIDs: the new Not may have a smaller ID than all other nodes.
func TestFlipWithSmallIDs(t *testing.T) {
	for _, c := range flips() {
		a := trial.Moved(trial.Right(t, around(c.body)), 5000)
		wantBody(t, c.body, trial.Of(shape.Flip(a, trial.Kind(a, arena.If)[c.which], trial.One(2))), c.want)
	}
}

// TestFlippedNodes: the condition and the blocks stay the nodes that they are.
func TestFlippedNodes(t *testing.T) {
	a := trial.Right(t, "module main { func main() int { if (1 < 2) { print 3; } else { } return 4; } }")
	const choice, less, first, second = 5, 6, 9, 12
	for _, id := range []api.ID{100, 65537, math.MaxUint64} {
		s := trial.From(id, 200)
		want := trial.With(a, choice, func(n *api.Node) { n.Kids = []api.ID{id, second, first} })
		want.Put(id, api.Node{Kind: arena.Not, Kids: []api.ID{less}})
		b, e := shape.Flip(a, choice, s.Next)
		trial.WantArena(t, "Flip", trial.Of(b, e), want)
		c, e := shape.Flip(b, choice, s.Next)
		trial.WantArena(t, "Flip of Flip", trial.Of(c, e), a)
		if s.Asked != 1 {
			t.Errorf("%d new IDs", s.Asked)
		}
	}
}

// TestFlipTwice: the condition is the same again, and a Not is another node, if
// there is one.
func TestFlipTwice(t *testing.T) {
	for _, c := range flips() {
		a := trial.Right(t, around(c.body))
		id := trial.Kind(a, arena.If)[c.which]
		n, _ := a.Get(id)
		condition, _ := text.Expr(a, n.Kids[0])
		b, _ := shape.Flip(a, id, op.Fresh(1))
		d, e := shape.Flip(b, id, op.Fresh(2))
		switch {
		case strings.HasPrefix(condition, "!!"):
			wantBody(t, c.body, trial.Of(d, e), strings.Replace(c.body, "if !!", "if ", 1))
		case strings.HasPrefix(condition, "!"):
			if e != api.OK || !arena.Alike(d, a) || arena.Same(d, a) {
				t.Errorf("%s: error %d, or another program", c.body, e)
			}
		default:
			trial.WantArena(t, c.body, trial.Of(d, e), a)
		}
	}
}

// statements has all kinds of nodes.
const statements = "let x int = (a + main.loud(1)); while b { print read; b = false; } if b { a = -a; } else { do main.loud(2); } return (x % 2);"

func TestFlipErrors(t *testing.T) {
	a := trial.Right(t, around(statements))
	for _, id := range append(a.IDs(), 0, 1000, math.MaxUint64) {
		if n, _ := a.Get(id); n.Kind == arena.If {
			continue
		}
		s := trial.From(2000)
		trial.WantError(t, "no if", trial.Of(shape.Flip(a, id, s.Next)), api.ErrNone)
		trial.WantError(t, "no if, no function", trial.Of(shape.Flip(a, id, nil)), api.ErrNone)
		if s.Asked > 0 {
			t.Error("fresh was called, although there is nothing to flip")
		}
	}
}

func TestFlipFull(t *testing.T) {
	a := trial.Right(t, around("if b { print 1; } else { print 2; } return a;"))
	id := trial.Kind(a, arena.If)[0]
	for _, other := range append(a.IDs(), 0) {
		trial.WantError(t, "an ID that exists", trial.Of(shape.Flip(a, id, trial.One(other))), api.ErrFull)
	}
	trial.WantError(t, "no ID", trial.Of(shape.Flip(a, id, trial.From().Next)), api.ErrFull)
	trial.WantError(t, "the stamp 0", trial.Of(shape.Flip(a, id, op.Fresh(0))), api.ErrFull)
	trial.WantError(t, "no function", trial.Of(shape.Flip(a, id, nil)), api.ErrFull)
	trial.WantError(t, "an ID beside false", trial.Of(shape.Flip(a, id, func() (api.ID, bool) { return 1000, false })), api.ErrFull)
}

// TestFlipOfNot: no ID is needed.
func TestFlipOfNot(t *testing.T) {
	for _, c := range flips() {
		a := trial.Right(t, around(c.body))
		id := trial.Kind(a, arena.If)[c.which]
		n, _ := a.Get(id)
		if not, _ := a.Get(n.Kids[0]); not.Kind != arena.Not {
			continue
		}
		s := trial.From()
		wantBody(t, c.body, trial.Of(shape.Flip(a, id, s.Next)), c.want)
		wantBody(t, c.body, trial.Of(shape.Flip(a, id, nil)), c.want)
		if s.Asked > 0 {
			t.Error("fresh was called")
		}
	}
}

// TestFlipTooDeep: a program cannot be nested more deeply than layer 9 reads.
func TestFlipTooDeep(t *testing.T) {
	deep := func(e string, signs int) string { return "(0 < " + strings.Repeat("-", signs) + e + ")" }
	flip := func(condition string, ids ...api.ID) trial.Result {
		a := trial.Right(t, around("if "+condition+" { print 1; } else { print 2; } return a;"))
		return trial.Of(shape.Flip(a, trial.Kind(a, arena.If)[0], trial.From(ids...).Next))
	}
	const end = " { print 2; } else { print 1; } return a;"
	wantBody(t, "88 signs", flip(deep("a", 88), 1000), "if !"+deep("a", 88)+end)
	trial.WantError(t, "89 signs", flip(deep("a", 89), 1000), api.ErrForm)
	trial.WantError(t, "89 signs, and no ID", flip(deep("a", 89)), api.ErrFull)
	wantBody(t, "a Not", flip("!"+deep("a", 88)), "if "+deep("a", 88)+end)
}

func TestFlipRoom(t *testing.T) {
	for _, c := range []struct {
		condition string
		size, now int
		want      api.Errno
	}{
		{"true", api.MaxNodes - 1, api.MaxNodes, api.OK},
		{"true", api.MaxNodes, 0, api.ErrFull},
		{"!true", api.MaxNodes, api.MaxNodes - 1, api.OK},
	} {
		a := trial.Crowd(t, "module main { func main() int { if "+c.condition+" { } else { }", c.size)
		b, e := shape.Flip(a, trial.Kind(a, arena.If)[0], op.Fresh(1))
		if e != c.want || b.Len() != c.now {
			t.Errorf("%s in %d nodes: error %d, %d nodes", c.condition, c.size, e, b.Len())
		}
	}
}
