package trial_test

import (
	"math/rand"
	"slices"
	"testing"

	"hourglass/api"
	"hourglass/arena"
	"hourglass/token"
	"hourglass/trial"
)

// counter is a T that counts what is told to it, and goes on.
type counter struct {
	told int
}

func (c *counter) Helper()               {}
func (c *counter) Failed() bool          { return c.told > 0 }
func (c *counter) Errorf(string, ...any) { c.told++ }
func (c *counter) Fatalf(string, ...any) { c.told++ }

// wantTold expects that something is told, or not.
func wantTold(t *testing.T, what string, told bool, do func(c *counter)) {
	t.Helper()
	c := &counter{}
	do(c)
	if (c.told > 0) != told {
		t.Errorf("%s: told %d times", what, c.told)
	}
}

func within(body string) string {
	return "module main { func main() int { " + body + " } }"
}

func TestPrograms(t *testing.T) {
	for s, bad := range map[string]struct{ text, program bool }{
		within("return 1;"):    {false, false},
		within("return true;"): {false, true},
		within("return x;"):    {true, true},
		"module":               {true, true},
	} {
		wantTold(t, "Parsed of "+s, bad.text, func(c *counter) { trial.Parsed(c, s) })
		wantTold(t, "Right of "+s, bad.program, func(c *counter) { trial.Right(c, s) })
	}
}

func TestScattered(t *testing.T) {
	r := rand.New(rand.NewSource(1))
	a := trial.Right(t, within("let x int = (1 + 2); while (x < 3) { x = (x + 1); } return main.main();"))
	for range 100 {
		if b := trial.Scattered(r.Intn, a); !arena.Alike(a, b) || arena.Same(a, b) {
			t.Fatal(b.IDs())
		}
	}
}

func TestMoved(t *testing.T) {
	a := trial.Right(t, within("let x int = (1 + 2); return x;"))
	b := trial.Moved(a, 100)
	want := []api.ID{1}
	for _, id := range a.IDs()[1:] {
		want = append(want, id+100)
	}
	if got := b.IDs(); !slices.Equal(got, want) || !arena.Alike(a, b) {
		t.Error(got)
	}
}

func TestCrowd(t *testing.T) {
	for _, size := range []int{20, 21, 1000, api.MaxNodes} {
		if a := trial.Crowd(t, "module main { func main() int {", size); a.Len() != size {
			t.Error(size, a.Len())
		}
	}
	wantTold(t, "too small", true, func(c *counter) { trial.Crowd(c, "module main { func main() int {", 7) })
}

func TestNoNames(t *testing.T) {
	for _, s := range trial.NoNames() {
		if token.IsName(s) {
			t.Error(s)
		}
	}
}

func TestSource(t *testing.T) {
	s := trial.From(7, 5)
	for i, want := range []api.ID{7, 5, 0, 0} {
		if id, ok := s.Next(); id != want || ok != (want > 0) || s.Asked != i+1 {
			t.Error(i, id, ok, s.Asked)
		}
	}
}

func TestRow(t *testing.T) {
	if got := trial.Row(7, 3); !slices.Equal(got, []api.ID{7, 8, 9}) || len(trial.Row(1, 0)) > 0 {
		t.Error(got)
	}
}

func TestWant(t *testing.T) {
	const program = "module main {\n\tfunc main() int {\n\t\treturn 1;\n\t}\n}\n"
	a := trial.Right(t, program)
	b := trial.With(a, 6, func(n *api.Node) { n.Num++ })
	failure := trial.Of(nil, api.ErrName)
	wantTold(t, "an error", false, func(c *counter) { trial.WantError(c, "", failure, api.ErrName) })
	wantTold(t, "another error", true, func(c *counter) { trial.WantError(c, "", failure, api.ErrArg) })
	wantTold(t, "an arena beside an error", true, func(c *counter) { trial.WantError(c, "", trial.Of(a, api.ErrArg), api.ErrArg) })
	wantTold(t, "an arena", false, func(c *counter) { trial.WantArena(c, "", trial.Of(a, api.OK), a.Copy()) })
	wantTold(t, "another arena", true, func(c *counter) { trial.WantArena(c, "", trial.Of(a, api.OK), b) })
	wantTold(t, "an error, for an arena", true, func(c *counter) { trial.WantArena(c, "", failure, a) })
	wantTold(t, "a text", false, func(c *counter) { trial.WantText(c, "", trial.Of(a, api.OK), program) })
	wantTold(t, "another text", true, func(c *counter) { trial.WantText(c, "", trial.Of(b, api.OK), program) })
	wantTold(t, "an error, for a text", true, func(c *counter) { trial.WantText(c, "", failure, program) })
	wantTold(t, "a program", false, func(c *counter) { trial.WantProgram(c, "", trial.Of(a, api.OK), within("return 1;")) })
	wantTold(t, "another program", true, func(c *counter) { trial.WantProgram(c, "", trial.Of(b, api.OK), program) })
	wantTold(t, "an error, for a program", true, func(c *counter) { trial.WantProgram(c, "", failure, program) })
	wantTold(t, "the error of a model", false, func(c *counter) { trial.WantResult(c, "", failure, trial.Fail(api.ErrName)) })
	wantTold(t, "another error than a model's", true, func(c *counter) { trial.WantResult(c, "", failure, trial.Fail(api.ErrArg)) })
	wantTold(t, "an arena for a model's error", true, func(c *counter) { trial.WantResult(c, "", trial.Of(a, api.OK), failure) })
	wantTold(t, "the arena of a model", false, func(c *counter) { trial.WantResult(c, "", trial.Of(a, api.OK), trial.NodesOf(a).End()) })
	wantTold(t, "another arena than a model's", true, func(c *counter) { trial.WantResult(c, "", trial.Of(b, api.OK), trial.NodesOf(a).End()) })
	wantTold(t, "an error for a model's arena", true, func(c *counter) { trial.WantResult(c, "", failure, trial.NodesOf(a).End()) })
}

func TestWantNew(t *testing.T) {
	var kept *arena.Arena
	for what, c := range map[string]struct {
		told bool
		call func(a *arena.Arena) (*arena.Arena, api.Errno)
	}{
		"a copy":              {false, func(a *arena.Arena) (*arena.Arena, api.Errno) { return a.Copy(), api.OK }},
		"an error":            {true, func(a *arena.Arena) (*arena.Arena, api.Errno) { return nil, api.ErrName }},
		"the argument itself": {true, func(a *arena.Arena) (*arena.Arena, api.Errno) { return a, api.OK }},
		"a changed argument":  {true, func(a *arena.Arena) (*arena.Arena, api.Errno) { b := a.Copy(); a.Drop(6); return b, api.OK }},
		"the same again": {true, func(a *arena.Arena) (*arena.Arena, api.Errno) {
			if kept == nil {
				kept = a.Copy()
			}
			return kept, api.OK
		}},
	} {
		wantTold(t, what, c.told, func(w *counter) { trial.WantNew(w, "", trial.Right(t, within("return 1;")), c.call) })
	}
}

func TestNodes(t *testing.T) {
	a := trial.Right(t, within("return (1 + -2);")) // 5 the Return, 6 the sum, 7 the 1, 8 the Neg, 9 the 2
	m := trial.NodesOf(a)
	if got := trial.NodesOf(trial.With(a, 9, func(n *api.Node) { n.Num = -1 })).End(); got.Arena != nil || got.Error != api.ErrForm {
		t.Error(got)
	}
	if !arena.Same(m.Arena(), a) || !slices.Equal(m.Below(6), []api.ID{6, 7, 8, 9}) {
		t.Error(m, m.Below(6))
	}
	for id := range a.Walk(1) {
		want, place := a.Parent(id)
		if got, at := m.Parent(id); got != want || at != place {
			t.Error(id, got, at, want, place)
		}
	}
}

// TestWantAlike compares programs with each other.
func TestWantAlike(t *testing.T) {
	const endless = "while true { } return 1;"
	const longer = "print read; let x int = 1; let y int = 1; return x;"
	for _, c := range []struct {
		a, b  string
		times int
		told  bool
	}{
		{"return 1;", "return 1;", 1, false},
		{"return 1;", "return 2;", 1, true},
		{"print 1; return 1;", "print 2; return 1;", 1, true},
		{"return 0;", "return (read * 0);", 1, true},
		{"return 1;", "return (1 / 0);", 1, true},
		{"print read; return 1;", longer, 1, true},
		{"print read; return 1;", longer, 2, false},
		{endless, endless, 2, false},
		{endless, "return 1;", 2, true},
	} {
		a, b := trial.Right(t, within(c.a)), trial.Right(t, within(c.b))
		wantTold(t, c.a+" "+c.b, c.told, func(w *counter) { trial.WantAlike(w, a, b, []int64{3}, 1000, c.times) })
		wantTold(t, c.b+" "+c.a, c.told, func(w *counter) { trial.WantAlike(w, b, a, []int64{3}, 1000, c.times) })
	}
}

func TestInput(t *testing.T) {
	r := rand.New(rand.NewSource(1))
	lengths := map[int]int{}
	for range 200 {
		lengths[len(trial.Input(r.Intn))]++
	}
	if len(lengths) != 8 {
		t.Error(lengths)
	}
}
