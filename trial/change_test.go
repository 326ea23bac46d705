package trial_test

import (
	"math/rand"
	"slices"
	"testing"

	"hourglass/api"
	"hourglass/arena"
	"hourglass/check"
	"hourglass/text"
	"hourglass/trial"
)

const sum = "let x int = (1 + 2); while (x < 3) { x = (x + 1); } return -x;"

func TestFind(t *testing.T) {
	a := trial.Right(t, within(sum)) // 5 the Let, 6 the sum, 10 the condition
	if trial.Named(t, a, "main") != 2 || trial.Named(t, a, "x") != 5 || trial.Find(t, a, "(1 + 2)") != 6 || trial.Find(t, a, "x") != 11 {
		t.Error("something else was found")
	}
	wantTold(t, "no name", true, func(c *counter) { trial.Named(c, a, "y") })
	wantTold(t, "no expression", true, func(c *counter) { trial.Find(c, a, "y") })
	if got := trial.Kind(a, arena.Var); len(got) != 3 || got[0] != 11 || len(trial.Kind(a, arena.Call)) > 0 {
		t.Error(got)
	}
}

func TestWrongs(t *testing.T) {
	program := within(sum)
	a := trial.Right(t, program)
	errors := map[api.Errno]int{}
	for _, w := range trial.Wrongs(t, program) {
		errors[check.Right(w.Arena)]++
		if _, e := text.Print(w.Arena); e != api.OK || w.Arena.Len() == 1 {
			continue // it has no shape, or only a root
		}
		for id := range a.Walk(2) {
			if _, ok := w.Arena.Get(id); !ok {
				t.Errorf("%s: there is no node %d", w.Why, id)
			}
		}
	}
	for _, e := range []api.Errno{api.ErrForm, api.ErrClash, api.ErrName, api.ErrType, api.ErrNone} {
		if errors[e] == 0 {
			t.Errorf("no arena with error %d", e)
		}
	}
	if errors[api.OK] > 0 {
		t.Error("an arena is right")
	}
}

func TestGarbled(t *testing.T) {
	r := rand.New(rand.NewSource(1))
	a := trial.Right(t, within(sum))
	before := a.Copy()
	wrong := 0
	for range 100 {
		if check.Right(trial.Garbled(r.Intn, a)) != api.OK {
			wrong++
		}
		if id := trial.Some(r.Intn, a); id > api.ID(a.Len()+1) {
			t.Error(id)
		}
	}
	if wrong < 50 || wrong == 100 || !arena.Same(a, before) {
		t.Error(wrong)
	}
}

func TestWantForm(t *testing.T) {
	r := rand.New(rand.NewSource(1))
	for what, c := range map[string]struct {
		told bool
		call func(a *arena.Arena) (*arena.Arena, api.Errno)
	}{
		"as promised": {false, func(a *arena.Arena) (*arena.Arena, api.Errno) {
			if check.Right(a) != api.OK {
				return nil, api.ErrForm
			}
			return a.Copy(), api.OK
		}},
		"always an error":      {false, func(a *arena.Arena) (*arena.Arena, api.Errno) { return nil, api.ErrForm }},
		"another error":        {true, func(a *arena.Arena) (*arena.Arena, api.Errno) { return nil, check.Right(a) }},
		"never an error":       {true, func(a *arena.Arena) (*arena.Arena, api.Errno) { return a.Copy(), api.OK }},
		"an arena and ErrForm": {true, func(a *arena.Arena) (*arena.Arena, api.Errno) { return a.Copy(), api.ErrForm }},
	} {
		wantTold(t, what, c.told, func(w *counter) {
			trial.WantForm(w, r.Intn, within(sum), func(a *arena.Arena, some func() api.ID) map[string]trial.Result {
				if id := some(); id > api.ID(a.Len()+1) {
					t.Error(id)
				}
				return map[string]trial.Result{"it": trial.Of(c.call(a))}
			})
		})
	}
}

func TestChanger(t *testing.T) {
	r := rand.New(rand.NewSource(1))
	c := trial.Changer{Below: r.Intn, Arena: trial.Right(t, within(sum))}
	picked, lengths := map[byte]int{}, map[int]int{}
	for range 1000 {
		n, _ := c.Arena.Get(c.Pick(arena.Var, arena.Let))
		picked[n.Kind]++
		s, other := c.Sources()
		lengths[len(s.IDs)]++
		if !slices.Equal(s.IDs, other.IDs) {
			t.Error("two rows of IDs")
		}
	}
	if picked[arena.Var]+picked[arena.Let] < 800 || picked[arena.Let] == 0 || picked[arena.Bin] == 0 || picked[0] == 0 || lengths[0] == 0 || lengths[200] < 500 {
		t.Error(picked, lengths)
	}
	if got := c.One("a"); got != "a" {
		t.Error(got)
	}
}

// TestRandomly: what calls do wrong is told.
func TestRandomly(t *testing.T) {
	r := rand.New(rand.NewSource(1))
	more := func(a *arena.Arena) trial.Result {
		b := a.Copy()
		root, _ := b.Get(1)
		id := slices.Max(b.IDs()) + 1
		b.Put(id, api.Node{Kind: arena.Module, Name: "more"})
		root.Kids = append(root.Kids, id)
		b.Put(1, root)
		return trial.Of(b, api.OK)
	}
	same := func(a *arena.Arena) trial.Result { return trial.Of(a.Copy(), api.OK) }
	failure := func(e api.Errno) func(*arena.Arena) trial.Result {
		return func(*arena.Arena) trial.Result { return trial.Fail(e) }
	}
	for what, c := range map[string]struct {
		got, want func(a *arena.Arena) trial.Result
		told      bool
	}{
		"the same":        {same, same, false},
		"another program": {more, same, true},
		"an error":        {failure(api.ErrName), failure(api.ErrName), false},
		"another error":   {failure(api.ErrName), failure(api.ErrNone), true},
		"no error":        {same, failure(api.ErrNone), true},
	} {
		wantTold(t, what, c.told, func(w *counter) {
			compared := 0
			counts := trial.Randomly(w, r.Intn, 8, func(change trial.Changer) trial.Call {
				return trial.Call{Name: "it", Got: c.got(change.Arena), Want: c.want(change.Arena)}
			}, func(before, after *arena.Arena) { compared++ })
			if counts["it"][api.OK] != compared || len(counts["it"]) != 1 {
				t.Errorf("%s: %v, %d were compared", what, counts, compared)
			}
		})
	}
	wantTold(t, "a changed argument", true, func(w *counter) {
		trial.Randomly(w, r.Intn, 8, func(change trial.Changer) trial.Call {
			change.Arena.Put(1, api.Node{})
			return trial.Call{Got: trial.Fail(api.ErrArg), Want: trial.Fail(api.ErrArg)}
		}, func(before, after *arena.Arena) {})
	})
}

func TestCounts(t *testing.T) {
	counts := trial.Counts{"it": {api.OK: 3, api.ErrName: 2}}
	wantTold(t, "enough", false, func(c *counter) { counts.Want(c, "it", 2, api.OK, api.ErrName) })
	wantTold(t, "too few", true, func(c *counter) { counts.Want(c, "it", 3, api.OK, api.ErrName) })
	wantTold(t, "none", true, func(c *counter) { counts.Want(c, "it", 1, api.ErrNone) })
	wantTold(t, "no call", true, func(c *counter) { counts.Want(c, "other", 1, api.OK) })
}

func TestWantSameRuns(t *testing.T) {
	r := rand.New(rand.NewSource(1))
	for _, c := range []struct {
		a, b string
		told bool
	}{
		{"return 1;", "return 1;", false},
		{"return (1 + 2);", "return 3;", false},
		{"return 1;", "return 2;", true},
		{"print 1; return 1;", "print 2; return 1;", true},
		{"return 0;", "return (read * 0);", true},
		{"return 0;", "let x int = 0; return x;", true},
		{"while true { print 1; } return 1;", "while true { print 1; } return 2;", false},
	} {
		a, b := trial.Right(t, within(c.a)), trial.Right(t, within(c.b))
		wantTold(t, c.a+" "+c.b, c.told, func(w *counter) { trial.WantSameRuns(w, r.Intn, a, b) })
	}
}

// TestNodesChange: 5 is the Return, 6 the sum, 7 the 1, 8 the Neg, 9 the 2.
func TestNodesChange(t *testing.T) {
	m := trial.NodesOf(trial.Right(t, within("return (1 + -2);")))
	kids := func(id api.ID, want ...api.ID) {
		t.Helper()
		if !slices.Equal(m[id].Kids, want) {
			t.Errorf("the children of %d are %d, want %d", id, m[id].Kids, want)
		}
	}
	m.Replace(7, 9)
	kids(6, 9, 8)
	m.Off(8)
	kids(6, 9)
	m.Join(6, 7)
	kids(6, 9, 7)
	m.Set(6, 7, 8)
	kids(6, 7, 8)
	s := &trial.Source{IDs: []api.ID{20, 21, 22, 23, 8, 0}}
	id, ok := m.Clone(6, nil, s)
	kids(23, 20, 22)
	kids(22, 21)
	if id != 23 || !ok || m[23].Kind != arena.Bin || m[20].Num != 1 || m[21].Num != 2 {
		t.Error(id, ok, m)
	}
	for range 3 { // an ID that exists, 0, and none
		if id, ok := m.Add(api.Node{}, s); id != 0 || ok {
			t.Error(id, ok)
		}
	}
	m.Drop(8)
	if m.Has(8) || m.Has(9) || !m.Has(7) || len(m) != 9-2+4 {
		t.Error(m)
	}
}

func TestNodesTell(t *testing.T) {
	a := trial.Right(t, within("print ((1 + 2) / 3); print (1 % 2); print -read; print main.main(); let x int = 1; return (x * 2);"))
	m := trial.NodesOf(a)
	for printed, safe := range map[string]bool{"((1 + 2) / 3)": false, "(1 + 2)": true, "(1 % 2)": false, "-read": false, "main.main()": false, "(x * 2)": true, "x": true} {
		if id := trial.Find(t, a, printed); m.IsSafe(id) != safe || !m.IsExpression(id) {
			t.Error(printed)
		}
	}
	if m.IsExpression(1) || m.IsExpression(trial.Named(t, a, "x")) || m.IsExpression(1000) {
		t.Error("no expression")
	}
	v := trial.Find(t, a, "x")
	id, ok := m.Clone(v, map[api.ID]api.ID{trial.Named(t, a, "x"): trial.Find(t, a, "(1 + 2)")}, &trial.Source{IDs: []api.ID{50, 51, 52}})
	if id != 52 || !ok || m[52].Kind != arena.Bin || !slices.Equal(m[52].Kids, []api.ID{50, 51}) {
		t.Error(id, ok, m[52])
	}
	m.Set(52, 52)
	if id, ok := m.Clone(52, nil, &trial.Source{IDs: []api.ID{60, 61}}); id != 0 || ok {
		t.Error("a clone of what is below itself")
	}
}
