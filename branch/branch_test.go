package branch_test

import (
	"math"
	"slices"
	"strings"
	"testing"

	"hourglass/api"
	"hourglass/arena"
	"hourglass/branch"
	"hourglass/op"
	"hourglass/past"
	"hourglass/trial"
)

// started returns a book of Little.
func started(t *testing.T) *branch.Book {
	t.Helper()
	b, e := branch.New(trial.Right(t, trial.Little))
	if b == nil || e != api.OK {
		t.Fatalf("New: %v, error %d", b, e)
	}
	return b
}

func wantNow(t *testing.T, b *branch.Book, program string) {
	t.Helper()
	trial.WantProgram(t, "Now", trial.Of(b.Now(), api.OK), program)
}

// wantNames expects branches, of which the first one that is given is the
// current one.
func wantNames(t *testing.T, b *branch.Book, stamp uint32, current string, names ...string) {
	t.Helper()
	if b.Current() != current || b.Stamp() != stamp || !slices.Equal(b.Names(), names) {
		t.Errorf("%s, %d, %q, want %s, %d, %q", b.Current(), b.Stamp(), b.Names(), current, stamp, names)
	}
}

// wantPast expects the entries of a branch.
func wantPast(t *testing.T, b *branch.Book, name string, frozen uint32, entries ...past.Entry) {
	t.Helper()
	p := b.Past(name)
	if p == nil || p.Frozen() != frozen || !slices.Equal(p.All(), entries) {
		t.Errorf("%s: %d, %v, want %d, %v", name, p.Frozen(), p.All(), frozen, entries)
	}
}

func live(stamp uint32, o op.Op) past.Entry {
	return past.Entry{Stamp: stamp, Op: o, Live: true}
}

func dead(stamp uint32, o op.Op) past.Entry {
	return past.Entry{Stamp: stamp, Op: o}
}

// wantUnchanged expects that calls leave a book as it is.
func wantUnchanged(t *testing.T, b *branch.Book, calls func()) {
	t.Helper()
	before := b.Copy()
	calls()
	if !branch.Same(b, before) || !arena.Same(b.Now(), before.Now()) {
		t.Error("the book has changed")
	}
}

func TestExample(t *testing.T) {
	b := started(t)
	trial.Fork(t, b, "x")
	trial.Do(t, b, 1, trial.Rename("k"))
	wantNow(t, b, trial.LittleNamed("k"))
	trial.Switch(t, b, "x")
	wantNow(t, b, trial.Little)
}

func TestNew(t *testing.T) {
	a := trial.Right(t, trial.Little)
	b := started(t)
	wantNames(t, b, 0, "trunk", "trunk")
	wantPast(t, b, "trunk", 0)
	if p, _ := past.New(a, 0); !past.Same(b.Past("trunk"), p) || !arena.Same(b.Now(), a) {
		t.Error("the past is not New")
	}
	for _, w := range trial.Wrongs(t, trial.Little) {
		if b, e := branch.New(w.Arena); b != nil || e != api.ErrForm {
			t.Errorf("%s: %v, error %d, want ErrForm", w.Why, b, e)
		}
	}
}

func TestDo(t *testing.T) {
	b := started(t)
	trial.Do(t, b, 1, trial.Add("x"))
	trial.Do(t, b, 2, trial.Rename("k"))
	wantNames(t, b, 2, "trunk", "trunk")
	wantUnchanged(t, b, func() {
		trial.WantDo(t, b, trial.Rename("main"), api.ErrClash)
		trial.WantDo(t, b, trial.Drop(3), api.ErrNone)
		trial.WantDo(t, b, op.Op{}, api.ErrArg)
		trial.WantDo(t, b, op.Op{Kind: op.RenameModule, A: 2, Name: "if"}, api.ErrArg)
		trial.WantDo(t, b, op.Op{Kind: op.DropModule, A: 2}, api.ErrUsed)
	})
	trial.Do(t, b, 3, trial.Drop(1))
	wantPast(t, b, "trunk", 0, live(1, trial.Add("x")), live(2, trial.Rename("k")), live(3, trial.Drop(1)))
	wantNow(t, b, trial.LittleNamed("k"))
}

// TestStamps: each is given once, whatever the branch.
func TestStamps(t *testing.T) {
	b := started(t)
	trial.Fork(t, b, "x")
	trial.Do(t, b, 1, trial.Add("a"))
	trial.Switch(t, b, "x")
	trial.Do(t, b, 2, trial.Add("a"))
	trial.Switch(t, b, "trunk")
	trial.WantDo(t, b, trial.Add("a"), api.ErrClash)
	trial.Do(t, b, 3, trial.Add("b"))
	trial.WantUndo(t, b, 3, 0, api.OK)
	trial.Do(t, b, 4, trial.Add("b"))
	trial.Fork(t, b, "y")
	trial.Switch(t, b, "y")
	trial.Do(t, b, 5, trial.Add("c"))
	wantPast(t, b, "trunk", 0, live(1, trial.Add("a")), dead(3, trial.Add("b")), live(4, trial.Add("b")))
	wantPast(t, b, "x", 0, live(2, trial.Add("a")))
	wantPast(t, b, "y", 0, live(1, trial.Add("a")), dead(3, trial.Add("b")), live(4, trial.Add("b")), live(5, trial.Add("c")))
	wantNames(t, b, 5, "y", "trunk", "x", "y")
}

func TestUndoAndRedo(t *testing.T) {
	b := started(t)
	trial.Do(t, b, 1, trial.Add("x"))
	trial.Fork(t, b, "other")
	trial.Do(t, b, 2, op.Op{Kind: op.RenameModule, A: trial.Made(1), Name: "y"})
	trial.Do(t, b, 3, trial.Rename("x"))
	wantUnchanged(t, b, func() {
		trial.WantUndo(t, b, 1, 2, api.ErrNone)
		trial.WantUndo(t, b, 2, 3, api.ErrClash)
		trial.WantUndo(t, b, 4, 0, api.ErrUnknown)
		trial.WantUndo(t, b, 0, 0, api.ErrUnknown)
		trial.WantRedo(t, b, 3, 0, api.ErrLive)
		trial.WantRedo(t, b, 4, 0, api.ErrUnknown)
	})
	trial.WantUndo(t, b, 3, 0, api.OK)
	trial.WantUndo(t, b, 2, 0, api.OK)
	trial.WantUndo(t, b, 2, 0, api.ErrDead)
	trial.WantRedo(t, b, 3, 3, api.ErrClash)
	trial.WantRedo(t, b, 2, 0, api.OK)
	wantNow(t, b, trial.Little+" module y { }")
	wantPast(t, b, "other", 0, live(1, trial.Add("x")))
	trial.Switch(t, b, "other")
	trial.WantUndo(t, b, 2, 0, api.ErrUnknown)
	trial.WantUndo(t, b, 1, 0, api.OK)
	wantNow(t, b, trial.Little)
	wantNames(t, b, 3, "other", "trunk", "other")
	b.Freeze()
	trial.WantUndo(t, b, 1, 0, api.ErrFrozen)
	trial.WantRedo(t, b, 3, 0, api.ErrFrozen)
}

func TestFork(t *testing.T) {
	b := started(t)
	trial.Do(t, b, 1, trial.Add("x"))
	trial.Do(t, b, 2, trial.Rename("k"))
	trial.WantUndo(t, b, 1, 0, api.OK)
	trial.Fork(t, b, "x")
	wantNames(t, b, 2, "trunk", "trunk", "x")
	for _, name := range []string{"trunk", "x"} {
		wantPast(t, b, name, 0, dead(1, trial.Add("x")), live(2, trial.Rename("k")))
	}
	trial.Switch(t, b, "x")
	trial.Do(t, b, 3, trial.Add("z"))
	trial.Fork(t, b, "Trunk")
	trial.Switch(t, b, "trunk")
	trial.Do(t, b, 4, trial.Rename("l"))
	wantNames(t, b, 4, "trunk", "trunk", "x", "Trunk")
	wantPast(t, b, "trunk", 0, dead(1, trial.Add("x")), live(2, trial.Rename("k")), live(4, trial.Rename("l")))
	for _, name := range []string{"Trunk", "x"} {
		wantPast(t, b, name, 0, dead(1, trial.Add("x")), live(2, trial.Rename("k")), live(3, trial.Add("z")))
	}
}

func TestForkErrors(t *testing.T) {
	b := started(t)
	trial.Fork(t, b, "x")
	wantUnchanged(t, b, func() {
		for _, name := range trial.NoNames() {
			trial.WantErrno(t, name, b.Fork(name), api.ErrName)
		}
		trial.WantErrno(t, "x", b.Fork("x"), api.ErrBranch)
		trial.WantErrno(t, "trunk", b.Fork("trunk"), api.ErrBranch)
	})
	for i := range api.MaxBranch - 2 {
		trial.Fork(t, b, strings.Repeat("n", api.MaxName-i))
	}
	wantUnchanged(t, b, func() {
		trial.WantErrno(t, "one more", b.Fork("y"), api.ErrFull)
		trial.WantErrno(t, "the same as one", b.Fork("x"), api.ErrBranch)
		trial.WantErrno(t, "no name", b.Fork("if"), api.ErrName)
	})
	if len(b.Names()) != api.MaxBranch {
		t.Error(b.Names())
	}
}

func TestSwitch(t *testing.T) {
	b := started(t)
	trial.Fork(t, b, "x")
	trial.Fork(t, b, "y")
	for _, name := range []string{"y", "y", "trunk", "x", "trunk"} {
		trial.Switch(t, b, name)
		wantNames(t, b, 0, name, "trunk", "x", "y")
	}
	wantUnchanged(t, b, func() {
		for _, name := range append(trial.NoNames(), "z", "Trunk", "xy") {
			trial.WantErrno(t, name, b.Switch(name), api.ErrNone)
		}
	})
}

func TestMerge(t *testing.T) {
	b := started(t)
	trial.Do(t, b, 1, trial.Add("a"))
	trial.Do(t, b, 2, trial.Add("b"))
	trial.Fork(t, b, "x")
	trial.WantUndo(t, b, 2, 0, api.OK) // which the current branch has, though it is dead
	trial.Do(t, b, 3, trial.Add("c"))
	trial.Switch(t, b, "x")
	trial.Do(t, b, 4, trial.Add("d"))
	trial.Do(t, b, 5, trial.Add("e"))
	trial.Do(t, b, 6, trial.Drop(4))
	trial.WantUndo(t, b, 5, 0, api.OK)
	trial.Switch(t, b, "trunk")
	trial.WantMerge(t, b, "x", 0, api.OK)
	want := []past.Entry{live(1, trial.Add("a")), dead(2, trial.Add("b")), live(3, trial.Add("c")), live(4, trial.Add("d")), live(6, trial.Drop(4))}
	wantPast(t, b, "trunk", 0, want...)
	wantNames(t, b, 6, "trunk", "trunk", "x")
	wantUnchanged(t, b, func() { trial.WantMerge(t, b, "x", 0, api.OK) }) // nothing is missing
	wantNow(t, b, trial.Little+" module a { } module c { }")
	trial.Switch(t, b, "x")
	wantPast(t, b, "x", 0, live(1, trial.Add("a")), live(2, trial.Add("b")), live(4, trial.Add("d")), dead(5, trial.Add("e")), live(6, trial.Drop(4)))
	trial.WantMerge(t, b, "trunk", 0, api.OK)
	wantNow(t, b, trial.Little+" module a { } module b { } module c { }")
	trial.Do(t, b, 7, trial.Drop(3)) // a stamp above all others, although 3 is the last entry
	trial.WantRedo(t, b, 5, 0, api.OK)
	trial.Switch(t, b, "trunk")
	trial.WantMerge(t, b, "x", 0, api.OK)
	wantPast(t, b, "trunk", 0, append(want, live(5, trial.Add("e")), live(7, trial.Drop(3)))...)
}

func TestMergeErrors(t *testing.T) {
	b := started(t)
	trial.Do(t, b, 1, trial.Add("a"))
	trial.Fork(t, b, "x")
	trial.WantUndo(t, b, 1, 0, api.OK)
	trial.Do(t, b, 2, trial.Add("b"))
	trial.Switch(t, b, "x")
	trial.Do(t, b, 3, trial.Add("c"))
	trial.Do(t, b, 4, trial.Drop(1))
	wantUnchanged(t, b, func() {
		trial.WantMerge(t, b, "y", 0, api.ErrNone)
		trial.WantMerge(t, b, "", 0, api.ErrNone)
		trial.WantMerge(t, b, "if", 0, api.ErrNone)
		trial.WantMerge(t, b, "x", 0, api.ErrBranch)
	})
	trial.Switch(t, b, "trunk")
	wantUnchanged(t, b, func() {
		trial.WantMerge(t, b, "x", 4, api.ErrNone) // 1, which made what 4 drops, is dead here
		trial.WantMerge(t, b, "trunk", 0, api.ErrBranch)
	})
	trial.Do(t, b, 5, trial.Add("c"))
	wantUnchanged(t, b, func() { trial.WantMerge(t, b, "x", 3, api.ErrClash) })
}

// many makes so many operations.
func many(t *testing.T, b *branch.Book, count int) {
	t.Helper()
	for i := range count {
		trial.Do(t, b, b.Stamp()+1, trial.Rename([]string{"k", "l"}[i%2]))
	}
}

func TestFull(t *testing.T) {
	b := started(t)
	many(t, b, 10)
	trial.Fork(t, b, "x")
	many(t, b, api.MaxOps-10)
	wantUnchanged(t, b, func() {
		trial.WantDo(t, b, trial.Add("x"), api.ErrFull)
		trial.WantDo(t, b, op.Op{}, api.ErrFull) // in the past's order
	})
	trial.Switch(t, b, "x")
	trial.Do(t, b, api.MaxOps+1, trial.Add("x"))
	wantUnchanged(t, b, func() { trial.WantMerge(t, b, "trunk", 0, api.ErrFull) })
	trial.WantUndo(t, b, api.MaxOps+1, 0, api.OK)
	wantUnchanged(t, b, func() { trial.WantMerge(t, b, "trunk", 0, api.ErrFull) }) // a dead one has its place
	trial.Fork(t, b, "y")
	trial.Switch(t, b, "trunk")
	trial.WantUndo(t, b, api.MaxOps, 0, api.OK)
	trial.Switch(t, b, "y")
	trial.WantMerge(t, b, "trunk", 0, api.OK)
	if n := len(b.Past("y").All()); n != api.MaxOps {
		t.Error(n)
	}
	b.Freeze()
	trial.Do(t, b, api.MaxOps+2, trial.Add("x"))
}

func TestFreeze(t *testing.T) {
	b := started(t)
	trial.Do(t, b, 1, trial.Add("a"))
	trial.Fork(t, b, "x")
	trial.Switch(t, b, "x")
	trial.Do(t, b, 2, trial.Rename("k"))
	trial.WantUndo(t, b, 1, 0, api.OK)
	trial.Fork(t, b, "y")
	trial.Switch(t, b, "trunk")
	trial.Do(t, b, 3, trial.Rename("l"))
	nows := map[string]*arena.Arena{}
	for _, name := range b.Names() {
		nows[name] = b.Past(name).Now()
	}
	b.Freeze()
	wantNames(t, b, 3, "trunk", "trunk", "x", "y")
	for name, now := range nows {
		wantPast(t, b, name, 3)
		if p := b.Past(name); !arena.Same(p.Base(), now) || !arena.Same(p.Now(), now) {
			t.Errorf("%s has changed", name)
		}
	}
	wantNow(t, b, trial.LittleNamed("l")+" module a { }")
	wantUnchanged(t, b, func() {
		trial.WantUndo(t, b, 3, 0, api.ErrFrozen)
		trial.WantMerge(t, b, "x", 0, api.OK) // there is nothing to take any more
		b.Freeze()
	})
	trial.Switch(t, b, "x")
	trial.Do(t, b, 4, trial.Add("b"))
	trial.Switch(t, b, "trunk")
	trial.WantMerge(t, b, "x", 0, api.OK)
	wantNow(t, b, trial.LittleNamed("l")+" module a { } module b { }")
}

func TestPast(t *testing.T) {
	b := started(t)
	trial.Do(t, b, 1, trial.Add("a"))
	trial.Fork(t, b, "x")
	trial.Do(t, b, 2, trial.Add("b"))
	p, e := past.New(trial.Right(t, trial.Little), 0)
	if e != api.OK || p.Do(trial.Add("a"), 1) != api.OK || !past.Same(b.Past("x"), p) {
		t.Error("the past of x is another one")
	}
	if p.Do(trial.Add("b"), 2) != api.OK || !past.Same(b.Past("trunk"), p) {
		t.Error("the past of trunk is another one")
	}
	for _, name := range append(trial.NoNames(), "y", "Trunk") {
		if b.Past(name) != nil {
			t.Errorf("there is a past %q", name)
		}
	}
}

func TestSame(t *testing.T) {
	books := map[string]func(b *branch.Book){
		"started": func(b *branch.Book) {},
		"done":    func(b *branch.Book) { trial.Do(t, b, 1, trial.Add("a")) },
		"other":   func(b *branch.Book) { trial.Do(t, b, 1, trial.Add("b")) },
		"undone":  func(b *branch.Book) { trial.Do(t, b, 1, trial.Add("a")); trial.WantUndo(t, b, 1, 0, api.OK) },
		"frozen":  func(b *branch.Book) { trial.Do(t, b, 1, trial.Add("a")); b.Freeze() },
		"x":       func(b *branch.Book) { trial.Fork(t, b, "x") },
		"y":       func(b *branch.Book) { trial.Fork(t, b, "y") },
		"at x":    func(b *branch.Book) { trial.Fork(t, b, "x"); trial.Switch(t, b, "x") },
		"x, y":    func(b *branch.Book) { trial.Fork(t, b, "x"); trial.Fork(t, b, "y") },
		"y, x":    func(b *branch.Book) { trial.Fork(t, b, "y"); trial.Fork(t, b, "x") },
		"x, done": func(b *branch.Book) { trial.Fork(t, b, "x"); trial.Do(t, b, 1, trial.Add("a")) },
		"done, x": func(b *branch.Book) { trial.Do(t, b, 1, trial.Add("a")); trial.Fork(t, b, "x") },
		"done at x": func(b *branch.Book) {
			trial.Fork(t, b, "x")
			trial.Switch(t, b, "x")
			trial.Do(t, b, 1, trial.Add("a"))
			trial.Switch(t, b, "trunk")
		},
	}
	make := func(name string) *branch.Book {
		if books[name] == nil {
			return nil
		}
		b := started(t)
		books[name](b)
		return b
	}
	books["nil"] = nil
	for x := range books {
		for y := range books {
			if got := branch.Same(make(x), make(y)); got != (x == y) {
				t.Errorf("Same of %s and %s: %v", x, y, got)
			}
		}
	}
	trunk := named("trunk", taken(t, 0).Bytes())
	if branch.Same(parsed(t, laid(3, 0, 1, trunk)), parsed(t, laid(4, 0, 1, trunk))) {
		t.Error("the last stamps differ")
	}
	b := started(t)
	b.Freeze()
	if !branch.Same(b, started(t)) {
		t.Error("Freeze of nothing has changed the book")
	}
}

func TestNil(t *testing.T) {
	var b *branch.Book
	trial.WantDo(t, b, trial.Add("x"), api.ErrNone)
	trial.WantDo(t, b, op.Op{}, api.ErrNone)
	trial.WantUndo(t, b, 1, 0, api.ErrNone)
	trial.WantRedo(t, b, math.MaxUint32, 0, api.ErrNone)
	trial.WantErrno(t, "Fork", b.Fork("x"), api.ErrNone)
	trial.WantErrno(t, "Fork of no name", b.Fork(""), api.ErrNone)
	trial.WantErrno(t, "Switch", b.Switch("trunk"), api.ErrNone)
	trial.WantMerge(t, b, "trunk", 0, api.ErrNone)
	b.Freeze()
	if b.Current() != "" || len(b.Names()) > 0 || b.Past("trunk") != nil || b.Now() != nil || b.Stamp() != 0 || b.Copy() != nil || len(b.Bytes()) > 0 {
		t.Error("a nil book has something")
	}
}
