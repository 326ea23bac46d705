package branch_test

import (
	"math"
	"slices"
	"strconv"
	"strings"
	"testing"

	"hourglass/api"
	"hourglass/arena"
	"hourglass/branch"
	"hourglass/op"
	"hourglass/past"
	"hourglass/trial"
)

// started returns a book of Little.
func started(t *testing.T) *branch.Book {
	t.Helper()
	b, e := branch.New(trial.Right(t, trial.Little))
	if b == nil || e != api.OK {
		t.Fatalf("New: %v, error %d", b, e)
	}
	return b
}

func do(t *testing.T, b *branch.Book, want uint32, o op.Op) {
	t.Helper()
	if stamp, e := b.Do(o); stamp != want || e != api.OK {
		t.Fatalf("Do of %s: %d, error %d, want %d", o.Text(), stamp, e, want)
	}
}

func fork(t *testing.T, b *branch.Book, name string) {
	t.Helper()
	if e := b.Fork(name); e != api.OK {
		t.Fatalf("Fork of %s: error %d", name, e)
	}
}

func turn(t *testing.T, b *branch.Book, name string) {
	t.Helper()
	if e := b.Switch(name); e != api.OK {
		t.Fatalf("Switch to %s: error %d", name, e)
	}
}

func wantDo(t *testing.T, b *branch.Book, o op.Op, want api.Errno) {
	t.Helper()
	stamp, e := b.Do(o)
	trial.WantCause(t, "Do of "+o.Text(), stamp, e, 0, want)
}

func wantUndo(t *testing.T, b *branch.Book, stamp, cause uint32, want api.Errno) {
	t.Helper()
	got, e := b.Undo(stamp)
	trial.WantCause(t, "Undo of "+strconv.Itoa(int(stamp)), got, e, cause, want)
}

func wantRedo(t *testing.T, b *branch.Book, stamp, cause uint32, want api.Errno) {
	t.Helper()
	got, e := b.Redo(stamp)
	trial.WantCause(t, "Redo of "+strconv.Itoa(int(stamp)), got, e, cause, want)
}

func wantMerge(t *testing.T, b *branch.Book, name string, cause uint32, want api.Errno) {
	t.Helper()
	got, e := b.Merge(name)
	trial.WantCause(t, "Merge of "+name, got, e, cause, want)
}

func wantNow(t *testing.T, b *branch.Book, program string) {
	t.Helper()
	trial.WantProgram(t, "Now", trial.Of(b.Now(), api.OK), program)
}

// wantNames expects branches, of which the first one that is given is the
// current one.
func wantNames(t *testing.T, b *branch.Book, stamp uint32, current string, names ...string) {
	t.Helper()
	if b.Current() != current || b.Stamp() != stamp || !slices.Equal(b.Names(), names) {
		t.Errorf("%s, %d, %q, want %s, %d, %q", b.Current(), b.Stamp(), b.Names(), current, stamp, names)
	}
}

// wantPast expects the entries of a branch.
func wantPast(t *testing.T, b *branch.Book, name string, frozen uint32, entries ...past.Entry) {
	t.Helper()
	p := b.Past(name)
	if p == nil || p.Frozen() != frozen || !slices.Equal(p.All(), entries) {
		t.Errorf("%s: %d, %v, want %d, %v", name, p.Frozen(), p.All(), frozen, entries)
	}
}

func live(stamp uint32, o op.Op) past.Entry {
	return past.Entry{Stamp: stamp, Op: o, Live: true}
}

func dead(stamp uint32, o op.Op) past.Entry {
	return past.Entry{Stamp: stamp, Op: o}
}

// wantUnchanged expects that calls leave a book as it is.
func wantUnchanged(t *testing.T, b *branch.Book, calls func()) {
	t.Helper()
	before := b.Copy()
	calls()
	if !branch.Same(b, before) || !arena.Same(b.Now(), before.Now()) {
		t.Error("the book has changed")
	}
}

func TestExample(t *testing.T) {
	b := started(t)
	fork(t, b, "x")
	do(t, b, 1, trial.Rename("k"))
	wantNow(t, b, trial.LittleNamed("k"))
	turn(t, b, "x")
	wantNow(t, b, trial.Little)
}

func TestNew(t *testing.T) {
	a := trial.Right(t, trial.Little)
	b := started(t)
	wantNames(t, b, 0, "trunk", "trunk")
	wantPast(t, b, "trunk", 0)
	if p, _ := past.New(a, 0); !past.Same(b.Past("trunk"), p) || !arena.Same(b.Now(), a) {
		t.Error("the past is not New")
	}
	for _, w := range trial.Wrongs(t, trial.Little) {
		if b, e := branch.New(w.Arena); b != nil || e != api.ErrForm {
			t.Errorf("%s: %v, error %d, want ErrForm", w.Why, b, e)
		}
	}
}

func TestDo(t *testing.T) {
	b := started(t)
	do(t, b, 1, trial.Add("x"))
	do(t, b, 2, trial.Rename("k"))
	wantNames(t, b, 2, "trunk", "trunk")
	wantUnchanged(t, b, func() {
		wantDo(t, b, trial.Rename("main"), api.ErrClash)
		wantDo(t, b, trial.Drop(3), api.ErrNone)
		wantDo(t, b, op.Op{}, api.ErrArg)
		wantDo(t, b, op.Op{Kind: op.RenameModule, A: 2, Name: "if"}, api.ErrArg)
		wantDo(t, b, op.Op{Kind: op.DropModule, A: 2}, api.ErrUsed)
	})
	do(t, b, 3, trial.Drop(1))
	wantPast(t, b, "trunk", 0, live(1, trial.Add("x")), live(2, trial.Rename("k")), live(3, trial.Drop(1)))
	wantNow(t, b, trial.LittleNamed("k"))
}

// TestStamps: each is given once, whatever the branch.
func TestStamps(t *testing.T) {
	b := started(t)
	fork(t, b, "x")
	do(t, b, 1, trial.Add("a"))
	turn(t, b, "x")
	do(t, b, 2, trial.Add("a"))
	turn(t, b, "trunk")
	wantDo(t, b, trial.Add("a"), api.ErrClash)
	do(t, b, 3, trial.Add("b"))
	wantUndo(t, b, 3, 0, api.OK)
	do(t, b, 4, trial.Add("b"))
	fork(t, b, "y")
	turn(t, b, "y")
	do(t, b, 5, trial.Add("c"))
	wantPast(t, b, "trunk", 0, live(1, trial.Add("a")), dead(3, trial.Add("b")), live(4, trial.Add("b")))
	wantPast(t, b, "x", 0, live(2, trial.Add("a")))
	wantPast(t, b, "y", 0, live(1, trial.Add("a")), dead(3, trial.Add("b")), live(4, trial.Add("b")), live(5, trial.Add("c")))
	wantNames(t, b, 5, "y", "trunk", "x", "y")
}

func TestUndoAndRedo(t *testing.T) {
	b := started(t)
	do(t, b, 1, trial.Add("x"))
	fork(t, b, "other")
	do(t, b, 2, op.Op{Kind: op.RenameModule, A: trial.Made(1), Name: "y"})
	do(t, b, 3, trial.Rename("x"))
	wantUnchanged(t, b, func() {
		wantUndo(t, b, 1, 2, api.ErrNone)
		wantUndo(t, b, 2, 3, api.ErrClash)
		wantUndo(t, b, 4, 0, api.ErrUnknown)
		wantUndo(t, b, 0, 0, api.ErrUnknown)
		wantRedo(t, b, 3, 0, api.ErrLive)
		wantRedo(t, b, 4, 0, api.ErrUnknown)
	})
	wantUndo(t, b, 3, 0, api.OK)
	wantUndo(t, b, 2, 0, api.OK)
	wantUndo(t, b, 2, 0, api.ErrDead)
	wantRedo(t, b, 3, 3, api.ErrClash)
	wantRedo(t, b, 2, 0, api.OK)
	wantNow(t, b, trial.Little+" module y { }")
	wantPast(t, b, "other", 0, live(1, trial.Add("x")))
	turn(t, b, "other")
	wantUndo(t, b, 2, 0, api.ErrUnknown)
	wantUndo(t, b, 1, 0, api.OK)
	wantNow(t, b, trial.Little)
	wantNames(t, b, 3, "other", "trunk", "other")
	b.Freeze()
	wantUndo(t, b, 1, 0, api.ErrFrozen)
	wantRedo(t, b, 3, 0, api.ErrFrozen)
}

func TestFork(t *testing.T) {
	b := started(t)
	do(t, b, 1, trial.Add("x"))
	do(t, b, 2, trial.Rename("k"))
	wantUndo(t, b, 1, 0, api.OK)
	fork(t, b, "x")
	wantNames(t, b, 2, "trunk", "trunk", "x")
	for _, name := range []string{"trunk", "x"} {
		wantPast(t, b, name, 0, dead(1, trial.Add("x")), live(2, trial.Rename("k")))
	}
	turn(t, b, "x")
	do(t, b, 3, trial.Add("z"))
	fork(t, b, "Trunk")
	turn(t, b, "trunk")
	do(t, b, 4, trial.Rename("l"))
	wantNames(t, b, 4, "trunk", "trunk", "x", "Trunk")
	wantPast(t, b, "trunk", 0, dead(1, trial.Add("x")), live(2, trial.Rename("k")), live(4, trial.Rename("l")))
	for _, name := range []string{"Trunk", "x"} {
		wantPast(t, b, name, 0, dead(1, trial.Add("x")), live(2, trial.Rename("k")), live(3, trial.Add("z")))
	}
}

func TestForkErrors(t *testing.T) {
	b := started(t)
	fork(t, b, "x")
	wantUnchanged(t, b, func() {
		for _, name := range trial.NoNames() {
			trial.WantErrno(t, name, b.Fork(name), api.ErrName)
		}
		trial.WantErrno(t, "x", b.Fork("x"), api.ErrBranch)
		trial.WantErrno(t, "trunk", b.Fork("trunk"), api.ErrBranch)
	})
	for i := range api.MaxBranch - 2 {
		fork(t, b, strings.Repeat("n", api.MaxName-i))
	}
	wantUnchanged(t, b, func() {
		trial.WantErrno(t, "one more", b.Fork("y"), api.ErrFull)
		trial.WantErrno(t, "the same as one", b.Fork("x"), api.ErrBranch)
		trial.WantErrno(t, "no name", b.Fork("if"), api.ErrName)
	})
	if len(b.Names()) != api.MaxBranch {
		t.Error(b.Names())
	}
}

func TestSwitch(t *testing.T) {
	b := started(t)
	fork(t, b, "x")
	fork(t, b, "y")
	for _, name := range []string{"y", "y", "trunk", "x", "trunk"} {
		turn(t, b, name)
		wantNames(t, b, 0, name, "trunk", "x", "y")
	}
	wantUnchanged(t, b, func() {
		for _, name := range append(trial.NoNames(), "z", "Trunk", "xy") {
			trial.WantErrno(t, name, b.Switch(name), api.ErrNone)
		}
	})
}

func TestMerge(t *testing.T) {
	b := started(t)
	do(t, b, 1, trial.Add("a"))
	do(t, b, 2, trial.Add("b"))
	fork(t, b, "x")
	wantUndo(t, b, 2, 0, api.OK) // which the current branch has, though it is dead
	do(t, b, 3, trial.Add("c"))
	turn(t, b, "x")
	do(t, b, 4, trial.Add("d"))
	do(t, b, 5, trial.Add("e"))
	do(t, b, 6, trial.Drop(4))
	wantUndo(t, b, 5, 0, api.OK)
	turn(t, b, "trunk")
	wantMerge(t, b, "x", 0, api.OK)
	want := []past.Entry{live(1, trial.Add("a")), dead(2, trial.Add("b")), live(3, trial.Add("c")), live(4, trial.Add("d")), live(6, trial.Drop(4))}
	wantPast(t, b, "trunk", 0, want...)
	wantNames(t, b, 6, "trunk", "trunk", "x")
	wantUnchanged(t, b, func() { wantMerge(t, b, "x", 0, api.OK) }) // nothing is missing
	wantNow(t, b, trial.Little+" module a { } module c { }")
	turn(t, b, "x")
	wantPast(t, b, "x", 0, live(1, trial.Add("a")), live(2, trial.Add("b")), live(4, trial.Add("d")), dead(5, trial.Add("e")), live(6, trial.Drop(4)))
	wantMerge(t, b, "trunk", 0, api.OK)
	wantNow(t, b, trial.Little+" module a { } module b { } module c { }")
	do(t, b, 7, trial.Drop(3)) // a stamp above all others, although 3 is the last entry
	wantRedo(t, b, 5, 0, api.OK)
	turn(t, b, "trunk")
	wantMerge(t, b, "x", 0, api.OK)
	wantPast(t, b, "trunk", 0, append(want, live(5, trial.Add("e")), live(7, trial.Drop(3)))...)
}

func TestMergeErrors(t *testing.T) {
	b := started(t)
	do(t, b, 1, trial.Add("a"))
	fork(t, b, "x")
	wantUndo(t, b, 1, 0, api.OK)
	do(t, b, 2, trial.Add("b"))
	turn(t, b, "x")
	do(t, b, 3, trial.Add("c"))
	do(t, b, 4, trial.Drop(1))
	wantUnchanged(t, b, func() {
		wantMerge(t, b, "y", 0, api.ErrNone)
		wantMerge(t, b, "", 0, api.ErrNone)
		wantMerge(t, b, "if", 0, api.ErrNone)
		wantMerge(t, b, "x", 0, api.ErrBranch)
	})
	turn(t, b, "trunk")
	wantUnchanged(t, b, func() {
		wantMerge(t, b, "x", 4, api.ErrNone) // 1, which made what 4 drops, is dead here
		wantMerge(t, b, "trunk", 0, api.ErrBranch)
	})
	do(t, b, 5, trial.Add("c"))
	wantUnchanged(t, b, func() { wantMerge(t, b, "x", 3, api.ErrClash) })
}

// many makes so many operations.
func many(t *testing.T, b *branch.Book, count int) {
	t.Helper()
	for i := range count {
		do(t, b, b.Stamp()+1, trial.Rename([]string{"k", "l"}[i%2]))
	}
}

func TestFull(t *testing.T) {
	b := started(t)
	many(t, b, 10)
	fork(t, b, "x")
	many(t, b, api.MaxOps-10)
	wantUnchanged(t, b, func() {
		wantDo(t, b, trial.Add("x"), api.ErrFull)
		wantDo(t, b, op.Op{}, api.ErrFull) // in the past's order
	})
	turn(t, b, "x")
	do(t, b, api.MaxOps+1, trial.Add("x"))
	wantUnchanged(t, b, func() { wantMerge(t, b, "trunk", 0, api.ErrFull) })
	wantUndo(t, b, api.MaxOps+1, 0, api.OK)
	wantUnchanged(t, b, func() { wantMerge(t, b, "trunk", 0, api.ErrFull) }) // a dead one has its place
	fork(t, b, "y")
	turn(t, b, "trunk")
	wantUndo(t, b, api.MaxOps, 0, api.OK)
	turn(t, b, "y")
	wantMerge(t, b, "trunk", 0, api.OK)
	if n := len(b.Past("y").All()); n != api.MaxOps {
		t.Error(n)
	}
	b.Freeze()
	do(t, b, api.MaxOps+2, trial.Add("x"))
}

func TestFreeze(t *testing.T) {
	b := started(t)
	do(t, b, 1, trial.Add("a"))
	fork(t, b, "x")
	turn(t, b, "x")
	do(t, b, 2, trial.Rename("k"))
	wantUndo(t, b, 1, 0, api.OK)
	fork(t, b, "y")
	turn(t, b, "trunk")
	do(t, b, 3, trial.Rename("l"))
	nows := map[string]*arena.Arena{}
	for _, name := range b.Names() {
		nows[name] = b.Past(name).Now()
	}
	b.Freeze()
	wantNames(t, b, 3, "trunk", "trunk", "x", "y")
	for name, now := range nows {
		wantPast(t, b, name, 3)
		if p := b.Past(name); !arena.Same(p.Base(), now) || !arena.Same(p.Now(), now) {
			t.Errorf("%s has changed", name)
		}
	}
	wantNow(t, b, trial.LittleNamed("l")+" module a { }")
	wantUnchanged(t, b, func() {
		wantUndo(t, b, 3, 0, api.ErrFrozen)
		wantMerge(t, b, "x", 0, api.OK) // there is nothing to take any more
		b.Freeze()
	})
	turn(t, b, "x")
	do(t, b, 4, trial.Add("b"))
	turn(t, b, "trunk")
	wantMerge(t, b, "x", 0, api.OK)
	wantNow(t, b, trial.LittleNamed("l")+" module a { } module b { }")
}

func TestPast(t *testing.T) {
	b := started(t)
	do(t, b, 1, trial.Add("a"))
	fork(t, b, "x")
	do(t, b, 2, trial.Add("b"))
	p, e := past.New(trial.Right(t, trial.Little), 0)
	if e != api.OK || p.Do(trial.Add("a"), 1) != api.OK || !past.Same(b.Past("x"), p) {
		t.Error("the past of x is another one")
	}
	if p.Do(trial.Add("b"), 2) != api.OK || !past.Same(b.Past("trunk"), p) {
		t.Error("the past of trunk is another one")
	}
	for _, name := range append(trial.NoNames(), "y", "Trunk") {
		if b.Past(name) != nil {
			t.Errorf("there is a past %q", name)
		}
	}
}

func TestSame(t *testing.T) {
	books := map[string]func(b *branch.Book){
		"started": func(b *branch.Book) {},
		"done":    func(b *branch.Book) { do(t, b, 1, trial.Add("a")) },
		"other":   func(b *branch.Book) { do(t, b, 1, trial.Add("b")) },
		"undone":  func(b *branch.Book) { do(t, b, 1, trial.Add("a")); wantUndo(t, b, 1, 0, api.OK) },
		"frozen":  func(b *branch.Book) { do(t, b, 1, trial.Add("a")); b.Freeze() },
		"x":       func(b *branch.Book) { fork(t, b, "x") },
		"y":       func(b *branch.Book) { fork(t, b, "y") },
		"at x":    func(b *branch.Book) { fork(t, b, "x"); turn(t, b, "x") },
		"x, y":    func(b *branch.Book) { fork(t, b, "x"); fork(t, b, "y") },
		"y, x":    func(b *branch.Book) { fork(t, b, "y"); fork(t, b, "x") },
		"x, done": func(b *branch.Book) { fork(t, b, "x"); do(t, b, 1, trial.Add("a")) },
		"done, x": func(b *branch.Book) { do(t, b, 1, trial.Add("a")); fork(t, b, "x") },
		"done at x": func(b *branch.Book) {
			fork(t, b, "x")
			turn(t, b, "x")
			do(t, b, 1, trial.Add("a"))
			turn(t, b, "trunk")
		},
	}
	make := func(name string) *branch.Book {
		if books[name] == nil {
			return nil
		}
		b := started(t)
		books[name](b)
		return b
	}
	books["nil"] = nil
	for x := range books {
		for y := range books {
			if got := branch.Same(make(x), make(y)); got != (x == y) {
				t.Errorf("Same of %s and %s: %v", x, y, got)
			}
		}
	}
	trunk := named("trunk", taken(t, 0).Bytes())
	if branch.Same(parsed(t, laid(3, 0, 1, trunk)), parsed(t, laid(4, 0, 1, trunk))) {
		t.Error("the last stamps differ")
	}
	b := started(t)
	b.Freeze()
	if !branch.Same(b, started(t)) {
		t.Error("Freeze of nothing has changed the book")
	}
}

func TestNil(t *testing.T) {
	var b *branch.Book
	wantDo(t, b, trial.Add("x"), api.ErrNone)
	wantDo(t, b, op.Op{}, api.ErrNone)
	wantUndo(t, b, 1, 0, api.ErrNone)
	wantRedo(t, b, math.MaxUint32, 0, api.ErrNone)
	trial.WantErrno(t, "Fork", b.Fork("x"), api.ErrNone)
	trial.WantErrno(t, "Fork of no name", b.Fork(""), api.ErrNone)
	trial.WantErrno(t, "Switch", b.Switch("trunk"), api.ErrNone)
	wantMerge(t, b, "trunk", 0, api.ErrNone)
	b.Freeze()
	if b.Current() != "" || len(b.Names()) > 0 || b.Past("trunk") != nil || b.Now() != nil || b.Stamp() != 0 || b.Copy() != nil || len(b.Bytes()) > 0 {
		t.Error("a nil book has something")
	}
}
