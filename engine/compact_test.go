package engine_test

import (
	"slices"
	"strconv"
	"strings"
	"testing"

	"hourglass/api"
	"hourglass/branch"
	"hourglass/crown"
	"hourglass/engine"
	"hourglass/op"
	"hourglass/page"
	"hourglass/reel"
	"hourglass/trial"
)

func compact(t *testing.T, e *engine.Engine) {
	t.Helper()
	trial.WantErrno(t, "Compact", e.Compact(), api.OK)
}

func frozen(b *branch.Book) *branch.Book {
	c := b.Copy()
	c.Freeze()
	return c
}

func TestCompact(t *testing.T) {
	e := formatted(t, 64, trial.Little)
	everyCommand(t, e)
	book := frozen(e.Book())
	before := sectors(t, e.Disk())
	compact(t, e)
	wantEngine(t, e, book, 2, 0)
	if want := 31*share - len(reel.Lay(checkpoint(book))); e.Room() != want {
		t.Errorf("Room %d, want %d", e.Room(), want)
	}
	c := crown.First().Next()
	before[0] = crownSector(t, c)
	want := append(before[:33:33], written(t, c, checkpoint(book))...)
	wantSectors(t, e.Disk(), want...)
	wantSectors(t, crashed(t, e.Disk()), want...)
	wantEngine(t, recovered(t, crashed(t, e.Disk())), book, 2, 0)
	wantKept(t, e, func() {
		for stamp := range uint32(3) {
			trial.WantUndo(t, e, stamp+1, 0, api.ErrFrozen)
			trial.WantRedo(t, e, stamp+1, 0, api.ErrFrozen)
		}
	})
	trial.Do(t, e, 4, trial.Add("z"))
	trial.Do(t, book, 4, trial.Add("z"))
	wantEngine(t, e, book, 2, 1)
	wantRecords(t, e.Disk(), frozen(recovered(t, crashed(t, e.Disk())).Book()), doing(trial.Add("z")))
	wantEngine(t, recovered(t, e.Disk()), book, 2, 1)
}

// TestCompactAgain: the halves take turns, and the first sector of the old log
// is made blank before.
func TestCompactAgain(t *testing.T) {
	for _, count := range []int{4, 5, 6, 7, 64} {
		e := formatted(t, count, trial.Little)
		for i := range uint32(20) {
			trial.Do(t, e, i+1, trial.Rename([]string{"k", "l"}[i%2]))
			book := frozen(e.Book())
			if i%3 == 1 {
				e = recovered(t, e.Disk())
			}
			compact(t, e)
			wantEngine(t, e, book, i+2, 0)
			wantEngine(t, recovered(t, crashed(t, e.Disk())), book, i+2, 0)
			if c, _, _ := crown.Read(e.Disk()); c.Gen != i+2 || c.Half != byte(i+1)%2 || c.Serial != i+1 {
				t.Errorf("%+v", c)
			}
		}
		if e.Disk().Blank(2) || e.Disk().Blank(2+(count-2)/2) {
			t.Error("a half is blank")
		}
	}
}

// TestCompactOfAUsedHalf: whatever the half has had.
func TestCompactOfAUsedHalf(t *testing.T) {
	junk := used(t, 64)
	for name, fill := range map[string]func(i int) []byte{
		"noise": func(i int) []byte { p, _ := junk.Read(i); return p },
		"old pages": func(i int) []byte {
			return sector(t, page.Page{Gen: 2, Serial: 7, Number: uint32(i), Kind: 1, Data: make([]byte, page.Room)})
		},
		"a log": func(i int) []byte {
			return written(t, crown.Crown{Gen: 2, Half: 1, Serial: 7}, make([]byte, 40*share))[i-33]
		},
		"one that ends there": func(i int) []byte {
			return sector(t, page.Page{Gen: 2, Serial: 2, Number: uint32(i - 33), Kind: 1, Data: make([]byte, 4)})
		},
	} {
		e := formatted(t, 64, trial.Little)
		for i := 33; i < 64; i++ {
			trial.WantErrno(t, "Write", e.Disk().Write(i, fill(i)), api.OK)
		}
		trial.Do(t, e, 1, trial.Add("x"))
		book := frozen(e.Book())
		compact(t, e)
		for i := range uint32(30) {
			wantEngine(t, e, book, 2, int(i))
			if r, _, errno := engine.Recover(crashed(t, e.Disk())); errno != api.OK || !branch.Same(r.Book(), book) {
				t.Fatalf("%s: error %d, or another book", name, errno)
			}
			trial.Do(t, e, i+2, trial.Rename(strings.Repeat("k", 60)+strconv.Itoa(int(i))))
			trial.Do(t, book, i+2, trial.Rename(strings.Repeat("k", 60)+strconv.Itoa(int(i))))
			trial.WantErrno(t, "Sync", e.Sync(), api.OK)
		}
	}
}

// wantNoCompact expects an error that changes nothing but the other half.
func wantNoCompact(t *testing.T, e *engine.Engine, want api.Errno) {
	t.Helper()
	before := sectors(t, e.Disk())
	wantKept(t, e, func() {
		for range 2 {
			trial.WantErrno(t, "Compact", e.Compact(), want)
		}
	})
	half := (e.Disk().Sectors() - 2) / 2
	first := 2 + int(e.Gen()%2)*half
	before[first] = nil
	wantSectors(t, e.Disk(), before...)
	if e.Dead() {
		t.Error("the disk is not off")
	}
}

// TestCompactIsFull: each branch has a base of its own, once it is frozen.
func TestCompactIsFull(t *testing.T) {
	for _, used := range []bool{true, false} {
		e := formatted(t, 4, trial.Little)
		if used {
			compact(t, e)
		}
		gen := e.Gen()
		for i, name := range []string{"a", "b", "c", "d"} {
			trial.Fork(t, e, name)
			trial.Do(t, e, uint32(i+1), trial.Rename("k"+name))
		}
		wantNoCompact(t, e, api.ErrFull)
		trial.Do(t, e, 5, trial.Rename("x"))
		trial.WantUndo(t, e, 4, 0, api.OK)
		wantNoCompact(t, e, api.ErrFull)
		trial.WantErrno(t, "Sync", e.Sync(), api.OK)
		wantEngine(t, recovered(t, crashed(t, e.Disk())), e.Book(), gen, 10)
	}
}

// TestCompactIsLong: the checkpoint may become longer than a record.
func TestCompactIsLong(t *testing.T) {
	for _, count := range []int{220, 1000} { // of which the first one has no room, either
		e := formatted(t, count, sized(t, api.MaxRecord/2+20))
		trial.Do(t, e, 1, trial.Add("x"))
		compact(t, e)
		trial.Fork(t, e, "b")
		trial.Do(t, e, 2, trial.Add("y"))
		wantNoCompact(t, e, api.ErrLong)
		trial.Do(t, e, 3, trial.Add("z"))
		trial.WantErrno(t, "Sync", e.Sync(), api.OK)
		wantEngine(t, recovered(t, crashed(t, e.Disk())), e.Book(), 2, 3)
	}
	e := formatted(t, 140, sized(t, api.MaxRecord/2-100))
	trial.Fork(t, e, "b")
	wantNoCompact(t, e, api.ErrFull)
}

// TestCompactOnADiskThatStops: it writes zeros, unless there are, then the log,
// syncs, and writes the crown, and syncs.
func TestCompactOnADiskThatStops(t *testing.T) {
	for _, blank := range []bool{true, false} {
		from := formatted(t, 64, sized(t, 3*share))
		if !blank {
			compact(t, from)
			compact(t, from)
		}
		gen := from.Gen()
		trial.Do(t, from, 1, trial.Rename("k"))
		steps := []int{33, 34, 35, 36, syncing, 0, syncing}
		if !blank {
			steps = append([]int{33}, steps...)
		}
		for limit := range steps {
			e := recovered(t, from.Disk().Copy())
			d, book := e.Disk(), e.Book()
			before := slices.Clone(d.Waiting())
			d.Limit(limit)
			trial.WantErrno(t, "Compact", e.Compact(), api.ErrOff)
			wantEngine(t, e, book, gen, 1)
			if want := waitingAfter(before, steps[:limit]...); !slices.Equal(d.Waiting(), want) || !e.Dead() {
				t.Errorf("after %d steps, %v are waiting, want %v", limit, d.Waiting(), want)
			}
			wantOff(t, e)
		}
		d := from.Disk().Copy()
		e := recovered(t, d)
		d.Limit(len(steps))
		compact(t, e)
		wantEngine(t, e, frozen(from.Book()), gen+1, 0)
		if e.Dead() {
			t.Error("it was not off")
		}
		trial.WantErrno(t, "Sync", e.Sync(), api.ErrOff)
	}
}

// wantOff expects that a dead engine does nothing any more, also if its disk
// goes on.
func wantOff(t *testing.T, e *engine.Engine) {
	t.Helper()
	book, gen, commands, room := e.Book(), e.Gen(), e.Commands(), e.Room()
	d := e.Disk()
	before, waiting, writes := sectors(t, d), d.Waiting(), d.Writes()
	for _, limit := range []int{0, 1, -1} {
		d.Limit(limit)
		trial.WantDo(t, e, trial.Add("new"), api.ErrOff)
		trial.WantDo(t, e, op.Op{}, api.ErrOff)
		trial.WantDo(t, e, trial.Rename("main"), api.ErrOff)
		trial.WantUndo(t, e, 1, 0, api.ErrOff)
		trial.WantUndo(t, e, 1000, 0, api.ErrOff)
		trial.WantRedo(t, e, 1, 0, api.ErrOff)
		trial.WantErrno(t, "Fork", e.Fork("new"), api.ErrOff)
		trial.WantErrno(t, "Fork", e.Fork("if"), api.ErrOff)
		trial.WantErrno(t, "Switch", e.Switch("trunk"), api.ErrOff)
		trial.WantErrno(t, "Switch", e.Switch("none"), api.ErrOff)
		trial.WantMerge(t, e, "trunk", 0, api.ErrOff)
		trial.WantErrno(t, "Sync", e.Sync(), api.ErrOff)
		trial.WantErrno(t, "Compact", e.Compact(), api.ErrOff)
	}
	wantEngine(t, e, book, gen, commands)
	wantSectors(t, d, before...)
	if e.Room() != room || d.Writes() != writes || !slices.Equal(d.Waiting(), waiting) || !e.Dead() {
		t.Error("something has changed")
	}
	if _, errno := e.Export(); errno != api.OK {
		t.Errorf("Export: error %d", errno)
	}
	if _, errno := e.Import(trial.Little); errno != api.OK {
		t.Errorf("Import: error %d", errno)
	}
}

// TestDead: whatever finds the disk off.
func TestDead(t *testing.T) {
	for what, call := range map[string]func(e *engine.Engine) api.Errno{
		"Do":      func(e *engine.Engine) api.Errno { _, errno := e.Do(trial.Add("z")); return errno },
		"Undo":    func(e *engine.Engine) api.Errno { _, errno := e.Undo(2); return errno },
		"Redo":    func(e *engine.Engine) api.Errno { _, errno := e.Redo(4); return errno },
		"Fork":    func(e *engine.Engine) api.Errno { return e.Fork("c") },
		"Switch":  func(e *engine.Engine) api.Errno { return e.Switch("b") },
		"Merge":   func(e *engine.Engine) api.Errno { _, errno := e.Merge("b"); return errno },
		"Sync":    func(e *engine.Engine) api.Errno { return e.Sync() },
		"Compact": func(e *engine.Engine) api.Errno { return e.Compact() },
	} {
		e := formatted(t, 64, trial.Little)
		everyCommand(t, e)
		trial.Do(t, e, 4, trial.Add("y"))
		trial.WantUndo(t, e, 4, 0, api.OK)
		book := e.Book()
		e.Disk().Limit(0)
		trial.WantDo(t, e, trial.Rename("main"), api.ErrClash) // which writes nothing
		trial.WantUndo(t, e, 5, 0, api.ErrUnknown)
		trial.WantErrno(t, "Fork", e.Fork("b"), api.ErrBranch)
		if e.Dead() {
			t.Error("nothing was written yet")
		}
		trial.WantErrno(t, what, call(e), api.ErrOff)
		if !e.Dead() {
			t.Errorf("%s: it is not dead", what)
		}
		wantEngine(t, e, book, 1, 11)
		wantOff(t, e)
		if r := recovered(t, e.Disk()); r.Dead() || !branch.Same(r.Book(), book) || call(r) != api.OK {
			t.Errorf("%s: it does not go on after Recover", what)
		}
	}
}

// TestDeadWithinACommand: a record of which one page was written.
func TestDeadWithinACommand(t *testing.T) {
	e := formatted(t, 64, sized(t, share-10))
	book := e.Book()
	e.Disk().Limit(1)
	trial.WantDo(t, e, trial.Add(strings.Repeat("x", 60)), api.ErrOff)
	if len(e.Disk().Waiting()) != 1 {
		t.Fatal("no page was written, or all of them")
	}
	wantEngine(t, e, book, 1, 0)
	wantOff(t, e)
	for _, keep := range []bool{true, false} {
		wantEngine(t, recovered(t, crashed(t, e.Disk(), keep)), book, 1, 0)
	}
	r := recovered(t, e.Disk())
	wantEngine(t, r, book, 1, 0)
	trial.Do(t, r, 1, trial.Add("y"))
	trial.WantErrno(t, "Sync", r.Sync(), api.OK)
	wantEngine(t, recovered(t, crashed(t, r.Disk())), r.Book(), 1, 1)
}

// TestOtherUsersOfTheDisk: what the engine has not called does not kill it.
func TestOtherUsersOfTheDisk(t *testing.T) {
	e := formatted(t, 64, trial.Little)
	d := e.Disk()
	d.Limit(0)
	trial.WantErrno(t, "Sync of the disk", d.Sync(), api.ErrOff)
	if e.Dead() {
		t.Error("it is dead")
	}
	d.Limit(-1)
	trial.Do(t, e, 1, trial.Add("x"))
}
