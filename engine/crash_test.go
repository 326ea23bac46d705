package engine_test

import (
	"math/rand"
	"slices"
	"strings"
	"testing"

	"hourglass/api"
	"hourglass/branch"
	"hourglass/crown"
	"hourglass/disk"
	"hourglass/engine"
	"hourglass/reel"
	"hourglass/text"
	"hourglass/trial"
)

// lineage is an engine, and the books that a crash may leave: those after the
// commands that were accepted since the last Recover of a crashed disk. It
// takes commands like an engine.
type lineage struct {
	*engine.Engine
	books  []*branch.Book
	synced int
	// stopped is the book after the command at which the disk stopped.
	stopped *branch.Book
}

func lineageOf(e *engine.Engine) *lineage {
	return &lineage{Engine: e, books: []*branch.Book{e.Book()}}
}

func (l *lineage) last() *branch.Book {
	return l.books[len(l.books)-1]
}

// give gives a command to the engine and to a copy of its book, and expects the
// same.
func (l *lineage) give(t *testing.T, c trial.Command) api.Errno {
	t.Helper()
	dead, book := l.Dead(), l.last().Copy()
	wantStamp, want := c.To(book)
	stamp, errno := c.To(l.Engine)
	switch {
	case dead:
		trial.WantCause(t, c.Word, stamp, errno, 0, api.ErrOff)
	case want != api.OK || errno == api.OK:
		trial.WantCause(t, c.Word, stamp, errno, wantStamp, want)
	case errno != api.ErrOff && errno != api.ErrFull:
		t.Errorf("%s: error %d", c.Word, errno)
	default:
		trial.WantCause(t, c.Word, stamp, errno, 0, errno)
	}
	l.took(book, errno, dead)
	return errno
}

// took notes what a call has done that would make a book the next one.
func (l *lineage) took(book *branch.Book, errno api.Errno, dead bool) {
	switch {
	case errno == api.OK:
		l.books = append(l.books, book)
	case errno == api.ErrOff && !dead:
		l.stopped = book
	}
}

func (l *lineage) compact() api.Errno {
	dead := l.Dead()
	errno := l.Engine.Compact()
	l.took(frozen(l.last()), errno, dead)
	if errno == api.OK {
		l.synced = len(l.books) - 1
	}
	return errno
}

func (l *lineage) sync() api.Errno {
	errno := l.Engine.Sync()
	if errno == api.OK {
		l.synced = len(l.books) - 1
	}
	return errno
}

// find returns how many books there are before this one, or a number below 0 if
// a crash must not leave it.
func (l *lineage) find(b *branch.Book) int {
	for i := len(l.books) - 1; i >= l.synced; i-- {
		if branch.Same(l.books[i], b) {
			return i
		}
	}
	if l.stopped != nil && branch.Same(l.stopped, b) {
		return len(l.books)
	}
	return -1
}

// crash returns what Recover finds when the disk keeps these writes, and how
// many of the accepted commands it has.
func (l *lineage) crash(t *testing.T, keep ...bool) (*lineage, int) {
	t.Helper()
	e := recovered(t, crashed(t, l.Disk(), keep...))
	i := l.find(e.Book())
	if i < 0 {
		t.Fatalf("after %d books, of which the first %d are synced, there is another one", len(l.books), l.synced+1)
	}
	return lineageOf(e), i
}

// again is Recover of the same disk, which goes on.
func (l *lineage) again(t *testing.T) {
	t.Helper()
	l.Disk().Limit(-1)
	e := recovered(t, l.Disk())
	switch i := l.find(e.Book()); {
	case i == len(l.books):
		l.books = append(l.books, l.stopped)
	case i != len(l.books)-1:
		t.Fatalf("book %d of %d", i, len(l.books))
	}
	l.Engine, l.stopped = e, nil
}

// script is some commands, of which "sync" and "compact" are a lineage's own.
func (l *lineage) script(t *testing.T, words ...string) {
	t.Helper()
	for _, word := range words {
		kind, rest, _ := strings.Cut(word, " ")
		switch kind {
		case "sync":
			l.sync()
		case "compact":
			l.compact()
		case "add":
			l.give(t, trial.Command{Word: "do", Op: trial.Add(rest)})
		case "undo":
			l.give(t, trial.Command{Word: "undo", Stamp: uint32(rest[0] - '0')})
		default:
			l.give(t, trial.Command{Word: kind, Name: rest})
		}
	}
}

// scripts write one page, or several, on either half.
func scripts() [][]string {
	long := strings.Repeat("x", 63)
	full := []string{"add a" + long, "add b" + long, "add c" + long, "add d" + long, "add e" + long, "add f" + long}
	return [][]string{
		{"add a", "add b", "undo 1"},
		{"add a", "sync", "fork a", "switch a", "add b"},
		full,
		append(full, "sync", "add g"+long, "add h"+long),
		{"compact"},
		{"add a", "compact"},
		{"add a", "compact", "add b", "undo 2"},
		{"add a", "compact", "sync", "add b", "compact", "add c"},
		append(full, "compact", "add g", "compact"),
		{"fork a", "fork b", "compact", "fork c", "compact"},
	}
}

// TestCrashes tries all that a crash can keep, wherever the disk stopped.
func TestCrashes(t *testing.T) {
	found := map[int]int{}
	for _, first := range scripts() {
		for limit := range 16 {
			l := lineageOf(formatted(t, 40, trial.Little))
			l.Disk().Limit(limit)
			l.script(t, first...)
			for _, keep := range trial.Subsets(len(l.Disk().Waiting())) {
				_, i := l.crash(t, keep...)
				found[i-l.synced]++
				if i == len(l.books) {
					found[-1]++
				}
			}
			if !l.Dead() {
				break
			}
		}
	}
	for _, i := range []int{-1, 0, 1, 2, 3} {
		if found[i] == 0 {
			t.Error("the crashes are all alike", found)
		}
	}
}

// some returns up to so many of the subsets.
func some(below func(n int) int, n, most int) [][]bool {
	if 1<<n <= most {
		return trial.Subsets(n)
	}
	l := [][]bool{make([]bool, n), slices.Repeat([]bool{true}, n)}
	for len(l) < most {
		keep := make([]bool, n)
		for i := range keep {
			keep[i] = below(2) == 0
		}
		l = append(l, keep)
	}
	return l
}

// TestCrashesInARow: also after an earlier crash, or after a Recover of a disk
// that has stopped.
func TestCrashesInARow(t *testing.T) {
	below := rand.New(rand.NewSource(1)).Intn
	second := []string{"add y", "undo 1", "compact", "add z", "compact"}
	for _, first := range scripts() {
		for limit := 1; limit < 20; limit += 2 {
			l := lineageOf(formatted(t, 40, trial.Little))
			l.Disk().Limit(limit)
			l.script(t, first...)
			for k, keep := range some(below, len(l.Disk().Waiting()), 8) {
				c, _ := l.crash(t, keep...)
				c.Disk().Limit(k + limit/2)
				c.script(t, second...)
				for _, keep := range some(below, len(c.Disk().Waiting()), 24) {
					c.crash(t, keep...)
				}
			}
			l.again(t)
			l.Disk().Limit(limit / 2)
			l.script(t, second...)
			for _, keep := range some(below, len(l.Disk().Waiting()), 24) {
				l.crash(t, keep...)
			}
		}
	}
}

// TestCompactAfterAStoppedOne: while a crash can take back the crown, the half
// of the one before it is still needed.
func TestCompactAfterAStoppedOne(t *testing.T) {
	stopped := 0
	for _, before := range [][]string{{}, {"compact"}} { // so that the crown is in either sector
		for limit := range 7 {
			for again := range 8 {
				l := lineageOf(formatted(t, 40, trial.Little))
				l.script(t, append(before, "add a", "sync", "add b")...)
				l.Disk().Limit(limit)
				l.script(t, "compact")
				l.again(t)
				if c, _, _ := crown.Read(crashed(t, l.Disk())); c.Gen != l.Gen() {
					stopped++
				}
				l.Disk().Limit(again)
				l.script(t, "add c", "compact", "add d")
				for _, keep := range trial.Subsets(len(l.Disk().Waiting())) {
					l.crash(t, keep...)
				}
			}
		}
	}
	if stopped != 16 {
		t.Error(stopped)
	}
}

// anyKeep keeps none, some or all of the writes.
func anyKeep(below func(n int) int, d *disk.Disk) []bool {
	keep := make([]bool, len(d.Waiting()))
	most := below(5)
	for i := range keep {
		keep[i] = below(4) < most
	}
	return keep
}

// roomy returns how many sectors hold a program and maybe some commands.
func roomy(t *testing.T, below func(n int) int, program string) int {
	t.Helper()
	pages := len(reel.Lay(checkpoint(bookOf(t, program))))/share + 1
	return 2 + 2*(pages+below(3))
}

// TestRandomly gives random commands to an engine whose disk stops and crashes.
func TestRandomly(t *testing.T) {
	below := rand.New(rand.NewSource(1)).Intn
	counts := trial.Counts{}
	for range 40 {
		program, errno := text.Print(trial.Short(t, below))
		if errno != api.OK {
			t.Fatal(errno)
		}
		l := lineageOf(formatted(t, roomy(t, below, program), program))
		for range 100 {
			l = randomStep(t, below, l, counts)
			if !branch.Same(l.Book(), l.last()) || l.Commands() != log(t, l.Disk()).Count()-1 && !l.Dead() {
				t.Error("the engine has another book")
			}
			if t.Failed() {
				t.FailNow()
			}
		}
		for _, name := range l.Book().Names() {
			trial.WantKept(t, below, l.Book().Past(name))
		}
	}
	for _, word := range []string{"do", "undo", "redo", "fork", "switch", "merge"} {
		counts.Want(t, word, 5, api.OK, api.ErrOff)
	}
	counts.Want(t, "do", 5, api.ErrFull)
	counts.Want(t, "sync", 5, api.OK, api.ErrOff)
	counts.Want(t, "compact", 5, api.OK, api.ErrOff, api.ErrFull)
	counts.Want(t, "again", 5, api.OK)
	for _, what := range []string{"all was kept", "some was kept", "none was kept", "what stopped was kept"} {
		counts.Want(t, what, 5, api.OK)
	}
}

func randomStep(t *testing.T, below func(n int) int, l *lineage, counts trial.Counts) *lineage {
	t.Helper()
	step := below(24)
	if l.Dead() {
		step = below(12)
	}
	switch step {
	case 0:
		counts.Add("sync", l.sync())
	case 1, 7:
		counts.Add("compact", l.compact())
	case 8:
		l.Disk().Limit(below(9))
		counts.Add("compact", l.compact())
	case 2:
		l.Disk().Limit(below(9))
	case 3:
		l.Disk().Limit(-1)
	case 4:
		l.again(t)
		counts.Add("again", api.OK)
	case 5, 6:
		c, i := l.crash(t, anyKeep(below, l.Disk())...)
		counts.Add(kept(l, i), api.OK)
		return c
	default:
		c := trial.AnyCommand(below, l.last())
		counts.Add(c.Word, l.give(t, c))
	}
	return l
}

// kept tells how many commands a crash has kept.
func kept(l *lineage, i int) string {
	switch {
	case i == len(l.books):
		return "what stopped was kept"
	case l.synced == len(l.books)-1:
		return "all was synced"
	case i == len(l.books)-1:
		return "all was kept"
	case i > l.synced:
		return "some was kept"
	}
	return "none was kept"
}

// TestCorruption: whatever is inverted in a sector that Recover reads.
func TestCorruption(t *testing.T) {
	r := rand.New(rand.NewSource(1))
	for _, c := range corruptibles(t) {
		e := recovered(t, c.d)
		for at := range c.d.Sectors() {
			for bit := range 8 * api.Sector {
				length := min(1+r.Intn(32), 8*api.Sector-bit)
				mask := r.Uint32() | 1
				want := api.OK
				if slices.Contains(c.read, at) {
					want = api.ErrCorrupt
				} else if bit%512 > 0 {
					continue
				}
				rot(t, c.d, at, bit, length, mask)
				wantCorrupt(t, c.d, at, want)
				rot(t, c.d, at, bit, length, mask)
			}
		}
		wantEngine(t, recovered(t, c.d), e.Book(), e.Gen(), e.Commands())
	}
}

func rot(t *testing.T, d *disk.Disk, at, bit, length int, mask uint32) {
	t.Helper()
	trial.WantErrno(t, "Rot", d.Rot(at, bit, length, mask), api.OK)
}

func wantCorrupt(t *testing.T, d *disk.Disk, at int, want api.Errno) {
	t.Helper()
	if want != api.OK {
		wantNoRecover(t, "a corrupt disk", d, at, want)
	} else {
		recovered(t, d)
	}
}

// corruptible is a disk, and the sectors of it that Recover reads: those of the
// crowns and the log, also the one after a full page.
type corruptible struct {
	d    *disk.Disk
	read []int
}

func corruptibles(t *testing.T) []corruptible {
	t.Helper()
	fresh := formatted(t, 12, trial.Little)
	long := formatted(t, 12, sized(t, 2*share))
	trial.Do(t, long, 1, trial.Add("x"))
	compacted := formatted(t, 12, trial.Little)
	trial.Do(t, compacted, 1, trial.Add("x"))
	compact(t, compacted)
	full := formatted(t, 12, sized(t, 2*share-2))
	whole := formatted(t, 6, sized(t, 2*share-2))
	return []corruptible{
		{fresh.Disk(), []int{0, 1, 2}},
		{long.Disk(), []int{0, 1, 2, 3, 4}},
		{compacted.Disk(), []int{0, 1, 7}},
		{full.Disk(), []int{0, 1, 2, 3, 4}},
		{whole.Disk(), []int{0, 1, 2, 3}},
	}
}
