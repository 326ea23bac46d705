package engine_test

import (
	"bytes"
	"math"
	"slices"
	"strings"
	"testing"

	"hourglass/api"
	"hourglass/branch"
	"hourglass/crown"
	"hourglass/disk"
	"hourglass/engine"
	"hourglass/op"
	"hourglass/page"
	"hourglass/reel"
	"hourglass/trial"
)

// share is how many bytes of records a page has.
const share = page.Room - 4

func newDisk(t *testing.T, sectors int) *disk.Disk {
	t.Helper()
	d, errno := disk.New(sectors)
	if errno != api.OK {
		t.Fatal(errno)
	}
	return d
}

func bookOf(t *testing.T, program string) *branch.Book {
	t.Helper()
	b, errno := branch.New(trial.Right(t, program))
	if errno != api.OK {
		t.Fatal(errno)
	}
	return b
}

func formatted(t *testing.T, sectors int, program string) *engine.Engine {
	t.Helper()
	e, errno := engine.Format(newDisk(t, sectors), program)
	if e == nil || errno != api.OK {
		t.Fatalf("Format: %v, error %d", e, errno)
	}
	return e
}

func recovered(t *testing.T, d *disk.Disk) *engine.Engine {
	t.Helper()
	e, at, errno := engine.Recover(d)
	if e == nil || at != 0 || errno != api.OK {
		t.Fatalf("Recover: %v, %d, error %d", e, at, errno)
	}
	return e
}

func crashed(t *testing.T, d *disk.Disk, keep ...bool) *disk.Disk {
	t.Helper()
	c, errno := d.Crash(keep...)
	if errno != api.OK {
		t.Fatal(errno)
	}
	return c
}

func wantNoRecover(t *testing.T, what string, d *disk.Disk, at int, want api.Errno) {
	t.Helper()
	e, got, errno := engine.Recover(d)
	if e != nil || got != at || errno != want {
		t.Errorf("Recover of %s: %v, %d, error %d, want %d, error %d", what, e, got, errno, at, want)
	}
}

// wantEngine expects what an engine tells of its book and its log.
func wantEngine(t *testing.T, e *engine.Engine, book *branch.Book, gen uint32, commands int) {
	t.Helper()
	if !branch.Same(e.Book(), book) {
		t.Error("the book is another one")
	}
	if e.Gen() != gen || e.Commands() != commands {
		t.Errorf("Gen %d, %d commands, want %d, %d", e.Gen(), e.Commands(), gen, commands)
	}
}

// wantKept expects that calls change nothing of what an engine tells, and
// nothing of what Recover finds.
func wantKept(t *testing.T, e *engine.Engine, calls func()) {
	t.Helper()
	book, gen, commands, room := e.Book(), e.Gen(), e.Commands(), e.Room()
	calls()
	wantEngine(t, e, book, gen, commands)
	wantEngine(t, recovered(t, e.Disk()), book, gen, commands)
	if e.Room() != room {
		t.Errorf("Room %d, want %d", e.Room(), room)
	}
}

// log returns the log of a disk.
func log(t *testing.T, d *disk.Disk) *reel.Reel {
	t.Helper()
	c, _, errno := crown.Read(d)
	if errno != api.OK {
		t.Fatal(errno)
	}
	r, _, errno := reel.Open(d, c)
	if errno != api.OK {
		t.Fatal(errno)
	}
	return r
}

// checkpoint is the record of a book.
func checkpoint(b *branch.Book) []byte {
	return append([]byte{1}, b.Bytes()...)
}

// wantRecords expects the commands that follow the checkpoint of a book.
func wantRecords(t *testing.T, d *disk.Disk, b *branch.Book, commands ...[]byte) {
	t.Helper()
	got := log(t, d).Records()
	if want := append([][]byte{checkpoint(b)}, commands...); !slices.EqualFunc(got, want, bytes.Equal) {
		t.Errorf("the records are % x, want % x", got, want)
	}
}

// sectors are what a disk has.
func sectors(t *testing.T, d *disk.Disk) [][]byte {
	t.Helper()
	var l [][]byte
	for i := range d.Sectors() {
		p, errno := d.Read(i)
		if errno != api.OK {
			t.Fatal(errno)
		}
		l = append(l, p)
	}
	return l
}

// wantSectors expects these bytes from sector 0 on, and zeros after them.
func wantSectors(t *testing.T, d *disk.Disk, want ...[]byte) {
	t.Helper()
	for i, p := range sectors(t, d) {
		if i < len(want) && len(want[i]) > 0 && !bytes.Equal(p, want[i]) {
			t.Errorf("sector %d begins with % x, want % x", i, p[:40], want[i][:40])
		}
		if (i >= len(want) || len(want[i]) == 0) && !page.Blank(p) {
			t.Errorf("sector %d begins with % x, want zeros", i, p[:40])
		}
	}
}

func sector(t *testing.T, p page.Page) []byte {
	t.Helper()
	b, errno := p.Bytes()
	if errno != api.OK {
		t.Fatal(errno)
	}
	return b
}

// written returns the sectors of records that were written at once, with the
// Serial 1 more than the crown's.
func written(t *testing.T, c crown.Crown, records ...[]byte) [][]byte {
	t.Helper()
	var l [][]byte
	link := []byte{0, 0, 0, 0}
	for part := range slices.Chunk(reel.Lay(records...), share) {
		l = append(l, sector(t, page.Page{Gen: c.Gen, Serial: c.Serial + 1, Number: uint32(len(l)), Kind: 1, Data: slices.Concat(link, part)}))
		link = []byte{0, 0, 0, byte(c.Serial + 1)}
	}
	return l
}

func crownSector(t *testing.T, c crown.Crown) []byte {
	t.Helper()
	return sector(t, page.Page{Gen: c.Gen, Serial: c.Serial, Kind: 9, Data: []byte{c.Half}})
}

func TestExample(t *testing.T) {
	e := formatted(t, 64, trial.Little)
	trial.Do(t, e, 1, trial.Rename("k"))
	r := recovered(t, crashed(t, e.Disk()))
	wantEngine(t, r, bookOf(t, trial.Little), 1, 0)
}

// everyCommand gives one of each kind, and returns their records.
func everyCommand(t *testing.T, h trial.History) [][]byte {
	t.Helper()
	trial.Do(t, h, 1, trial.Add("x"))
	trial.Do(t, h, 2, trial.Rename("k"))
	trial.WantUndo(t, h, 1, 0, api.OK)
	trial.WantRedo(t, h, 1, 0, api.OK)
	trial.Fork(t, h, "b")
	trial.Switch(t, h, "b")
	trial.Do(t, h, 3, op.Op{Kind: op.ExtractFunc, A: 6, B: trial.Made(1), Name: "one"})
	trial.Switch(t, h, "trunk")
	trial.WantMerge(t, h, "b", 0, api.OK)
	return [][]byte{
		{2, 10, 0, 0, 1, 'x'},
		{2, 1, 2, 0, 1, 'k'},
		{3, 1},
		{4, 1},
		{5, 1, 'b'},
		{6, 1, 'b'},
		{2, 8, 6, 0x81, 0x80, 4, 3, 'o', 'n', 'e'},
		{6, 5, 't', 'r', 'u', 'n', 'k'},
		{7, 1, 'b'},
	}
}

func TestCommands(t *testing.T) {
	e, book := formatted(t, 64, trial.Little), bookOf(t, trial.Little)
	wantRecords(t, e.Disk(), book)
	room := e.Room()
	records := everyCommand(t, e)
	wantRecords(t, e.Disk(), book, records...)
	everyCommand(t, book)
	wantEngine(t, e, book, 1, len(records))
	wantEngine(t, recovered(t, e.Disk()), book, 1, len(records))
	if want := room - len(reel.Lay(records...)); e.Room() != want {
		t.Errorf("Room %d, want %d", e.Room(), want)
	}
	if len(e.Disk().Waiting()) == 0 || e.Dead() {
		t.Error("a command syncs, or the disk is off")
	}
	wantEngine(t, recovered(t, crashed(t, e.Disk())), bookOf(t, trial.Little), 1, 0)
	trial.WantErrno(t, "Sync", e.Sync(), api.OK)
	wantEngine(t, recovered(t, crashed(t, e.Disk())), book, 1, len(records))
}

// TestStamps: they may need several bytes.
func TestStamps(t *testing.T) {
	e := formatted(t, 64, trial.Little)
	for i := range uint32(300) {
		trial.Do(t, e, i+1, trial.Rename([]string{"k", "l"}[i%2]))
	}
	trial.WantUndo(t, e, 127, 0, api.OK)
	trial.WantUndo(t, e, 128, 0, api.OK)
	trial.WantRedo(t, e, 128, 0, api.OK)
	trial.WantUndo(t, e, 300, 0, api.OK)
	l := log(t, e.Disk()).Records()
	if got, want := l[len(l)-4:], [][]byte{{3, 127}, {3, 0x80, 1}, {4, 0x80, 1}, {3, 0xac, 2}}; !slices.EqualFunc(got, want, bytes.Equal) {
		t.Errorf("% x, want % x", got, want)
	}
	wantEngine(t, recovered(t, e.Disk()), e.Book(), 1, 304)
}

// TestErrors: those of layer 23, and nothing is logged.
func TestErrors(t *testing.T) {
	e := formatted(t, 64, trial.Little)
	everyCommand(t, e)
	trial.Do(t, e, 4, op.Op{Kind: op.RenameModule, A: trial.Made(1), Name: "y"})
	writes := e.Disk().Writes()
	wantKept(t, e, func() {
		trial.WantDo(t, e, trial.Rename("main"), api.ErrClash)
		trial.WantDo(t, e, op.Op{}, api.ErrArg)
		trial.WantDo(t, e, op.Op{Kind: op.RenameModule, A: 2, Name: "if"}, api.ErrArg)
		trial.WantDo(t, e, trial.Drop(7), api.ErrNone)
		trial.WantUndo(t, e, 0, 0, api.ErrUnknown)
		trial.WantUndo(t, e, 5, 0, api.ErrUnknown)
		trial.WantUndo(t, e, 1, 3, api.ErrNone)
		trial.WantRedo(t, e, 1, 0, api.ErrLive)
		trial.WantRedo(t, e, math.MaxUint32, 0, api.ErrUnknown)
		for _, name := range trial.NoNames() {
			trial.WantErrno(t, "Fork", e.Fork(name), api.ErrName)
			trial.WantErrno(t, "Switch", e.Switch(name), api.ErrNone)
			trial.WantMerge(t, e, name, 0, api.ErrNone)
		}
		trial.WantErrno(t, "Fork", e.Fork("b"), api.ErrBranch)
		trial.WantErrno(t, "Switch", e.Switch("c"), api.ErrNone)
		trial.WantMerge(t, e, "trunk", 0, api.ErrBranch)
	})
	trial.WantUndo(t, e, 4, 0, api.OK)
	trial.Do(t, e, 5, trial.Add("y"))
	wantKept(t, e, func() {
		trial.WantUndo(t, e, 4, 0, api.ErrDead)
		trial.WantRedo(t, e, 4, 5, api.ErrClash)
	})
	trial.Switch(t, e, "b")
	trial.Do(t, e, 6, trial.Add("y"))
	wantKept(t, e, func() { trial.WantMerge(t, e, "trunk", 5, api.ErrClash) })
	if got := e.Disk().Writes() - writes; got != 4 || e.Dead() {
		t.Errorf("%d writes for 4 commands", got)
	}
}

// TestFull: a log takes what there is room for.
func TestFull(t *testing.T) {
	e := formatted(t, 4, trial.Little)
	names, done := []string{}, 0
	for e.Room() >= 100 {
		names = append(names, strings.Repeat("n", 60)+string(rune('a'+done)))
		done++
		trial.Do(t, e, uint32(done), trial.Add(names[done-1]))
	}
	for e.Room() > 8 {
		trial.Do(t, e, uint32(done+1), trial.Rename([]string{"k", "l"}[done%2]))
		done++
	}
	commands, room := e.Commands(), e.Room()
	wantKept(t, e, func() {
		trial.WantDo(t, e, trial.Add("other"), api.ErrFull)
		trial.WantErrno(t, "Fork", e.Fork("other"), api.ErrFull)
		trial.WantDo(t, e, trial.Add(names[0]), api.ErrClash) // which comes first
	})
	if e.Dead() {
		t.Error("a log that is full is no disk that is off")
	}
	for e.Room() >= 3 {
		trial.WantUndo(t, e, 1, 0, api.OK)
		if e.Room() >= 3 {
			trial.WantRedo(t, e, 1, 0, api.OK)
		}
	}
	if got := e.Commands() - commands; got != room/3 || got == 0 {
		t.Errorf("%d more commands with room for %d bytes", got, room)
	}
	wantKept(t, e, func() {
		trial.WantErrno(t, "Switch", e.Switch("trunk"), api.ErrFull)
		for _, stamp := range []uint32{1, 2} {
			if _, errno := e.Undo(stamp); errno != api.ErrFull && errno != api.ErrDead {
				t.Error(errno)
			}
		}
	})
	trial.WantErrno(t, "Sync", e.Sync(), api.OK)
	wantEngine(t, recovered(t, crashed(t, e.Disk())), e.Book(), 1, e.Commands())
}

// TestRecordsOnPages: a log goes on where a page ends.
func TestRecordsOnPages(t *testing.T) {
	e := formatted(t, 64, trial.Little)
	book := bookOf(t, trial.Little)
	names := []string{strings.Repeat("a", 64), strings.Repeat("b", 63), strings.Repeat("c", 40), "d"}
	for i := range 60 {
		o := trial.Rename(names[i%4])
		trial.Do(t, e, uint32(i+1), o)
		trial.Do(t, book, uint32(i+1), o)
		wantEngine(t, recovered(t, e.Disk()), book, 1, i+1)
	}
	if pages := (31*share - e.Room()) / share; pages < 5 {
		t.Error(pages)
	}
}

// printed is the text of Little with this name of m.
func printed(name string) string {
	return "module " + name + " {\n\tfunc f() int {\n\t\treturn 1;\n\t}\n}\n" +
		"module main {\n\tfunc main() int {\n\t\tlet x int = " + name + ".f();\n\t\treturn x;\n\t}\n}\n"
}

func wantExport(t *testing.T, e *engine.Engine, want string) {
	t.Helper()
	if got, errno := e.Export(); got != want || errno != api.OK {
		t.Errorf("%q, error %d, want %q", got, errno, want)
	}
}

func TestExport(t *testing.T) {
	e := formatted(t, 64, trial.Little)
	wantExport(t, e, printed("m"))
	trial.Fork(t, e, "b")
	trial.Do(t, e, 1, trial.Rename("k"))
	wantExport(t, e, printed("k"))
	trial.Switch(t, e, "b")
	wantExport(t, e, printed("m"))
	wantExport(t, recovered(t, e.Disk()), printed("m"))
}

// deep has so many statements, each of them after 90 tabs.
func deep(statements int) string {
	return "module main { func main() int { " + strings.Repeat("while false { ", 88) +
		strings.Repeat("print 1; ", statements) + strings.Repeat("} ", 88) + "return 1; } }"
}

func TestExportOfALongText(t *testing.T) {
	if s, errno := formatted(t, 1000, deep(1800)).Export(); len(s) < 1800*98 || errno != api.OK {
		t.Errorf("%d bytes, error %d", len(s), errno)
	}
	e := formatted(t, 1000, deep(2200))
	if s, errno := e.Export(); s != "" || errno != api.ErrLong {
		t.Errorf("%d bytes, error %d, want ErrLong", len(s), errno)
	}
	trial.Do(t, e, 1, trial.Add("x"))
}

func TestImport(t *testing.T) {
	e := formatted(t, 64, trial.Little)
	wantKept(t, e, func() {
		program := "module main { func main() int { return 2; } }"
		a, errno := e.Import(program)
		trial.WantProgram(t, "Import", trial.Of(a, errno), program)
		for program, want := range wrongPrograms(t) {
			if a, errno := e.Import(program); a != nil || errno != want {
				t.Errorf("%q: %v, error %d, want %d", program, a, errno, want)
			}
		}
	})
}

func TestDisk(t *testing.T) {
	d := newDisk(t, 64)
	e, errno := engine.Format(d, trial.Little)
	if e.Disk() != d || errno != api.OK {
		t.Error(errno)
	}
	if recovered(t, d).Disk() != d {
		t.Error("another disk")
	}
}

func TestNil(t *testing.T) {
	var e *engine.Engine
	for _, o := range []op.Op{{}, trial.Add("x")} {
		trial.WantDo(t, e, o, api.ErrNone)
	}
	for _, stamp := range []uint32{0, 1, math.MaxUint32} {
		trial.WantUndo(t, e, stamp, 0, api.ErrNone)
		trial.WantRedo(t, e, stamp, 0, api.ErrNone)
	}
	for _, name := range []string{"", "x", "trunk", "if"} {
		trial.WantErrno(t, "Fork", e.Fork(name), api.ErrNone)
		trial.WantErrno(t, "Switch", e.Switch(name), api.ErrNone)
		trial.WantMerge(t, e, name, 0, api.ErrNone)
	}
	trial.WantErrno(t, "Sync", e.Sync(), api.ErrNone)
	trial.WantErrno(t, "Compact", e.Compact(), api.ErrNone)
	if s, errno := e.Export(); s != "" || errno != api.ErrNone {
		t.Error(s, errno)
	}
	for _, program := range []string{"", trial.Little} {
		if a, errno := e.Import(program); a != nil || errno != api.ErrNone {
			t.Error(a, errno)
		}
	}
	if e.Book() != nil || e.Disk() != nil || e.Gen() != 0 || e.Commands() != 0 || e.Room() != 0 || e.Dead() {
		t.Error("a nil engine has something")
	}
}

// TestMemory: what is returned does not change the engine afterwards.
func TestMemory(t *testing.T) {
	e := formatted(t, 64, trial.Little)
	everyCommand(t, e)
	wantKept(t, e, func() {
		for range 2 {
			book := e.Book()
			trial.Do(t, book, 4, trial.Add("spoiled"))
			trial.Switch(t, book, "b")
			book.Freeze()
			trial.SpoilArena(book.Now())
			a, errno := e.Import(trial.Little)
			if errno != api.OK {
				t.Fatal(errno)
			}
			trial.SpoilArena(a)
		}
	})
	book := e.Book()
	trial.Do(t, e, 4, trial.Add("z"))
	if book.Stamp() != 3 || e.Book().Stamp() != 4 {
		t.Error("the book has changed with the engine")
	}
}
