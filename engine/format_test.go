package engine_test

import (
	"math/rand"
	"slices"
	"strconv"
	"strings"
	"testing"

	"hourglass/api"
	"hourglass/check"
	"hourglass/crown"
	"hourglass/disk"
	"hourglass/engine"
	"hourglass/grammar"
	"hourglass/reel"
	"hourglass/trial"
)

// wrongPrograms are some for each error of layers 9 and 11.
func wrongPrograms(t *testing.T) map[string]api.Errno {
	t.Helper()
	l := map[string]api.Errno{
		"":       api.ErrNone, // there is no Main
		"module": api.ErrText,
		"module m { func f() int { return 1; } }":                          api.ErrNone,
		"module m { } module m { }":                                        api.ErrClash,
		trial.Little + " module main { }":                                  api.ErrClash,
		"module main { func main() int { return x; } }":                    api.ErrName,
		"module main { func main() int { return true; } }":                 api.ErrType,
		"module main { func main(a int) int { return 1; } }":               api.ErrNone,
		"module main { func main() bool { return true; } }":                api.ErrNone,
		"module main { func main() int { return 99999999999999999999; } }": api.ErrText,
		strings.Repeat(" ", api.MaxText+1):                                 api.ErrLong,
	}
	for program, want := range l {
		a, errno := grammar.Parse(program)
		if errno == api.OK {
			errno = check.Right(a)
		}
		if errno != want {
			t.Errorf("%q is error %d, not %d", program[:min(len(program), 80)], errno, want)
		}
	}
	return l
}

// modules returns so many, with names of so many bytes that no others have.
func modules(from, count, length int) string {
	var b strings.Builder
	for i := range count {
		digits := strconv.Itoa(from + i)
		b.WriteString(" module m" + strings.Repeat("x", length-1-len(digits)) + digits + " { }")
	}
	return b.String()
}

// sized returns a program of which the first checkpoint has so many bytes.
func sized(t *testing.T, size int) string {
	t.Helper()
	const shortest, longest = 6, 64
	program, count := trial.Little, 1000
	missing := func(more string) int { return size - len(checkpoint(bookOf(t, program+more))) }
	add := func(many, length int) {
		program += modules(count, many, length)
		count += many
	}
	for missing("") > 1000 {
		add(missing("")/100, longest) // each of them has less than 100 bytes
	}
	for missing(modules(count, 1, longest)) > 0 {
		add(1, 20)
	}
	more := missing(modules(count, 1, shortest))
	if more < 0 || more > longest-shortest {
		t.Fatalf("%d bytes are missing", more)
	}
	add(1, shortest+more)
	if missing("") != 0 {
		t.Fatalf("%d bytes are missing", missing(""))
	}
	return program
}

func TestFormat(t *testing.T) {
	for _, count := range []int{6, 64, api.MaxSectors} {
		d := newDisk(t, count)
		e, errno := engine.Format(d, trial.Little)
		if e == nil || errno != api.OK {
			t.Fatalf("%v, error %d", e, errno)
		}
		book := bookOf(t, trial.Little)
		wantEngine(t, e, book, 1, 0)
		c := crown.First()
		half := written(t, c, checkpoint(book))
		wantSectors(t, d, append([][]byte{nil, crownSector(t, c)}, half...)...)
		if len(d.Waiting()) > 0 || d.Writes() != 1+len(half) || e.Dead() {
			t.Errorf("%d waiting, %d writes", len(d.Waiting()), d.Writes())
		}
		if want := (count-2)/2*share - len(reel.Lay(checkpoint(book))); e.Room() != want {
			t.Errorf("Room %d, want %d", e.Room(), want)
		}
		wantEngine(t, recovered(t, crashed(t, d)), book, 1, 0)
	}
}

// used returns a disk full of bytes, of which some are waiting.
func used(t *testing.T, count int, blank ...int) *disk.Disk {
	t.Helper()
	d := newDisk(t, count)
	r := rand.New(rand.NewSource(1))
	for i := range count {
		p := make([]byte, api.Sector)
		if !slices.Contains(blank, i) {
			r.Read(p)
		}
		trial.WantErrno(t, "Write", d.Write(i, p), api.OK)
		if i == count/2 {
			trial.WantErrno(t, "Sync", d.Sync(), api.OK)
		}
	}
	return d
}

func TestFormatOfAUsedDisk(t *testing.T) {
	book := bookOf(t, trial.Little)
	want := append([][]byte{nil, crownSector(t, crown.First())}, written(t, crown.First(), checkpoint(book))...)
	for _, blank := range [][]int{nil, {0}, {1, 2, 3}, {0, 1, 40, 63}} {
		d := used(t, 64, blank...)
		writes := d.Writes()
		e, errno := engine.Format(d, trial.Little)
		if errno != api.OK {
			t.Fatal(errno)
		}
		wantEngine(t, e, book, 1, 0)
		wantSectors(t, d, want...)
		wantSectors(t, crashed(t, d), want...)
		if got, want := d.Writes()-writes, 64-len(blank)+len(want)-1; got != want {
			t.Errorf("%d writes, want %d", got, want)
		}
	}
	d := formatted(t, 64, deep(100)).Disk()
	if _, errno := engine.Format(d, trial.Little); errno != api.OK {
		t.Fatal(errno)
	}
	wantSectors(t, d, want...)
}

func wantNoFormat(t *testing.T, d *disk.Disk, program string, want api.Errno) {
	t.Helper()
	if e, errno := engine.Format(d, program); e != nil || errno != want {
		t.Errorf("Format of %d sectors with %q: %v, error %d, want %d", d.Sectors(), program[:min(len(program), 60)], e, errno, want)
	}
}

// TestFormatErrors: before the last of them, nothing is written.
func TestFormatErrors(t *testing.T) {
	for program, want := range wrongPrograms(t) {
		wantNoFormat(t, nil, program, api.ErrNone)
		for _, count := range []int{1, 3, 4, 64} {
			d := used(t, count)
			before, writes := sectors(t, d), d.Writes()
			d.Limit(0)
			wantNoFormat(t, d, program, want)
			wantSectors(t, d, before...)
			if d.Writes() != writes {
				t.Error("Format has written")
			}
		}
	}
	wantNoFormat(t, nil, trial.Little, api.ErrNone)
	for count, want := range map[int]api.Errno{1: api.ErrArg, 2: api.ErrArg, 3: api.ErrArg, 4: api.ErrOff, 5: api.ErrOff, 64: api.ErrOff} {
		d := used(t, count)
		before, writes, waiting := sectors(t, d), d.Writes(), len(d.Waiting())
		d.Limit(0)
		wantNoFormat(t, d, trial.Little, want)
		wantSectors(t, d, before...)
		d.Limit(-1)
		if d.Writes() != writes || len(d.Waiting()) != waiting {
			t.Error("Format has written")
		}
	}
}

// TestFormatOfALongProgram: the checkpoint is a record, for which there must be
// room.
func TestFormatOfALongProgram(t *testing.T) {
	const prefix = 2 // bytes of the length of a record of 128 to 16383
	for _, c := range []struct {
		size, sectors int
		want          api.Errno
	}{
		{share - prefix, 4, api.OK},
		{share - prefix, 5, api.OK},
		{share - prefix + 1, 4, api.ErrFull},
		{share - prefix + 1, 5, api.ErrFull},
		{share - prefix + 1, 6, api.OK},
		{10*share - prefix, 22, api.OK},
		{10*share - prefix + 1, 23, api.ErrFull},
		{10*share - prefix + 1, 24, api.OK},
		{api.MaxRecord, 1000, api.OK},
		{api.MaxRecord, 270, api.ErrFull},
		{api.MaxRecord + 1, 1000, api.ErrLong},
		{api.MaxRecord + 1, 4, api.ErrLong},
		{api.MaxRecord + 1, 3, api.ErrArg},
	} {
		program := sized(t, c.size)
		d := used(t, c.sectors)
		d.Limit(0)
		if c.want != api.OK {
			wantNoFormat(t, d, program, c.want)
			continue
		}
		wantNoFormat(t, d, program, api.ErrOff)
		d.Limit(-1)
		e, errno := engine.Format(d, program)
		if e == nil || errno != api.OK {
			t.Fatalf("%d bytes on %d sectors: %v, error %d", c.size, c.sectors, e, errno)
		}
		wantEngine(t, recovered(t, crashed(t, d)), bookOf(t, program), 1, 0)
		if want := (c.sectors-2)/2*share - len(reel.Lay(make([]byte, c.size))); e.Room() != want {
			t.Errorf("Room %d, want %d", e.Room(), want)
		}
	}
}

// syncing is a step of a disk, as the writes to the sectors 0, 1, .. are.
const syncing = -1

// waitingAfter returns the writes that are waiting after some steps.
func waitingAfter(waiting []int, steps ...int) []int {
	for _, step := range steps {
		waiting = append(waiting[:len(waiting):len(waiting)], step)
		if step == syncing {
			waiting = nil
		}
	}
	return waiting
}

// TestFormatOnADiskThatStops: it writes zeros, syncs, executes layer 4's Format,
// which syncs three times and writes a crown, then writes the log, and syncs.
func TestFormatOnADiskThatStops(t *testing.T) {
	program := sized(t, 3*share)
	var all []int
	for i := range 64 {
		all = append(all, i)
	}
	for _, c := range []struct {
		from  *disk.Disk
		zeros []int
	}{{newDisk(t, 64), nil}, {used(t, 64), all}, {used(t, 64, 0, 1, 2), all[3:]}} {
		steps := append(slices.Clone(c.zeros), syncing, syncing, syncing, 1, syncing, 2, 3, 4, 5, syncing)
		for limit := range steps {
			d := c.from.Copy()
			d.Limit(limit)
			wantNoFormat(t, d, program, api.ErrOff)
			if want := waitingAfter(c.from.Waiting(), steps[:limit]...); !slices.Equal(d.Waiting(), want) {
				t.Errorf("after %d steps, %v are waiting, want %v", limit, d.Waiting(), want)
			}
		}
		d := c.from.Copy()
		d.Limit(len(steps))
		e, errno := engine.Format(d, program)
		if e == nil || errno != api.OK || e.Dead() {
			t.Fatalf("%v, error %d", e, errno)
		}
		trial.WantErrno(t, "Sync", e.Sync(), api.ErrOff)
	}
}
