package engine_test

import (
	"bytes"
	"math"
	"math/rand"
	"slices"
	"strings"
	"testing"

	"hourglass/api"
	"hourglass/branch"
	"hourglass/crown"
	"hourglass/disk"
	"hourglass/engine"
	"hourglass/op"
	"hourglass/page"
	"hourglass/tape"
	"hourglass/trial"
)

// laid returns a disk whose log has these records.
func laid(t *testing.T, c crown.Crown, records ...[]byte) *disk.Disk {
	t.Helper()
	d := newDisk(t, 200)
	trial.WantErrno(t, "crown", crown.Write(d, c), api.OK)
	for _, p := range records {
		trial.WantErrno(t, "Append", log(t, d).Append(p), api.OK)
	}
	return d
}

// doing is the record of an operation.
func doing(o op.Op) []byte {
	return append([]byte{2}, o.Bytes()...)
}

// turning is the record of an Undo or Redo.
func turning(kind byte, stamp uint64) []byte {
	return new(tape.Writer).Byte(kind).Num(stamp).Bytes()
}

// visiting is the record of a Fork, Switch or Merge.
func visiting(kind byte, name string) []byte {
	return new(tape.Writer).Byte(kind).Text(name).Bytes()
}

// wantRecover expects a book, and that nothing is written.
func wantRecover(t *testing.T, d *disk.Disk, book *branch.Book, gen uint32, commands int) *engine.Engine {
	t.Helper()
	before, writes, waiting := sectors(t, d), d.Writes(), d.Waiting()
	d.Limit(0)
	e := recovered(t, d)
	d.Limit(-1)
	wantEngine(t, e, book, gen, commands)
	wantSectors(t, d, before...)
	if d.Writes() != writes || !slices.Equal(d.Waiting(), waiting) || e.Dead() {
		t.Error("Recover has written")
	}
	return e
}

func TestRecover(t *testing.T) {
	for _, c := range []crown.Crown{crown.First(), {Gen: 8, Half: 0, Serial: 3}, {Gen: 9, Half: 1}, {Gen: math.MaxUint32, Half: 1, Serial: 1 << 30}} {
		book := bookOf(t, trial.Little)
		d := laid(t, c, checkpoint(book), doing(trial.Add("x")), doing(trial.Rename("k")), turning(3, 1), visiting(5, "b"), visiting(6, "b"), turning(4, 1), visiting(7, "trunk"))
		trial.Do(t, book, 1, trial.Add("x"))
		trial.Do(t, book, 2, trial.Rename("k"))
		trial.WantUndo(t, book, 1, 0, api.OK)
		trial.Fork(t, book, "b")
		trial.Switch(t, book, "b")
		trial.WantRedo(t, book, 1, 0, api.OK)
		trial.WantMerge(t, book, "trunk", 0, api.OK)
		e := wantRecover(t, d, book, c.Gen, 7)
		if e.Room() != log(t, d).Room() {
			t.Error(e.Room())
		}
		trial.Do(t, e, 3, trial.Add("z"))
		trial.Do(t, book, 3, trial.Add("z"))
		wantRecover(t, d, book, c.Gen, 8)
	}
}

// TestRecoverOfAnyBook: the checkpoint may be of any one.
func TestRecoverOfAnyBook(t *testing.T) {
	book := bookOf(t, trial.Little)
	everyCommand(t, book)
	wantRecover(t, laid(t, crown.First(), checkpoint(book)), book, 1, 0)
	book.Freeze()
	d := laid(t, crown.First(), checkpoint(book), doing(trial.Add("y")), turning(3, 4))
	trial.Do(t, book, 4, trial.Add("y"))
	trial.WantUndo(t, book, 4, 0, api.OK)
	e := wantRecover(t, d, book, 1, 2)
	trial.WantUndo(t, e, 3, 0, api.ErrFrozen)
}

func TestRecoverOfWrongRecords(t *testing.T) {
	book := bookOf(t, trial.Little)
	other := bookOf(t, trial.Little)
	other.Freeze()
	first := checkpoint(book)
	for what, records := range map[string][][]byte{
		"no record":                 {},
		"an empty record":           {{}},
		"only a kind":               {{1}},
		"a cut checkpoint":          {first[:len(first)-1]},
		"a long checkpoint":         {append(slices.Clone(first), 0)},
		"another first kind":        {append([]byte{2}, first[1:]...)},
		"the first kind 0":          {append([]byte{0}, first[1:]...)},
		"a command first":           {doing(trial.Add("x")), first},
		"a checkpoint of no book":   {{1, 0, 0, 0}},
		"two checkpoints":           {first, checkpoint(other)},
		"an empty command":          {first, {}},
		"the kind 0":                {first, {0}},
		"the kind 8":                {first, {8, 1, 'x'}},
		"the kind 255":              {first, {255}},
		"no op":                     {first, {2}},
		"a cut op":                  {first, {2, 10, 0, 0, 1}},
		"a long op":                 {first, {2, 10, 0, 0, 1, 'x', 0}},
		"an op that is not right":   {first, {2, 10, 1, 0, 1, 'x'}},
		"an op of no kind":          {first, {2, 15, 1, 0, 1, 'x'}},
		"an op with an error":       {first, doing(trial.Rename("main"))},
		"an op twice":               {first, doing(trial.Add("x")), doing(trial.Add("x"))},
		"no stamp":                  {first, {3}},
		"a cut stamp":               {first, doing(trial.Add("x")), {3, 0x81}},
		"a stamp that is not short": {first, doing(trial.Add("x")), {3, 0x81, 0}},
		"a long Undo":               {first, doing(trial.Add("x")), {3, 1, 0}},
		"a stamp of 2^32 + 1":       {first, doing(trial.Add("x")), turning(3, 1<<32+1)},
		"a stamp of 2^64 - 1":       {first, doing(trial.Add("x")), turning(3, math.MaxUint64)},
		"an unknown stamp":          {first, doing(trial.Add("x")), turning(3, 2)},
		"a stamp that is live":      {first, doing(trial.Add("x")), turning(4, 1)},
		"a stamp that is dead":      {first, doing(trial.Add("x")), turning(3, 1), turning(3, 1)},
		"no name":                   {first, {5}},
		"an empty name":             {first, {5, 0}},
		"a cut name":                {first, {5, 2, 'x'}},
		"a long Fork":               {first, {5, 1, 'x', 'y'}},
		"a keyword":                 {first, visiting(5, "if")},
		"a name that is long":       {first, visiting(5, strings.Repeat("x", api.MaxName+1))},
		"a name that exists":        {first, visiting(5, "trunk")},
		"a Switch to none":          {first, visiting(6, "x")},
		"a long Switch":             {first, append(visiting(6, "trunk"), 0)},
		"a Merge of none":           {first, visiting(7, "x")},
		"a Merge of the current":    {first, visiting(7, "trunk")},
		"one more that is right":    {first, visiting(7, "x"), visiting(6, "trunk")},
	} {
		d := laid(t, crown.First(), records...)
		before, writes := sectors(t, d), d.Writes()
		wantNoRecover(t, what, d, 0, api.ErrForm)
		wantSectors(t, d, before...)
		if d.Writes() != writes {
			t.Error("Recover has written")
		}
	}
	// These are as they should be.
	wantRecover(t, laid(t, crown.First(), first, visiting(6, "trunk")), book, 1, 1)
	trial.Fork(t, book, "x")
	wantRecover(t, laid(t, crown.First(), first, visiting(5, "x"), visiting(7, "x")), book, 1, 2)
}

// TestRecoverOfOtherDisks: the errors of layers 4 and 6.
func TestRecoverOfOtherDisks(t *testing.T) {
	wantNoRecover(t, "nil", nil, 0, api.ErrNone)
	for _, count := range []int{1, 3, 4, 64} {
		wantNoRecover(t, "a new disk", newDisk(t, count), 0, api.ErrNone)
	}
	wantNoRecover(t, "a small disk", used(t, 3), 0, api.ErrNone)
	wantNoRecover(t, "a used disk", used(t, 64), 0, api.ErrCorrupt)
	wantNoRecover(t, "a used disk", used(t, 64, 0), 1, api.ErrCorrupt)
	wantNoRecover(t, "a used disk", used(t, 64, 0, 1), 0, api.ErrNone)
	d := used(t, 64, 0, 1)
	trial.WantErrno(t, "Write", crown.Write(d, crown.First()), api.OK)
	wantNoRecover(t, "a used half", d, 2, api.ErrCorrupt)
	trial.WantErrno(t, "Write", crown.Write(d, crown.First().Next()), api.OK)
	wantNoRecover(t, "the other half", d, 33, api.ErrCorrupt)
	// A page that is no crown is none, also with a right sum.
	p := sector(t, page.Page{Gen: 3, Kind: 9, Data: []byte{2}})
	trial.WantErrno(t, "Write", d.Write(1, p), api.OK)
	wantNoRecover(t, "no crown", d, 1, api.ErrCorrupt)
}

// TestRecoverOfAnyRecord: of whatever record, Recover accepts a command only.
func TestRecoverOfAnyRecord(t *testing.T) {
	below := rand.New(rand.NewSource(1)).Intn
	book := bookOf(t, trial.Little)
	records := everyCommand(t, book.Copy())
	accepted := map[byte]int{}
	for range 4000 {
		p := slices.Clone(records[below(len(records))])
		p = p[:len(p)-below(2)*below(len(p))]
		for range below(3) {
			if len(p) > 0 {
				p[below(len(p))] = byte(below(130))
			}
		}
		d := laid(t, crown.First(), checkpoint(book), records[0], p)
		e, at, errno := engine.Recover(d)
		if errno != api.OK {
			if e != nil || at != 0 || errno != api.ErrForm {
				t.Fatalf("% x: %d, error %d", p, at, errno)
			}
			continue
		}
		accepted[p[0]]++
		if e.Commands() != 2 {
			t.Fatalf("% x: %d commands", p, e.Commands())
		}
		if !bytes.Equal(again(t, p, e), p) {
			t.Fatalf("% x is the same as % x", p, again(t, p, e))
		}
	}
	for kind := byte(2); kind < 7; kind++ {
		if kind != 4 && accepted[kind] < 5 {
			t.Error(kind, accepted[kind])
		}
	}
}

// again returns the record of the command that has made a book of that with the
// module x, in the form in which an engine writes it.
func again(t *testing.T, p []byte, e *engine.Engine) []byte {
	t.Helper()
	book := e.Book()
	switch all := book.Past(book.Current()).All(); {
	case p[0] == 2:
		return doing(all[len(all)-1].Op)
	case p[0] == 3 && !all[0].Live:
		return turning(3, 1)
	case p[0] == 5:
		return visiting(5, book.Names()[1])
	case p[0] == 6:
		return visiting(6, book.Current())
	}
	return nil
}
