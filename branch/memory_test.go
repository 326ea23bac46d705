package branch_test

import (
	"bytes"
	"slices"
	"testing"

	"hourglass/api"
	"hourglass/branch"
	"hourglass/past"
	"hourglass/trial"
)

// spoilPast changes a past.
func spoilPast(t *testing.T, p *past.Past) {
	t.Helper()
	if e := p.Do(trial.Rename("spoiled"), 5000); e != api.OK {
		t.Fatal(e)
	}
	p.Freeze(9000)
}

// TestMemory: nothing that is passed in or returned changes a book afterwards.
func TestMemory(t *testing.T) {
	base := trial.Right(t, trial.Little)
	b, e := branch.New(base)
	if e != api.OK {
		t.Fatal(e)
	}
	trial.SpoilArena(base)
	wantNow(t, b, trial.Little)
	trial.Do(t, b, 1, trial.Add("x"))
	trial.Fork(t, b, "other")
	trial.Do(t, b, 2, trial.Rename("k"))
	before := b.Bytes()
	for range 2 {
		trial.SpoilArena(b.Now())
		trial.SpoilArena(b.Past("trunk").Now())
		trial.SpoilArena(b.Past("trunk").Base())
		spoilPast(t, b.Past("trunk"))
		spoilPast(t, b.Past("other"))
		trial.Spoil(b.Names(), "spoiled")
		trial.Spoil(b.Bytes(), 0xee)
		if !bytes.Equal(b.Bytes(), before) {
			t.Fatal("the book has changed")
		}
		wantNow(t, b, trial.LittleNamed("k")+" module x { }")
	}
	kept := slices.Clone(before)
	c, e := branch.Parse(before)
	if e != api.OK || !bytes.Equal(before, kept) {
		t.Fatal(e)
	}
	trial.Spoil(before, 0xee)
	if !branch.Same(b, c) || !bytes.Equal(c.Bytes(), kept) {
		t.Error("the book has changed with the bytes")
	}
}

// TestCopy: what is done to a copy does not change the original, nor the other
// way round.
func TestCopy(t *testing.T) {
	changes := map[string]func(b *branch.Book){
		"Do":     func(b *branch.Book) { trial.Do(t, b, 4, trial.Rename("z")) },
		"Undo":   func(b *branch.Book) { trial.WantUndo(t, b, 1, 0, api.OK) },
		"Redo":   func(b *branch.Book) { trial.WantRedo(t, b, 3, 0, api.OK) },
		"Fork":   func(b *branch.Book) { trial.Fork(t, b, "more") },
		"Switch": func(b *branch.Book) { trial.Switch(t, b, "other") },
		"Merge":  func(b *branch.Book) { trial.WantMerge(t, b, "other", 0, api.OK) },
		"Freeze": func(b *branch.Book) { b.Freeze() },
	}
	for what, change := range changes {
		for _, original := range []bool{true, false} {
			b := started(t)
			trial.Do(t, b, 1, trial.Add("x"))
			trial.Fork(t, b, "other")
			trial.Switch(t, b, "other")
			trial.Do(t, b, 2, trial.Add("y"))
			trial.Switch(t, b, "trunk")
			trial.Do(t, b, 3, trial.Rename("k"))
			trial.WantUndo(t, b, 3, 0, api.OK)
			c, before := b.Copy(), b.Bytes()
			if !branch.Same(b, c) {
				t.Errorf("%s: a copy is not the same", what)
			}
			changed, other := c, b
			if original {
				changed, other = b, c
			}
			change(changed)
			if branch.Same(b, c) || bytes.Equal(changed.Bytes(), before) || !bytes.Equal(other.Bytes(), before) {
				t.Errorf("%s: changes both, or none", what)
			}
			trial.Switch(t, other, "other")
			wantNow(t, other, trial.Little+" module x { } module y { }")
		}
	}
}

// TestForksAreCopies: also those of one branch.
func TestForksAreCopies(t *testing.T) {
	b := started(t)
	trial.Do(t, b, 1, trial.Add("x"))
	names := []string{"a", "b", "c"}
	for _, name := range names {
		trial.Fork(t, b, name)
	}
	for i, name := range names {
		trial.Switch(t, b, name)
		trial.Do(t, b, uint32(i+2), trial.Add(name))
	}
	for i, name := range names {
		wantPast(t, b, name, 0, live(1, trial.Add("x")), live(uint32(i+2), trial.Add(name)))
	}
	wantPast(t, b, "trunk", 0, live(1, trial.Add("x")))
}
