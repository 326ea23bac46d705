package shell_test

import (
	"math/rand"
	"slices"
	"strings"
	"testing"

	"hourglass/api"
	"hourglass/arena"
	"hourglass/branch"
	"hourglass/judge"
	"hourglass/op"
	"hourglass/past"
	"hourglass/shell"
	"hourglass/step"
	"hourglass/text"
	"hourglass/trial"
)

// garbage returns lines that are nearly something.
func garbage(below func(n int) int) string {
	pieces := slices.Concat(shell.Words(), noNumbers(), []string{"\n", "\n", "\n", " ", "  ", "1", "2", "65537", "255", "01", "-", "x", "trunk", little, little + "\n", "\xff"})
	for kind := range byte(op.SwapParts + 1) {
		pieces = append(pieces, op.Word(kind))
	}
	s := ""
	for range below(60) {
		s += pieces[below(len(pieces))] + []string{" ", "\n", ""}[below(3)]
	}
	return s
}

// TestGarbage: whatever the lines are, each has an answer, and always the same.
func TestGarbage(t *testing.T) {
	r := rand.New(rand.NewSource(1))
	for i := range 2000 {
		s := garbage(r.Intn)
		if i%4 == 0 {
			b := make([]byte, r.Intn(300))
			r.Read(b)
			s = string(b)
		}
		if i%4 == 1 {
			s = little + "\n" + s
		}
		got, e := shell.Run(s)
		again, f := shell.Run(s)
		if e != api.OK || f != api.OK || got != again {
			t.Fatalf("Run of %q: %q, error %d; then %q, error %d", s, got, e, again, f)
		}
		lines, told := slices.Collect(shell.Lines(s)), slices.Collect(shell.Lines(got))
		// Each program has this line once.
		told = slices.DeleteFunc(told, func(answer string) bool { return answer[0] == '|' && answer != "|module main {" })
		if len(lines) != len(told) {
			t.Fatalf("Run of %q: %q, %d answers to %d lines", s, got, len(told), len(lines))
		}
	}
}

// history is a random script, and the book that it makes.
type history struct {
	lines []string
	book  *branch.Book
}

// anyHistory has so many operations at most, on one branch.
func anyHistory(t *testing.T, below func(n int) int, most int) history {
	t.Helper()
	program := anyProgram(below)
	b, e := branch.New(trial.Right(t, program))
	if e != api.OK {
		t.Fatal(e)
	}
	h := history{lines: []string{"format " + program}, book: b}
	for range most {
		h.do(trial.Changer{Below: below, Arena: b.Now()}.Op())
	}
	return h
}

// do adds an operation, if it is possible.
func (h *history) do(o op.Op) {
	if _, e := h.book.Do(o); e == api.OK {
		h.lines = append(h.lines, o.Text())
	}
}

func (h *history) past() *past.Past {
	return h.book.Past(h.book.Current())
}

func (h *history) answers(t *testing.T, more ...string) []string {
	t.Helper()
	return answers(t, append(slices.Clone(h.lines), more...)...)[len(h.lines):]
}

func shown(t *testing.T, a *arena.Arena) []string {
	t.Helper()
	s, e := text.Print(a)
	if e != api.OK {
		t.Fatal(e)
	}
	var l []string
	for _, line := range strings.SplitAfter(s, "\n") {
		if line != "" {
			l = append(l, "|"+strings.TrimSuffix(line, "\n"))
		}
	}
	return l
}

// TestBehavior: whatever is done to a program, it goes on doing the same.
func TestBehavior(t *testing.T) {
	below := rand.New(rand.NewSource(1)).Intn
	compared := 0
	for range 60 {
		h := anyHistory(t, below, 12)
		var script []string
		for _, line := range h.lines {
			script = append(script, line, "run", "run 3 -1 2", "run 1 1 1 1 1 1")
		}
		got := answers(t, script...)
		for i := 4; i < len(got); i++ {
			before, after := got[i-4], got[i]
			if i%4 > 0 && !strings.HasPrefix(before, "spent") && !strings.HasPrefix(after, "spent") {
				compared++
				if before != after {
					t.Fatalf("%q: %s, then %s", script[:i+1], before, after)
				}
			}
		}
	}
	if compared < 500 {
		t.Error(compared)
	}
}

// TestUndoIsAFold: a step can be undone if the others can be folded without it,
// and redone if they can be folded with it.
func TestUndoIsAFold(t *testing.T) {
	below := rand.New(rand.NewSource(1)).Intn
	counts := trial.Counts{}
	for range 20 {
		h := anyHistory(t, below, 10)
		for _, word := range []string{"undo", "redo", "undo"} {
			for _, entry := range h.past().All() {
				if entry.Live != (word == "undo") {
					continue
				}
				now, cause, e := step.Fold(h.past().Base(), turned(h.past(), entry.Stamp))
				line := word + " " + itoa(entry.Stamp)
				got := h.answers(t, line, "program")
				if e != api.OK {
					now = h.past().Now()
				}
				if want := append([]string{orCause(cause, e)}, shown(t, now)...); !slices.Equal(got, want) {
					t.Fatalf("%q, %s: %q, want %q", h.lines, line, got, want)
				}
				counts.Add(word, e)
				if e == api.OK && below(2) == 0 {
					trial.Command{Word: word, Stamp: entry.Stamp}.To(h.book)
					h.lines = append(h.lines, line)
				}
			}
		}
	}
	counts.Want(t, "undo", 10, api.OK, api.ErrNone)
	counts.Want(t, "redo", 10, api.OK)
}

// turned returns the live steps, of which one is no longer live, or one more is.
func turned(p *past.Past, stamp uint32) []step.Stamped {
	var l []step.Stamped
	for _, e := range p.All() {
		if e.Live != (e.Stamp == stamp) {
			l = append(l, step.Stamped{Stamp: e.Stamp, Op: e.Op})
		}
	}
	return l
}

// TestMergeIsAFold: what is merged comes after what there is; if all that was
// done on the branches commutes, the other order makes the same program.
func TestMergeIsAFold(t *testing.T) {
	below := rand.New(rand.NewSource(1)).Intn
	counts := trial.Counts{}
	for range 150 {
		h := anyHistory(t, below, 3)
		base := h.past()
		doAll := func(name string) []op.Op {
			trial.Switch(t, h.book, name)
			h.lines = append(h.lines, "switch "+name)
			for range 1 + below(3) {
				h.do(trial.Changer{Below: below, Arena: h.book.Now()}.Op())
			}
			return opsOf(h.past().Live()[len(base.Live()):])
		}
		trial.Fork(t, h.book, "x")
		h.lines = append(h.lines, "fork x")
		l, m := doAll("x"), doAll("trunk")
		trunk, x := h.past(), h.book.Past("x")
		now, cause, e := step.Fold(trunk.Now(), x.Live()[len(base.Live()):])
		got := h.answers(t, "merge x", "program")
		if e != api.OK {
			now = trunk.Now()
		}
		if want := append([]string{orCause(cause, e)}, shown(t, now)...); !slices.Equal(got, want) {
			t.Fatalf("%q: %q, want %q", h.lines, got, want)
		}
		counts.Add("merge", e)
		if !judge.Apart(base.Now(), l, m) {
			continue
		}
		counts.Add("apart", e)
		if other := h.answers(t, "switch x", "merge trunk", "program"); got[0] != "ok" || other[0] != "ok" || !slices.Equal(got, other[1:]) {
			t.Fatalf("%q: %q, but in the other order %q", h.lines, got, other)
		}
	}
	counts.Want(t, "merge", 10, api.OK)
	counts.Want(t, "merge", 2, api.ErrNone, api.ErrClash)
	counts.Want(t, "apart", 10, api.OK)
}

func opsOf(l []step.Stamped) []op.Op {
	var ops []op.Op
	for _, s := range l {
		ops = append(ops, s.Op)
	}
	return ops
}
