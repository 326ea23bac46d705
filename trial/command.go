package trial

import (
	"strconv"

	"hourglass/api"
	"hourglass/branch"
	"hourglass/op"
	"hourglass/past"
)

// History is what commands are given to.
type History interface {
	Do(o op.Op) (uint32, api.Errno)
	Undo(stamp uint32) (uint32, api.Errno)
	Redo(stamp uint32) (uint32, api.Errno)
	Fork(name string) api.Errno
	Switch(name string) api.Errno
	Merge(name string) (uint32, api.Errno)
}

// Command is one of a history, by its name, and what it is given.
type Command struct {
	Word  string
	Op    op.Op
	Stamp uint32
	Name  string
}

// To gives a command to a history.
func (c Command) To(h History) (uint32, api.Errno) {
	switch c.Word {
	case "undo":
		return h.Undo(c.Stamp)
	case "redo":
		return h.Redo(c.Stamp)
	case "fork":
		return 0, h.Fork(c.Name)
	case "switch":
		return 0, h.Switch(c.Name)
	case "merge":
		return h.Merge(c.Name)
	}
	return h.Do(c.Op)
}

// AnyCommand chooses one, mostly one that the book can take.
func AnyCommand(below func(n int) int, b *branch.Book) Command {
	switch below(16) {
	case 0, 1:
		return Command{Word: "undo", Stamp: anyStamp(below, b, true)}
	case 2, 3:
		return Command{Word: "redo", Stamp: anyStamp(below, b, false)}
	case 4:
		return Command{Word: "fork", Name: Changer{Below: below}.One("a", "b", "c", "d", "e", "f", "trunk", "if")}
	case 5:
		return Command{Word: "switch", Name: anyBranch(below, b)}
	case 6:
		return Command{Word: "merge", Name: anyBranch(below, b)}
	}
	return Command{Word: "do", Op: Changer{Below: below, Arena: b.Now()}.Op()}
}

// anyStamp returns one of the current branch, mostly of an entry that is live,
// or not.
func anyStamp(below func(n int) int, b *branch.Book, live bool) uint32 {
	var l []past.Entry
	for _, e := range b.Past(b.Current()).All() {
		if e.Live == live || below(5) == 0 {
			l = append(l, e)
		}
	}
	if len(l) == 0 || below(12) == 0 {
		return uint32(below(int(b.Stamp()) + 3))
	}
	return l[below(len(l))].Stamp
}

func anyBranch(below func(n int) int, b *branch.Book) string {
	if below(15) == 0 {
		return "none"
	}
	return Changer{Below: below}.One(b.Names()...)
}

// Do expects that a history does an operation, with this stamp.
func Do(t T, h History, want uint32, o op.Op) {
	t.Helper()
	stamp, e := h.Do(o)
	WantCause(t, "Do of "+o.Text(), stamp, e, want, api.OK)
}

func Fork(t T, h History, name string) {
	t.Helper()
	WantErrno(t, "Fork of "+name, h.Fork(name), api.OK)
}

func Switch(t T, h History, name string) {
	t.Helper()
	WantErrno(t, "Switch to "+name, h.Switch(name), api.OK)
}

// WantDo expects an error.
func WantDo(t T, h History, o op.Op, want api.Errno) {
	t.Helper()
	stamp, e := h.Do(o)
	WantCause(t, "Do of "+o.Text(), stamp, e, 0, want)
}

// WantUndo expects an error with this cause, or 0 and OK.
func WantUndo(t T, h History, stamp, cause uint32, want api.Errno) {
	t.Helper()
	got, e := h.Undo(stamp)
	WantCause(t, "Undo of "+strconv.Itoa(int(stamp)), got, e, cause, want)
}

func WantRedo(t T, h History, stamp, cause uint32, want api.Errno) {
	t.Helper()
	got, e := h.Redo(stamp)
	WantCause(t, "Redo of "+strconv.Itoa(int(stamp)), got, e, cause, want)
}

func WantMerge(t T, h History, name string, cause uint32, want api.Errno) {
	t.Helper()
	got, e := h.Merge(name)
	WantCause(t, "Merge of "+name, got, e, cause, want)
}
