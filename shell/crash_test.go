package shell_test

import (
	"math/rand"
	"slices"
	"strings"
	"testing"

	"hourglass/api"
)

func TestCrash(t *testing.T) {
	wantTalk(t,
		"> "+little, "ok",
		"> add-module a", "1",
		"> add-module b", "2",
		"> sync", "ok",
		"> add-module c", "3",
		"> fork x", "ok",
		"> crash -", "ok",
		"> log", "1+ 2+",
		"> branches", "trunk",
		"> commands", "2",
		"> add-module d", "3",
		"> add-module e", "4",
		"> crash 10", "ok",
		"> log", "1+ 2+ 3+",
		"> add-module f", "4",
		"> add-module g", "5",
		"> crash 01", "ok",
		"> log", "1+ 2+ 3+ 4+ 5+",
		"> add-module h", "6",
		"> crash 0", "ok",
		"> log", "1+ 2+ 3+ 4+ 5+",
		"> add-module h", "6",
		"> add-module i", "7",
		"> crash 1", "ok",
		"> stamp", "6",
		"> add-module i", "7",
		"> crash 1111111", "ok", // more than there are
		"> stamp", "7",
		"> crash 0000000", "ok",
		"> stamp", "7",
	)
}

// TestSecondCrash: a crash leaves another disk, without a limit and with nothing
// that waits.
func TestSecondCrash(t *testing.T) {
	wantTalk(t,
		"> "+little, "ok",
		"> add-module a", "1",
		"> limit 0", "ok",
		"> crash -", "ok",
		"> add-module b", "1",
		"> sync", "ok",
		"> crash -", "ok",
		"> where 65537", "2 b",
		"> crash -", "ok",
		"> where 65537", "2 b",
	)
}

// TestCrashWithoutEngine: what the disk has lost is lost, even if Recover fails.
func TestCrashWithoutEngine(t *testing.T) {
	wantTalk(t,
		"> "+little, "ok",
		"> add-module a", "1",
		"> sync", "ok",
		"> add-module b", "2",
		"> rot 0 7 1", "ok",
		"> crash -", "error 7 0",
		"> log", "error 3",
		"> crash 1", "error 7 0",
		"> rot 0 7 1", "ok",
		"> recover", "ok",
		"> log", "1+",
	)
}

// TestLimit: once the disk has stopped, only what comes after Recover writes.
func TestLimit(t *testing.T) {
	wantTalk(t,
		"> "+little, "ok",
		"> add-module a", "1",
		"> limit 1", "ok",
		"> add-module b", "2",
		"> add-module a", "error 10",
		"> add-module c", "error 8",
		"> stamp", "2",
		"> limit 100", "ok",
		"> add-module c", "error 8",
		"> undo 1", "error 8",
		"> fork x", "error 8",
		"> sync", "error 8",
		"> compact", "error 8",
		"> log", "1+ 2+",
		"> gen", "1",
		"> program", printed("m")+"\n|module a {\n|}\n|module b {\n|}",
		"> run", "done 1",
		"> recover", "ok",
		"> log", "1+ 2+",
		"> add-module c", "3",
		"> limit 1", "ok",
		"> sync", "ok",
		"> sync", "error 8",
		"> crash -", "ok",
		"> log", "1+ 2+ 3+",
	)
	wantTalk(t, "> "+little, "ok", "> limit 0", "ok", "> limit 2", "ok", "> add-module a", "1", "> sync", "ok", "> add-module a", "error 10", "> add-module b", "error 8")
}

// TestLimitedFormat: the disk is there before the first format, and the same one
// afterwards.
func TestLimitedFormat(t *testing.T) {
	needed := 0
	for ; answers(t, "limit "+itoa(needed), little)[1] != "ok"; needed++ {
		wantTalk(t,
			"> limit "+itoa(needed), "ok",
			"> "+little, "error 8",
			"> stamp", "error 3",
			"> limit 100", "ok",
			"> "+little, "ok",
			"> crash -", "ok",
			"> program", printed("m"),
		)
	}
	if needed < 5 {
		t.Error(needed)
	}
	wantTalk(t,
		"> "+little, "ok",
		"> add-module a", "1",
		"> sync", "ok",
		"> format module main { func main() int { return 5; } }", "ok",
		"> run", "done 5",
		"> crash -", "ok",
		"> run", "done 5",
		"> log", "-",
		"> gen", "1",
	)
}

func TestRot(t *testing.T) {
	wantTalk(t,
		"> "+little, "ok",
		"> rot 2 100 129", "ok",
		"> stamp", "0", // the engine has read it
		"> recover", "error 7 2",
		"> stamp", "error 3",
		"> rot 2 100 128", "ok",
		"> crash -", "error 7 2",
		"> rot 2 100 1", "ok",
		"> recover", "ok",
		"> stamp", "0",
		"> rot 0 0 1", "ok",
		"> rot 1 4088 255", "ok",
		"> recover", "error 7 0",
		"> rot 0 0 1", "ok",
		"> recover", "error 7 1",
		"> rot 1 4088 255", "ok",
		"> rot 3 0 255", "ok",
		"> rot 399 1000 255", "ok",
		"> recover", "ok",
		"> compact", "ok",
		"> rot 2 0 255", "ok",
		"> crash -", "ok",
		"> rot 201 7 1", "ok",
		"> crash -", "error 7 201",
		"> add-module a", "error 3",
		"> rot 201 7 255", "ok",
		"> rot 201 7 254", "ok",
		"> crash -", "ok",
		"> gen", "2",
	)
}

// TestRotOfWaitingWrites: both what is durable and what is not is changed.
func TestRotOfWaitingWrites(t *testing.T) {
	for _, crash := range []string{"crash -", "crash 1", "recover"} {
		wantTalk(t,
			"> "+little, "ok",
			"> add-module a", "1",
			"> rot 2 400 2", "ok",
			"> "+crash, "error 7 2",
			"> rot 2 400 2", "ok",
			"> "+crash, "ok",
		)
	}
}

// TestCorruption: whatever is inverted in a sector that is read is found.
func TestCorruption(t *testing.T) {
	below := rand.New(rand.NewSource(1)).Intn
	for _, c := range []struct {
		lines []string
		read  []int
	}{
		{[]string{little}, []int{0, 1, 2}},
		{[]string{little, "add-module a"}, []int{0, 1, 2}},
		{[]string{little, "compact"}, []int{0, 1, 201}},
		{[]string{little, "compact", "compact"}, []int{0, 1, 2}},
		{[]string{"format module main { func main() int { " + many(60) + "return 1; } }"}, []int{0, 1, 2, 3, 4}},
	} {
		lines, want := slices.Clone(c.lines), answers(t, c.lines...)
		for _, sector := range []int{0, 1, 2, 3, 4, 5, 200, 201, 202, 399} {
			for bit := 0; bit <= 4088; bit += 1 + below(100) {
				rot := "rot " + itoa(sector) + " " + itoa(bit) + " " + itoa(1+below(255))
				found := "ok"
				if slices.Contains(c.read, sector) {
					found = "error 7 " + itoa(sector)
				}
				lines = append(lines, rot, "recover", rot, "crash -")
				want = append(want, "ok", found, "ok", "ok")
			}
		}
		wantAnswers(t, lines, want)
	}
}

// views are lines that tell all of a book, and change nothing.
func views() []string {
	l := []string{"gen", "commands", "branch", "branches", "stamp", "log", "program", "run 1 2 3"}
	for i := range 5 {
		l = append(l, "where "+itoa(2+8*i), "where "+itoa(65536*(1+i)+1))
	}
	return l
}

// seenAfter returns what views tell after some lines, of which the answers have
// one line each.
func seenAfter(t *testing.T, lines ...string) string {
	t.Helper()
	all := answers(t, slices.Concat(lines, views())...)
	return strings.Join(all[len(lines):], "\n")
}

// tale is a script with crashes.
type tale struct {
	*model
	// done are the lines that have made what there is, and seen is what there
	// was after each of them.
	done, seen []string
	// synced is how many of these a crash must keep.
	synced int
	// stopped is the line at which the disk has stopped, if it has.
	stopped string
}

func newTale(t *testing.T, below func(n int) int) *tale {
	t.Helper()
	s := &tale{model: newModel(t, below)}
	s.format(anyProgram(below))
	s.note(t, s.lines[0])
	s.synced = 1
	return s
}

func (s *tale) note(t *testing.T, line string) {
	t.Helper()
	s.done = append(s.done, line)
	s.seen = append(s.seen, seenAfter(t, s.done...))
}

// add adds a line that changes or keeps something.
func (s *tale) add(t *testing.T) {
	t.Helper()
	switch s.below(8) {
	case 0:
		s.say(orError("ok", s.engine.Sync()), "sync")
	case 1:
		s.say(orError("ok", s.engine.Compact()), "compact")
	default:
		s.command()
	}
	last := len(s.lines) - 1
	switch line := s.lines[last]; {
	case errorIn(s.want[last]) == api.ErrOff && s.stopped == "":
		s.stopped = line
	case errorIn(s.want[last]) != api.OK:
		return
	default:
		s.note(t, line)
		if line == "sync" || line == "compact" {
			s.synced = len(s.done)
		}
	}
}

// find goes back to what a crash has left, and tells how much that is. Nothing
// more of it can be lost.
func (s *tale) find(t *testing.T) string {
	t.Helper()
	got, last, stopped := seenAfter(t, s.lines...), len(s.done), s.stopped
	s.stopped = ""
	p := last
	for p > s.synced && s.seen[p-1] != got {
		p--
	}
	if s.seen[p-1] == got {
		before := s.synced
		s.done, s.seen, s.synced = s.done[:p], s.seen[:p], p
		switch {
		case last == before:
			return "all was synced"
		case p == last:
			return "all was kept"
		case p == before:
			return "none was kept"
		}
		return "some was kept"
	}
	if stopped != "" {
		s.note(t, stopped)
		s.synced = last + 1
		if s.seen[last] == got {
			return "what stopped was kept"
		}
	}
	t.Fatalf("%q leaves\n%s", s.lines, got)
	return ""
}

// again is Recover of the same disk, which may have stopped, and goes on.
func (s *tale) again(t *testing.T) {
	t.Helper()
	s.limit(100000)
	s.recovered("recover")
	got := seenAfter(t, s.lines...)
	if s.stopped != "" && got != s.seen[len(s.seen)-1] {
		s.note(t, s.stopped)
	}
	if got != s.seen[len(s.seen)-1] {
		t.Fatalf("%q leaves\n%s", s.lines, got)
	}
	s.stopped = ""
}

// TestCrashes: a crash leaves what there was after some of the lines, which are
// at least those that were synced, and at most all, with the one at which the
// disk stopped; also after other crashes, and after a Recover without one.
func TestCrashes(t *testing.T) {
	below := rand.New(rand.NewSource(1)).Intn
	counts := map[string]int{}
	for range 50 {
		s := newTale(t, below)
		for range 5 {
			s.limit(below(15))
			for range 5 {
				s.add(t)
			}
			if below(4) == 0 {
				s.again(t)
				continue
			}
			s.crash()
			if s.want[len(s.want)-1] != "ok" {
				t.Fatalf("%q: %s", s.lines, s.want[len(s.want)-1])
			}
			counts[s.find(t)]++
		}
		wantAnswers(t, s.lines, s.want)
	}
	for _, what := range []string{"all was kept", "some was kept", "none was kept", "what stopped was kept"} {
		if counts[what] < 3 {
			t.Error("the crashes are all alike", counts)
		}
	}
}
