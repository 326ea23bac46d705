package shell

import (
	"strconv"
	"strings"

	"hourglass/api"
	"hourglass/engine"
	"hourglass/run"
)

// fuel is that of each run.
const fuel = 1000

// eight is how many bits a rot changes.
const eight = 8

// none stands where there is nothing.
const none = "-"

// command is a line that begins with a word.
type command struct {
	word  string
	takes takes
	// needs tells whether there must be an engine.
	needs  bool
	answer func(s *session, g given) string
}

// commands are those of all lines except operations.
func commands() []command {
	return []command{
		{"branch", nothing, true, (*session).branch},
		{"branches", nothing, true, (*session).branches},
		{"commands", nothing, true, (*session).count},
		{"compact", nothing, true, (*session).compact},
		{"crash", bits, false, (*session).crash},
		{"fork", anything, true, (*session).fork},
		{"format", anything, false, (*session).format},
		{"gen", nothing, true, (*session).gen},
		{"limit", numbers(1), false, (*session).limit},
		{"log", nothing, true, (*session).log},
		{"merge", anything, true, (*session).merge},
		{"program", nothing, true, (*session).program},
		{"recover", nothing, false, (*session).restart},
		{"redo", numbers(1), true, (*session).redo},
		{"rot", place, false, (*session).rot},
		{"run", input, true, (*session).execute},
		{"stamp", nothing, true, (*session).stamp},
		{"switch", anything, true, (*session).change},
		{"sync", nothing, true, (*session).sync},
		{"undo", numbers(1), true, (*session).undo},
		{"where", numbers(1), true, (*session).where},
	}
}

func (s *session) format(g given) string {
	e, errno := engine.Format(s.disk, g.text)
	s.engine = e // nil beside an error
	return done(errno)
}

func (s *session) undo(g given) string {
	return caused(s.engine.Undo(uint32(g.numbers[0])))
}

func (s *session) redo(g given) string {
	return caused(s.engine.Redo(uint32(g.numbers[0])))
}

func (s *session) fork(g given) string {
	return done(s.engine.Fork(g.text))
}

func (s *session) change(g given) string {
	return done(s.engine.Switch(g.text))
}

func (s *session) merge(g given) string {
	return caused(s.engine.Merge(g.text))
}

func (s *session) sync(given) string {
	return done(s.engine.Sync())
}

func (s *session) compact(given) string {
	return done(s.engine.Compact())
}

// crash: what the disk has lost is lost even if Recover fails.
func (s *session) crash(g given) string {
	var keep []bool
	if g.text != none {
		for i := range len(g.text) {
			keep = append(keep, g.text[i] == '1')
		}
	}
	d, errno := s.disk.Crash(keep...)
	if errno != api.OK {
		return failed(errno)
	}
	s.disk = d
	return s.restart(given{})
}

func (s *session) rot(g given) string {
	sector, bit, mask := int(g.numbers[0]), int(g.numbers[1]), uint32(g.numbers[2])
	return done(s.disk.Rot(sector, bit, eight, mask))
}

func (s *session) limit(g given) string {
	s.disk.Limit(int(g.numbers[0]))
	return done(api.OK)
}

func (s *session) restart(given) string {
	e, at, errno := engine.Recover(s.disk)
	s.engine = e // nil beside an error
	if errno == api.ErrCorrupt {
		return failed(errno) + " " + decimal(at)
	}
	return done(errno)
}

func (s *session) program(given) string {
	printed, errno := s.engine.Export()
	if errno != api.OK {
		return failed(errno)
	}
	var lines []string
	for line := range Lines(printed) {
		lines = append(lines, "|"+line)
	}
	return joined(lines, "\n")
}

func (s *session) branch(given) string {
	return s.engine.Book().Current()
}

func (s *session) branches(given) string {
	return joined(s.engine.Book().Names(), " ")
}

func (s *session) stamp(given) string {
	return decimal(s.engine.Book().Stamp())
}

func (s *session) gen(given) string {
	return decimal(s.engine.Gen())
}

func (s *session) count(given) string {
	return decimal(s.engine.Commands())
}

func (s *session) log(given) string {
	book := s.engine.Book()
	var entries []string
	for _, e := range book.Past(book.Current()).All() {
		sign := "-"
		if e.Live {
			sign = "+"
		}
		entries = append(entries, decimal(e.Stamp)+sign)
	}
	return joined(entries, " ")
}

func (s *session) execute(g given) string {
	r := run.Run(s.engine.Book().Now(), g.numbers, fuel)
	words := []string{end(r), decimal(r.Value)}
	for _, n := range r.Trace {
		words = append(words, decimal(n))
	}
	return joined(words, " ")
}

func end(r run.Result) string {
	switch r.End {
	case run.Done:
		return "done"
	case run.Trap:
		return "trap"
	case run.Spent:
		return "spent"
	}
	return "wrong"
}

func (s *session) where(g given) string {
	n, ok := s.engine.Book().Now().Get(api.ID(g.numbers[0]))
	switch {
	case !ok:
		return none
	case n.Name == "":
		return decimal(n.Kind) + " " + none
	}
	return decimal(n.Kind) + " " + n.Name
}

func done(errno api.Errno) string {
	if errno != api.OK {
		return failed(errno)
	}
	return "ok"
}

// caused is for the calls that return the stamp that was the cause of an error,
// or 0.
func caused(stamp uint32, errno api.Errno) string {
	if errno == api.OK || stamp == 0 {
		return done(errno)
	}
	return failed(errno) + " " + decimal(stamp)
}

func failed(errno api.Errno) string {
	return "error " + decimal(errno)
}

func joined(words []string, separator string) string {
	if len(words) == 0 {
		return none
	}
	return strings.Join(words, separator)
}

// whole has the types of the numbers that are answered.
type whole interface {
	~byte | ~uint32 | ~int | ~int64
}

func decimal[N whole](n N) string {
	return strconv.FormatInt(int64(n), 10)
}
