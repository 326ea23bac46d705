package shell_test

import (
	"math/rand"
	"strconv"
	"strings"
	"testing"

	"hourglass/api"
	"hourglass/author"
	"hourglass/disk"
	"hourglass/engine"
	"hourglass/op"
	"hourglass/run"
	"hourglass/text"
	"hourglass/trial"
)

// model writes random lines. It knows their answers, since it also does what
// they say, to a disk and an engine of its own.
type model struct {
	below  func(n int) int
	disk   *disk.Disk
	engine *engine.Engine
	lines  []string
	// want has one answer for each line, also where it has several lines.
	want []string
}

func newModel(t *testing.T, below func(n int) int) *model {
	t.Helper()
	d, errno := disk.New(400)
	if errno != api.OK {
		t.Fatal(errno)
	}
	return &model{below: below, disk: d}
}

func (m *model) say(answer string, line ...string) {
	m.lines = append(m.lines, strings.Join(line, " "))
	m.want = append(m.want, answer)
}

func itoa[N ~int | ~int64 | ~uint32 | ~uint64 | ~byte](n N) string {
	return strconv.FormatInt(int64(n), 10)
}

// orError returns an answer, unless there is an error.
func orError(answer string, errno api.Errno) string {
	if errno != api.OK {
		return "error " + itoa(errno)
	}
	return answer
}

func orCause(stamp uint32, errno api.Errno) string {
	answer := orError("ok", errno)
	if errno != api.OK && stamp > 0 {
		answer += " " + itoa(stamp)
	}
	return answer
}

// anyProgram returns one that is short, in one line.
func anyProgram(below func(n int) int) string {
	s := author.Program(below)
	for len(s) > 800 {
		s = author.Program(below)
	}
	return strings.ReplaceAll(s, "\n", " ")
}

func (m *model) format(program string) {
	e, errno := engine.Format(m.disk, program)
	m.engine = e
	m.say(orError("ok", errno), "format", program)
}

// command is one that changes a book, if there is any.
func (m *model) command() {
	c := trial.Command{Word: "do", Op: trial.Add("x")}
	if m.engine != nil {
		c = trial.AnyCommand(m.below, m.engine.Book())
	}
	if c.Word == "do" && !c.Op.Right() {
		m.say("error 20", partsOf(c.Op)...)
		return
	}
	stamp, errno := c.To(m.engine)
	switch c.Word {
	case "do":
		m.say(orError(itoa(stamp), errno), c.Op.Text())
	case "undo", "redo":
		m.say(orCause(stamp, errno), c.Word, itoa(c.Stamp))
	case "merge":
		m.say(orCause(stamp, errno), c.Word, c.Name)
	default:
		m.say(orError("ok", errno), c.Word, c.Name)
	}
}

// partsOf are those of an operation that is not Right: it has no Text.
func partsOf(o op.Op) []string {
	l := []string{op.Word(o.Kind), itoa(o.A)}
	if o.Kind == op.MoveFunc || o.Kind == op.ExtractFunc {
		l = append(l, itoa(o.B))
	}
	if o.Name != "" {
		l = append(l, o.Name)
	}
	return l
}

// recovered takes what Recover returns.
func (m *model) recovered(line ...string) {
	e, at, errno := engine.Recover(m.disk)
	m.engine = e
	answer := orError("ok", errno)
	if errno == api.ErrCorrupt {
		answer += " " + itoa(at)
	}
	m.say(answer, line...)
}

func (m *model) crash() {
	word, keep := "", []bool{}
	most := m.below(5)
	for range m.below(20) {
		keep = append(keep, m.below(4) < most)
		word += map[bool]string{false: "0", true: "1"}[keep[len(keep)-1]]
	}
	if word == "" {
		word = "-"
	}
	m.disk, _ = m.disk.Crash(keep...)
	m.recovered("crash", word)
}

func (m *model) limit(n int) {
	m.disk.Limit(n)
	m.say("ok", "limit", itoa(n))
}

// rot mostly takes back what it has done.
func (m *model) rot() {
	sector, bit, bits := []int{0, 1, 2, 3, 201, 398 + m.below(5)}[m.below(6)], m.below(4088), m.below(256)
	if m.below(8) == 0 {
		bit = 4086 + m.below(6)
	}
	again := func() {
		errno := m.disk.Rot(sector, bit, 8, uint32(bits))
		m.say(orError("ok", errno), "rot", itoa(sector), itoa(bit), itoa(bits))
	}
	again()
	if m.below(6) > 0 {
		m.recovered("recover")
		again()
		m.recovered("recover")
	}
}

// view looks at something.
func (m *model) view(word string) {
	if m.engine == nil {
		m.say("error 3", word)
		return
	}
	book := m.engine.Book()
	switch word {
	case "branch":
		m.say(book.Current(), word)
	case "branches":
		m.say(strings.Join(book.Names(), " "), word)
	case "stamp":
		m.say(itoa(book.Stamp()), word)
	case "gen":
		m.say(itoa(m.engine.Gen()), word)
	case "commands":
		m.say(itoa(m.engine.Commands()), word)
	case "log":
		answer := ""
		for _, e := range book.Past(book.Current()).All() {
			answer += " " + itoa(e.Stamp) + map[bool]string{true: "+", false: "-"}[e.Live]
		}
		if answer == "" {
			answer = " -"
		}
		m.say(answer[1:], word)
	case "program":
		s, errno := text.Print(book.Now())
		m.say(orError(strings.TrimSuffix("|"+strings.ReplaceAll(s, "\n", "\n|"), "\n|"), errno), word)
	}
}

func (m *model) run() {
	var input []int64
	words := []string{"run"}
	for range m.below(6) {
		n := []int64{0, 1, -1, 2, 3, 1 << 31, -1 << 31, int64(m.below(1000))}[m.below(8)]
		input, words = append(input, n), append(words, itoa(n))
	}
	if m.engine == nil {
		m.say("error 3", words...)
		return
	}
	r := run.Run(m.engine.Book().Now(), input, 1000)
	answer := []string{"done", "trap", "spent", "wrong"}[r.End] + " " + itoa(r.Value)
	for _, n := range r.Trace {
		answer += " " + itoa(n)
	}
	m.say(answer, words...)
}

func (m *model) where() {
	if m.engine == nil {
		m.say("error 3", "where", "1")
		return
	}
	a := m.engine.Book().Now()
	id := trial.Changer{Below: m.below, Arena: a}.Pick(byte(1 + m.below(20)))
	if id > 1<<31 {
		m.say("error 20", "where", strconv.FormatUint(uint64(id), 10))
		return
	}
	n, ok := a.Get(id)
	answer := itoa(n.Kind) + " " + n.Name
	if n.Name == "" {
		answer += "-"
	}
	if !ok {
		answer = "-"
	}
	m.say(answer, "where", itoa(id))
}

// step adds a line, or some.
func (m *model) step() {
	views := []string{"branch", "branches", "stamp", "gen", "commands", "log", "program"}
	switch m.below(32) {
	case 0:
		m.say(orError("ok", m.engine.Sync()), "sync")
	case 1:
		m.say(orError("ok", m.engine.Compact()), "compact")
	case 2, 3:
		m.crash()
	case 4:
		m.limit([]int{m.below(12), 100000}[m.below(2)])
	case 5:
		m.rot()
	case 6:
		m.recovered("recover")
	case 7:
		m.say("error 20", wrongLines()[m.below(len(wrongLines()))])
	case 8, 9, 10, 11, 12:
		m.view(views[m.below(len(views))])
	case 13, 14:
		m.run()
	case 15, 16:
		m.where()
	default:
		m.command()
	}
	switch {
	case m.engine != nil && m.engine.Dead() && m.below(4) == 0:
		m.recovered("recover")
	case m.engine == nil && m.below(4) == 0:
		m.format(anyProgram(m.below))
	case m.below(150) == 0:
		m.format(anyProgram(m.below)[m.below(2):])
	}
}

// TestRandomly compares with the model. What comes later changes nothing of the
// answers to what comes before.
func TestRandomly(t *testing.T) {
	below := rand.New(rand.NewSource(1)).Intn
	counts := trial.Counts{}
	for range 40 {
		m := newModel(t, below)
		for range 120 {
			m.step()
		}
		for i, line := range m.lines {
			word, _, _ := strings.Cut(line, " ")
			counts.Add(word, errorIn(m.want[i]))
		}
		for _, count := range []int{len(m.lines), 1 + below(len(m.lines))} {
			wantAnswers(t, m.lines[:count], strings.Split(strings.Join(m.want[:count], "\n"), "\n"))
		}
		if t.Failed() {
			t.FailNow()
		}
	}
	for _, word := range []string{"branch", "branches", "commands", "gen", "log", "program", "run", "stamp", "where"} {
		counts.Want(t, word, 2, api.OK, api.ErrNone)
	}
	for _, word := range []string{"sync", "compact", "fork", "switch", "merge", "undo", "redo"} {
		counts.Want(t, word, 5, api.OK, api.ErrOff)
	}
	counts.Want(t, "crash", 5, api.OK, api.ErrNone, api.ErrCorrupt)
	counts.Want(t, "recover", 5, api.OK, api.ErrNone, api.ErrCorrupt)
	counts.Want(t, "format", 5, api.OK, api.ErrText, api.ErrOff)
	counts.Want(t, "rot", 5, api.OK, api.ErrArg, api.ErrIndex)
	counts.Want(t, "undo", 2, api.ErrNone, api.ErrFrozen, api.ErrUnknown, api.ErrDead)
	counts.Want(t, "redo", 2, api.ErrFrozen, api.ErrUnknown, api.ErrLive)
	counts.Want(t, "merge", 2, api.ErrNone, api.ErrBranch)
	for kind := byte(op.RenameModule); kind <= op.SwapParts; kind++ {
		counts.Want(t, op.Word(kind), 1, api.OK)
	}
}

// errorIn returns the error that an answer tells.
func errorIn(answer string) api.Errno {
	words := strings.Split(answer, " ")
	if words[0] != "error" {
		return api.OK
	}
	n, _ := strconv.Atoi(words[1])
	return api.Errno(n)
}
