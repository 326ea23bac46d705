package shell_test

import (
	"slices"
	"strings"
	"testing"

	"hourglass/api"
	"hourglass/shell"
	"hourglass/trial"
)

// little formats with trial.Little, in which 3 is m.f and 8 main.main.
const little = "format " + trial.Little

func answers(t *testing.T, lines ...string) []string {
	t.Helper()
	text := ""
	for _, line := range lines {
		text += line + "\n"
	}
	got, e := shell.Run(text)
	if e != api.OK || got != "" && !strings.HasSuffix(got, "\n") {
		t.Fatalf("Run of %q: %q, error %d", text, got, e)
	}
	l := strings.Split(got, "\n")
	return l[:len(l)-1]
}

func wantAnswers(t *testing.T, lines, want []string) {
	t.Helper()
	got := answers(t, lines...)
	if slices.Equal(got, want) {
		return
	}
	at := 0
	for at < len(got) && at < len(want) && got[at] == want[at] {
		at++
	}
	t.Errorf("answer %d of\n%s\nis\n%s\nwant\n%s", at, strings.Join(lines, "\n"), strings.Join(got[at:], "\n"), strings.Join(want[at:], "\n"))
}

// wantTalk is given as lines that begin with "> ", each followed by its answer.
func wantTalk(t *testing.T, talk ...string) {
	t.Helper()
	var lines, want []string
	for _, s := range talk {
		if line, ok := strings.CutPrefix(s, "> "); ok {
			lines = append(lines, line)
		} else {
			want = append(want, strings.Split(s, "\n")...)
		}
	}
	wantAnswers(t, lines, want)
}

// printed is how Little is answered, with this name of m.
func printed(name string) string {
	return "|module " + name + " {\n|\tfunc f() int {\n|\t\treturn 1;\n|\t}\n|}\n" +
		"|module main {\n|\tfunc main() int {\n|\t\tlet x int = " + name + ".f();\n|\t\treturn x;\n|\t}\n|}"
}

func TestExample(t *testing.T) {
	wantTalk(t, "> stamp", "error 3")
}

func TestNothing(t *testing.T) {
	for text, want := range map[string]string{
		"":         "",
		"\n":       "error 20\n",
		"\n\n":     "error 20\nerror 20\n",
		"stamp":    "error 3\n",
		"stamp\n":  "error 3\n",
		"gen\n\nx": "error 3\nerror 20\nerror 20\n",
	} {
		if got, e := shell.Run(text); got != want || e != api.OK {
			t.Errorf("Run of %q: %q, error %d, want %q", text, got, e, want)
		}
	}
}

func TestFormat(t *testing.T) {
	wantTalk(t,
		"> "+little, "ok",
		"> program", printed("m"),
		"> gen", "1",
		"> commands", "0",
		"> stamp", "0",
		"> log", "-",
		"> branch", "trunk",
		"> branches", "trunk",
		"> format  \tmodule main{func main()int{return 1;}}# a comment", "ok",
		"> program", "|module main {\n|\tfunc main() int {\n|\t\treturn 1;\n|\t}\n|}",
	)
}

// TestFormatErrors: afterwards there is no engine, but what was on the disk
// still is.
func TestFormatErrors(t *testing.T) {
	for line, want := range map[string]string{
		"format ":                          "error 3",
		"format module":                    "error 20",
		"format  x":                        "error 20",
		"format module m ":                 "error 20",
		"format module m { } module m { }": "error 10",
		"format module main { func main() int { return x; } }":                   "error 9",
		"format module main { func main() int { return true; } }":                "error 11",
		"format module main { func man() int { return 1; } }":                    "error 3",
		"format module main { func main() int { " + many(4000) + "return 1; } }": "error 4",
	} {
		wantTalk(t,
			"> "+little, "ok",
			"> rename-module 2 k", "1",
			"> "+line, want,
			"> stamp", "error 3",
			"> program", "error 3",
			"> rename-module 2 k", "error 3",
			"> recover", "ok",
			"> stamp", "1",
			"> crash -", "ok",
			"> stamp", "0",
		)
	}
	wantTalk(t, "> format", "error 20", "> "+little, "ok", "> format", "error 20", "> stamp", "0")
}

// many is so many statements, of two nodes each.
func many(count int) string {
	return strings.Repeat("print 1; ", count)
}

// TestOperations has one of each kind.
func TestOperations(t *testing.T) {
	wantTalk(t,
		"> format module m { func f(a int) int { return (a + 1); } } module main { func main() int { let x int = m.f(2); if (x < 3) { print x; } else { print 4; } return x; } }", "ok",
		"> rename-module 2 k", "1",
		"> rename-func 3 g", "2",
		"> rename-param 4 b", "3",
		"> rename-let 13 y", "4",
		"> swap-parts 7", "5",
		"> flip-if 16", "6",
		"> add-module n", "7",
		"> extract-let 7 z", "8",
		"> inline-let 524289", "9",
		"> extract-func 22 458753 h", "10",
		"> move-func 3 458753", "11",
		"> drop-module 2", "12",
		"> inline-call 655365", "13",
		"> drop-func 655361", "14",
		"> program", "|module main {\n|\tfunc main() int {\n|\t\tlet y int = n.g(2);\n|\t\tif !(y < 3) {\n|\t\t\tprint 4;\n|\t\t} else {\n|\t\t\tprint y;\n|\t\t}\n|\t\treturn y;\n|\t}\n|}\n"+
			"|module n {\n|\tfunc g(b int) int {\n|\t\treturn (1 + b);\n|\t}\n|}",
		"> stamp", "14",
		"> log", "1+ 2+ 3+ 4+ 5+ 6+ 7+ 8+ 9+ 10+ 11+ 12+ 13+ 14+",
		"> commands", "14",
	)
}

func TestOperationErrors(t *testing.T) {
	wantTalk(t,
		"> "+little, "ok",
		"> rename-module 3 k", "error 3",
		"> rename-module 18446744073709551615 k", "error 3",
		"> rename-module 2 main", "error 10",
		"> drop-func 3", "error 12",
		"> extract-let 11 y", "error 13",
		"> drop-module 7", "error 12",
		"> stamp", "0",
		"> log", "-",
		"> commands", "0",
	)
}

func TestUndoAndRedo(t *testing.T) {
	wantTalk(t,
		"> "+little, "ok",
		"> add-module a", "1",
		"> rename-module 65537 b", "2",
		"> rename-module 2 k", "3",
		"> log", "1+ 2+ 3+",
		"> undo 1", "error 3 2",
		"> undo 3", "ok",
		"> log", "1+ 2+ 3-",
		"> program", printed("m")+"\n|module b {\n|}",
		"> undo 2", "ok",
		"> undo 1", "ok",
		"> log", "1- 2- 3-",
		"> program", printed("m"),
		"> undo 1", "error 14",
		"> redo 2", "error 3 2",
		"> redo 3", "ok",
		"> redo 3", "error 15",
		"> add-module a", "4",
		"> redo 1", "error 10 4",
		"> undo 0", "error 17",
		"> redo 5", "error 17",
		"> undo 2147483648", "error 17",
		"> log", "1- 2- 3+ 4+",
		"> stamp", "4",
		"> commands", "8",
	)
}

func TestBranches(t *testing.T) {
	wantTalk(t,
		"> "+little, "ok",
		"> rename-module 2 k", "1",
		"> fork x", "ok",
		"> fork x", "error 18",
		"> fork if", "error 9",
		"> fork ", "error 9",
		"> fork a b", "error 9",
		"> fork  y", "error 9",
		"> branch", "trunk",
		"> branches", "trunk x",
		"> switch y", "error 3",
		"> switch ", "error 3",
		"> switch x", "ok",
		"> branch", "x",
		"> add-module n", "2",
		"> undo 1", "ok",
		"> log", "1- 2+",
		"> merge x", "error 18",
		"> merge ", "error 3",
		"> merge y z", "error 3",
		"> switch trunk", "ok",
		"> log", "1+",
		"> merge x", "ok",
		"> log", "1+ 2+",
		"> program", printed("k")+"\n|module n {\n|}",
		"> merge x", "ok",
		"> fork y", "ok",
		"> add-module z", "3",
		"> switch y", "ok",
		"> add-module z", "4",
		"> merge trunk", "error 10 3",
		"> branches", "trunk x y",
		"> stamp", "4",
	)
}

func TestManyBranches(t *testing.T) {
	talk := []string{"> " + little, "ok"}
	names := "trunk"
	for i := range api.MaxBranch - 1 {
		name := "b" + itoa(i)
		talk = append(talk, "> fork "+name, "ok")
		names += " " + name
	}
	wantTalk(t, append(talk, "> fork x", "error 5", "> branches", names)...)
}

// TestManyOperations: also as many as there can be.
func TestManyOperations(t *testing.T) {
	talk := []string{"> " + little, "ok"}
	signs := ""
	for i := range api.MaxOps {
		stamp := itoa(i + 1)
		talk = append(talk, "> rename-func 3 f"+stamp, stamp)
		signs += " " + stamp + "+"
	}
	wantTalk(t, append(talk,
		"> rename-func 3 g", "error 5",
		"> log", signs[1:],
		"> sync", "ok",
		"> crash -", "ok",
		"> commands", "1000",
		"> compact", "ok",
		"> log", "-",
		"> rename-func 3 g", "1001",
		"> undo 1000", "error 16",
		"> undo 1001", "ok",
	)...)
}

func TestCompact(t *testing.T) {
	wantTalk(t,
		"> "+little, "ok",
		"> rename-module 2 k", "1",
		"> fork x", "ok",
		"> add-module n", "2",
		"> undo 2", "ok",
		"> compact", "ok",
		"> gen", "2",
		"> commands", "0",
		"> stamp", "2",
		"> log", "-",
		"> branches", "trunk x",
		"> program", printed("k"),
		"> undo 1", "error 16",
		"> redo 2", "error 16",
		"> add-module n", "3",
		"> crash -", "ok",
		"> gen", "2",
		"> log", "-",
		"> compact", "ok",
		"> gen", "3",
	)
}

// TestCompactErrors: the checkpoint of all branches is a longer record than that
// of one.
func TestCompactErrors(t *testing.T) {
	wantTalk(t,
		"> format module main { func main() int { "+many(3000)+"return 1; } }", "ok",
		"> compact", "ok",
		"> fork x", "ok",
		"> compact", "error 4",
		"> gen", "2",
		"> commands", "1",
		"> branches", "trunk x",
		"> sync", "ok",
		"> crash -", "ok",
		"> branches", "trunk x",
	)
}

func TestRun(t *testing.T) {
	wantTalk(t,
		"> format module main { func main() int { let n int = read; while (n > 0) { print (6 / (n - 2)); n = (n - 1); } print read; return read; } }", "ok",
		"> run", "done 0 0",
		"> run 0", "done 0 0",
		"> run 0 5 7", "done 7 5",
		"> run 0 5 7 9", "done 7 5",
		"> run -1 -0 -7", "done -7 0",
		"> run 2147483648 1", "spent 0"+quotients(t, 1<<31, 333),
		"> run 1 -2147483648 2147483648", "done 2147483648 -6 -2147483648",
		"> run 4", "trap 0 3 6",
		"> run 2", "trap 0",
	)
}

// quotients is the trace of a run in which n counts down.
func quotients(t *testing.T, n, count int) string {
	t.Helper()
	l := ""
	for range count {
		l += " " + itoa(6/(n-2))
		n--
	}
	return l
}

// TestFuel: a run that takes 1000 ends, one that takes more does not.
func TestFuel(t *testing.T) {
	for count, want := range map[int]string{997: "done 1", 998: "done 1", 999: "spent 0", 1000: "spent 0"} {
		wantTalk(t,
			"> format module main { func main() int { "+many(count)+"return 1; } }", "ok",
			"> run", want+strings.Repeat(" 1", min(count, 999)),
		)
	}
}

// TestRunOfNow: what is run is the current branch's program.
func TestRunOfNow(t *testing.T) {
	wantTalk(t,
		"> format module main { func main() int { print (read - 1); return 2; } }", "ok",
		"> fork x", "ok",
		"> extract-func 6 2 f", "1",
		"> run 5", "done 2 4",
		"> switch x", "ok",
		"> run 5", "done 2 4",
		"> undo 1", "error 17",
	)
}

func TestWhere(t *testing.T) {
	wantTalk(t,
		"> "+little, "ok",
		"> where 0", "-",
		"> where 1", "1 -",
		"> where 2", "2 m",
		"> where 3", "3 f",
		"> where 4", "5 -",
		"> where 5", "10 -",
		"> where 6", "13 -",
		"> where 7", "2 main",
		"> where 8", "3 main",
		"> where 9", "5 -",
		"> where 10", "6 x",
		"> where 11", "19 -",
		"> where 12", "10 -",
		"> where 13", "15 -",
		"> where 14", "-",
		"> where 2147483648", "-",
		"> add-module n", "1",
		"> where 65537", "2 n",
		"> undo 1", "ok",
		"> where 65537", "-",
	)
}

// TestProgramErrors: what is too long is not answered.
func TestProgramErrors(t *testing.T) {
	wantTalk(t,
		"> format module main { func main() int { "+strings.Repeat("while false { ", 88)+many(2200)+strings.Repeat("} ", 88)+"return 1; } }", "ok",
		"> program", "error 4",
		"> run", "done 1",
	)
}

// alone are the lines that need no engine, each with its answer where there is
// nothing on the disk.
func alone() map[string]string {
	return map[string]string{
		"format ":   "error 3",
		"crash -":   "error 3",
		"crash 01":  "error 3",
		"recover":   "error 3",
		"rot 5 0 0": "ok",
		"limit 5":   "ok",
	}
}

// needy are lines of all other kinds.
func needy() []string {
	return []string{
		"rename-module 2 k", "rename-func 3 k", "rename-param 3 k", "rename-let 3 k", "move-func 3 2", "extract-let 3 x", "inline-let 3",
		"extract-func 3 2 x", "inline-call 3", "add-module x", "drop-module 2", "drop-func 3", "flip-if 3", "swap-parts 3",
		"undo 1", "redo 1", "undo 0", "fork x", "fork ", "switch trunk", "switch ", "merge x", "merge ", "sync", "compact",
		"program", "branch", "branches", "stamp", "gen", "commands", "log", "run", "run 1", "run -1 2", "where 1", "where 0",
	}
}

// TestNoEngine: initially, and after something that has failed.
func TestNoEngine(t *testing.T) {
	for _, before := range [][]string{
		{},
		{"> format x", "error 20"},
		{"> recover", "error 3"},
		{"> crash 1", "error 3"},
		{"> " + little, "ok", "> format x", "error 20"},
		{"> " + little, "ok", "> rot 2 0 1", "ok", "> recover", "error 7 2"},
		{"> " + little, "ok", "> rot 0 0 1", "ok", "> crash -", "error 7 0"},
	} {
		talk := slices.Clone(before)
		for _, line := range needy() {
			talk = append(talk, "> "+line, "error 3")
		}
		wantTalk(t, talk...)
	}
	for line, want := range alone() {
		wantTalk(t, "> "+line, want, "> stamp", "error 3")
	}
}

// TestAllWords: each word has a line here.
func TestAllWords(t *testing.T) {
	lines := needy()
	for line := range alone() {
		lines = append(lines, line)
	}
	for _, word := range shell.Words() {
		if !slices.ContainsFunc(lines, func(line string) bool { return line == word || strings.HasPrefix(line, word+" ") }) {
			t.Error(word)
		}
	}
}

func TestLong(t *testing.T) {
	const line = "gen\n"
	text := strings.Repeat(line, api.MaxText/len(line))
	if got, e := shell.Run(text); got != strings.Repeat("error 3\n", len(text)/len(line)) || len(text) != api.MaxText || e != api.OK {
		t.Errorf("%d bytes: %d, error %d", len(text), len(got), e)
	}
	for _, long := range []string{text + "\n", text + "x", strings.Repeat("x", api.MaxText+1), strings.Repeat(text, 3)} {
		if got, e := shell.Run(long); got != "" || e != api.ErrLong {
			t.Errorf("%d bytes: %q, error %d", len(long), got, e)
		}
	}
}

func TestWords(t *testing.T) {
	want := []string{
		"branch", "branches", "commands", "compact", "crash", "fork", "format", "gen", "limit", "log", "merge",
		"program", "recover", "redo", "rot", "run", "stamp", "switch", "sync", "undo", "where",
	}
	for range 2 {
		got := shell.Words()
		if !slices.Equal(got, want) {
			t.Errorf("%q, want %q", got, want)
		}
		trial.Spoil(got, "spoiled")
	}
	if got := answers(t, want...); len(got) != len(want) {
		t.Error(got)
	}
}

func TestLines(t *testing.T) {
	for text, want := range map[string][]string{
		"":                                 nil,
		"\n":                               {""},
		"a":                                {"a"},
		"a\n":                              {"a"},
		"a\nb":                             {"a", "b"},
		"a\nb\n":                           {"a", "b"},
		"a\n\n":                            {"a", ""},
		"\n\n\n":                           {"", "", ""},
		"\na":                              {"", "a"},
		" a \r\n\t\n":                      {" a \r", "\t"},
		"\x00\xff\né":                      {"\x00\xff", "é"},
		strings.Repeat("a\n", api.MaxText): slices.Repeat([]string{"a"}, api.MaxText),
	} {
		lines := shell.Lines(text)
		for range 2 {
			if got := slices.Collect(lines); !slices.Equal(got, want) {
				t.Errorf("Lines of %.20q: %.20q, want %.20q", text, got, want)
			}
		}
		for most := range min(len(want), 3) {
			var got []string
			for line := range lines {
				if got = append(got, line); len(got) > most {
					break
				}
			}
			if !slices.Equal(got, want[:most+1]) {
				t.Errorf("Lines of %.20q: %q, want %q", text, got, want[:most+1])
			}
		}
	}
}
