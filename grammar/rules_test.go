package grammar_test

import (
	"math/rand"
	"regexp"
	"slices"
	"strings"
	"testing"

	"hourglass/api"
	"hourglass/grammar"
	"hourglass/token"
)

// short writes tokens as letters: x is a name, n an expression of one token, o a
// sign that only stands between two expressions.
func short(l []token.Token) string {
	words := map[string]string{
		"module": "m", "func": "f", "let": "l", "if": "i", "else": "e", "while": "w", "print": "p", "do": "d", "return": "r", "int": "I", "bool": "B",
		"true": "n", "false": "n", "read": "n", "(": "(", ")": ")", "{": "{", "}": "}", ".": ".", ",": ",", ";": ";", "=": "=", "!": "!", "-": "-",
	}
	var b strings.Builder
	for _, one := range l {
		s := words[one.Text]
		switch {
		case one.Kind == token.Name:
			s = "x"
		case one.Kind == token.Number:
			s = "n"
		case s == "":
			s = "o"
		}
		b.WriteString(s)
	}
	return b.String()
}

type rule struct {
	from *regexp.Regexp
	to   string
}

func rules(l ...string) []rule {
	var out []rule
	for i := 0; i < len(l); i += 2 {
		out = append(out, rule{regexp.MustCompile(l[i]), l[i+1]})
	}
	return out
}

// The heads of modules, functions, lets, parameters, calls and assignments,
// which are replaced once; what remains of names are expressions.
var heads = rules(`mx\{`, "M", `fx\(`, "F", `lx[IB]=`, "L", `x[IB]`, "P", `x\.x\(`, "C", `x=`, "A", `[xn]`, "E")

// The parts, which are replaced until nothing changes: E is an expression, K a
// call after do, S a statement, D a function, N a module.
var reductions = rules(
	`(^|[^E)K])[!-]E`, "${1}E",
	`\(E[-o]E\)`, "E",
	`C\)`, "K",
	`CE(,E)*\)`, "K",
	`dK;`, "S",
	`([^d])K`, "${1}E",
	`[LAp]E;`, "S",
	`wE\{S*\}`, "S",
	`iE\{S*\}e\{S*\}`, "S",
	`F\)[IB]\{S*rE;\}`, "D",
	`FP(,P)*\)[IB]\{S*rE;\}`, "D",
	`MD*\}`, "N",
)

// follows reports whether a text of few nested constructs follows the rules:
// its tokens can be replaced by modules, step by step.
func follows(text string) bool {
	l, e := token.All(text)
	if e != api.OK {
		return false
	}
	s := short(l)
	for _, r := range heads {
		s = r.from.ReplaceAllString(s, r.to)
	}
	for before := ""; before != s; {
		before = s
		for _, r := range reductions {
			s = r.from.ReplaceAllString(s, r.to)
		}
	}
	return strings.Trim(s, "N") == ""
}

// wantRules checks only whether a text follows the rules.
func wantRules(t *testing.T, text string) bool {
	t.Helper()
	want := follows(text)
	if _, e := grammar.Parse(text); (e != api.ErrText) != want {
		t.Fatalf("%q: error %d, but it follows the rules: %v", text, e, want)
	}
	return want
}

// each calls do with all rows of at most that many of these texts.
func each(most int, l []string, do func(row string)) {
	do("")
	rows := []string{""}
	for range most {
		var longer []string
		for _, row := range rows {
			for _, s := range l {
				do(row + s + " ")
				longer = append(longer, row+s+" ")
			}
		}
		rows = longer
	}
}

func TestAllShortExpressions(t *testing.T) {
	good := 0
	for _, place := range []string{"print ", "print (1 - ", "while ", "print m.f(2, "} {
		after := map[string]string{"print ": ";", "print (1 - ": ");", "while ": "{}", "print m.f(2, ": ");"}[place]
		each(4, []string{"a", "1", "!", "-", "(", ")", "+", ".", ",", "m.f(", "="}, func(row string) {
			if wantRules(t, body(place+row+after)) {
				good++
			}
		})
	}
	if good < 100 {
		t.Fatalf("only %d of the rows are good", good)
	}
}

func TestAllShortStatements(t *testing.T) {
	good := 0
	each(4, []string{"let x int =", "a", "=", "1", ";", "if b", "{", "}", "else", "while b", "print", "do", "m.f()", "return"}, func(row string) {
		if wantRules(t, body(row)) {
			good++
		}
	})
	if good < 5 {
		t.Fatalf("only %d of the rows are good", good)
	}
}

func TestAllShortHeads(t *testing.T) {
	good := 0
	parts := []string{"module", "m", "{", "}", "func", "(", ")", "a int", ",", "bool", "{ return 0; }"}
	each(4, parts, func(row string) {
		for _, text := range []string{row, "module n {" + row + "}", "module n { func f" + row, "module n { func f(" + row + "int { return 0; } }"} {
			if wantRules(t, text) {
				good++
			}
		}
	})
	if good < 5 {
		t.Fatalf("only %d of the rows are good", good)
	}
}

// TestChangedPrograms changes a few tokens of random programs.
func TestChangedPrograms(t *testing.T) {
	r := rand.New(rand.NewSource(19))
	some := slices.Concat(token.Words(), token.Signs(), []string{"a", "m", "f", "0", "17"})
	good := 0
	for range 10000 {
		w := &author{r: r, careless: 10}
		w.program()
		l := w.tokens
		for range 1 + r.Intn(2) {
			at := r.Intn(len(l) + 1)
			one := some[r.Intn(len(some))]
			switch choice := r.Intn(4); {
			case choice == 0 || at == len(l):
				l = slices.Insert(l, at, one)
			case choice == 1:
				l = slices.Delete(l, at, at+1)
			case choice == 2:
				l[at] = one
			default:
				other := r.Intn(len(l))
				l[at], l[other] = l[other], l[at]
			}
		}
		if wantRules(t, strings.Join(l, " ")) {
			good++
		}
	}
	if good < 200 || good > 8000 {
		t.Fatalf("%d of the texts are good", good)
	}
}
