package token_test

import (
	"math"
	"math/rand"
	"slices"
	"strconv"
	"strings"
	"testing"

	"hourglass/api"
	"hourglass/token"
)

// The lists of the document, in its order.
var (
	writtenWords = []string{"bool", "do", "else", "false", "func", "if", "int", "let", "module", "print", "read", "return", "true", "while"}
	writtenSigns = []string{"(", ")", "{", "}", ".", ",", ";", "=", "!", "+", "-", "*", "/", "%", "<", "<=", ">", ">=", "==", "!=", "&&", "||"}
)

const largest = "9223372036854775807"

func wantTokens(t *testing.T, text string, want ...token.Token) {
	t.Helper()
	got, e := token.All(text)
	if e != api.OK || !slices.Equal(got, want) {
		t.Fatalf("%.200q: %v, error %d, want %v", text, got, e, want)
	}
}

func wantError(t *testing.T, text string, want api.Errno) {
	t.Helper()
	if l, e := token.All(text); e != want || len(l) != 0 {
		t.Fatalf("%.200q: %v, error %d, want error %d", text, l, e, want)
	}
}

// wantOne checks a text that is one token, alone and among others.
func wantOne(t *testing.T, kind byte, text string) {
	t.Helper()
	wantTokens(t, text, token.Token{Kind: kind, Text: text})
	wantTokens(t, " "+text+"\n", token.Token{Kind: kind, Text: text, At: 1})
	wantTokens(t, ";"+text+" x", token.Token{Kind: token.Sign, Text: ";"}, token.Token{Kind: kind, Text: text, At: 1}, token.Token{Kind: token.Name, Text: "x", At: len(text) + 2})
}

func TestKinds(t *testing.T) {
	if token.End != 0 || token.Name != 1 || token.Number != 2 || token.Word != 3 || token.Sign != 4 {
		t.Fatal("kinds")
	}
}

func TestWords(t *testing.T) {
	if got := token.Words(); !slices.Equal(got, writtenWords) {
		t.Fatal(got)
	}
	for _, w := range writtenWords {
		if !token.IsWord(w) || token.IsName(w) {
			t.Errorf("%s is not a keyword, or is a name", w)
		}
		wantOne(t, token.Word, w)
		for _, s := range []string{w + "s", "_" + w, w + "_", w + "1", strings.ToUpper(w), w[:len(w)-1] + "0"} {
			if token.IsWord(s) || !token.IsName(s) {
				t.Errorf("%s is a keyword, or not a name", s)
			}
			wantOne(t, token.Name, s)
		}
		for _, s := range []string{" " + w, w + " ", w + "\x00"} {
			if token.IsWord(s) || token.IsName(s) {
				t.Errorf("%q is a keyword or a name", s)
			}
		}
	}
	for _, s := range []string{"", "main", "x", "=", "0", "boolint"} {
		if token.IsWord(s) {
			t.Errorf("%q is a keyword", s)
		}
	}
}

func TestSigns(t *testing.T) {
	if got := token.Signs(); !slices.Equal(got, writtenSigns) {
		t.Fatal(got)
	}
	for _, s := range writtenSigns {
		wantTokens(t, s, token.Token{Kind: token.Sign, Text: s})
		wantTokens(t, "a"+s+"1", token.Token{Kind: token.Name, Text: "a"}, token.Token{Kind: token.Sign, Text: s, At: 1}, token.Token{Kind: token.Number, Text: "1", At: 1 + len(s)})
		if token.IsName(s) || token.IsWord(s) {
			t.Errorf("%s is a name or a keyword", s)
		}
	}
}

func TestListsAreNewMemory(t *testing.T) {
	for _, list := range []func() []string{token.Words, token.Signs} {
		l := list()
		want := slices.Clone(l)
		clear(l)
		_ = append(l[:0], "changed")
		if got := list(); !slices.Equal(got, want) {
			t.Fatal(got)
		}
	}
	if !token.IsWord("bool") {
		t.Fatal("bool is no longer a keyword")
	}
}

func TestLongestSign(t *testing.T) {
	cases := map[string][]string{
		"<=":         {"<="},
		"<==":        {"<=", "="},
		"<===":       {"<=", "=="},
		"===":        {"==", "="},
		"====":       {"==", "=="},
		"!==":        {"!=", "="},
		"!!=":        {"!", "!="},
		"=!=":        {"=", "!="},
		"=<=":        {"=", "<="},
		">>=":        {">", ">="},
		"<>=<":       {"<", ">=", "<"},
		"&&&&":       {"&&", "&&"},
		"||||":       {"||", "||"},
		"&&||!-":     {"&&", "||", "!", "-"},
		"(){}.,;":    {"(", ")", "{", "}", ".", ",", ";"},
		"=+-*/%<>":   {"=", "+", "-", "*", "/", "%", "<", ">"},
		"< =":        {"<", "="},
		"=#\n=":      {"=", "="},
		"++--":       {"+", "+", "-", "-"},
		"//**":       {"/", "/", "*", "*"},
		"{ { = = }}": {"{", "{", "=", "=", "}", "}"},
	}
	for text, want := range cases {
		l, e := token.All(text)
		var got []string
		for _, one := range l {
			got = append(got, one.Text)
			if one.Kind != token.Sign || !strings.HasPrefix(text[one.At:], one.Text) {
				t.Errorf("%q: %v", text, one)
			}
		}
		if e != api.OK || !slices.Equal(got, want) {
			t.Errorf("%q: %q, error %d", text, got, e)
		}
	}
	for _, s := range []string{"&", "|", "&&&", "|||", "& &", "|&", "a&b", "a|b"} {
		wantError(t, s, api.ErrText)
	}
}

func TestNames(t *testing.T) {
	names := []string{"a", "z", "A", "Z", "_", "_0", "__", "a1", "aZ_9", "Main", "x0y", strings.Repeat("a", api.MaxName), "_" + strings.Repeat("9", api.MaxName-1)}
	for _, s := range names {
		if !token.IsName(s) {
			t.Errorf("%q is not a name", s)
		}
		wantOne(t, token.Name, s)
	}
	others := []string{"", "0", "1a", "0_", " a", "a ", "a b", "a.b", "a-b", "é", "aé", "a\x00", "\xff", "a\n", "a#", "@", "[", "`", "{", "/", ":"}
	others = append(others, strings.Repeat("a", api.MaxName+1), strings.Repeat("a", 1000))
	for _, s := range others {
		if token.IsName(s) {
			t.Errorf("%q is a name", s)
		}
	}
}

// TestBytesOfNames tries each byte as the first one and as a further one.
func TestBytesOfNames(t *testing.T) {
	for c := range 256 {
		b := string([]byte{byte(c)})
		letter := b == "_" || b >= "a" && b <= "z" || b >= "A" && b <= "Z"
		digit := b >= "0" && b <= "9"
		if token.IsName(b) != letter || token.IsName("x"+b) != (letter || digit) || token.IsName("x"+b+"x") != (letter || digit) {
			t.Errorf("byte %02x", c)
		}
	}
}

func TestLongNames(t *testing.T) {
	for _, size := range []int{api.MaxName + 1, 2 * api.MaxName, 1000, api.MaxText} {
		wantError(t, strings.Repeat("a", size), api.ErrText)
	}
	wantError(t, "x "+strings.Repeat("_", api.MaxName+1)+" y", api.ErrText)
	wantError(t, strings.Repeat("int", 30), api.ErrText) // not keywords, one after the other
	long := strings.Repeat("b", api.MaxName)
	wantTokens(t, long+" "+long, token.Token{Kind: token.Name, Text: long}, token.Token{Kind: token.Name, Text: long, At: api.MaxName + 1})
}

func TestNumbers(t *testing.T) {
	for _, s := range []string{"0", "1", "9", "10", "100", "1000000000000000000", "9223372036854775799", "9223372036854775806", largest} {
		wantOne(t, token.Number, s)
		l, _ := token.All("(" + s + ")")
		want, _ := strconv.ParseInt(s, 10, 64)
		if got := token.Value(l[1]); got != want {
			t.Errorf("Value of %s: %d", s, got)
		}
	}
	others := []string{
		"00", "01", "007", "0000", "00000000000000000001", "0" + largest,
		"9223372036854775808", "9223372036854775810", "9999999999999999999", "10000000000000000000",
		"18446744073709551615", "18446744073709551616", "18446744073709551617", strings.Repeat("9", 1000), strings.Repeat("1", api.MaxText),
		"1a", "0a", "0x", "0x1", "1_", "1_0", "0_", "1e5", "9Z", "1if", "0else",
	}
	for _, s := range others {
		wantError(t, s, api.ErrText)
		if len(s) < 100 {
			wantError(t, "x = "+s+";", api.ErrText)
		}
	}
}

func TestNumbersBesideSigns(t *testing.T) {
	wantTokens(t, "-5", token.Token{Kind: token.Sign, Text: "-"}, token.Token{Kind: token.Number, Text: "5", At: 1})
	wantTokens(t, "1.0", token.Token{Kind: token.Number, Text: "1"}, token.Token{Kind: token.Sign, Text: ".", At: 1}, token.Token{Kind: token.Number, Text: "0", At: 2})
	wantTokens(t, "0 0", token.Token{Kind: token.Number, Text: "0"}, token.Token{Kind: token.Number, Text: "0", At: 2})
	wantTokens(t, "7#8\n9", token.Token{Kind: token.Number, Text: "7"}, token.Token{Kind: token.Number, Text: "9", At: 4})
	wantTokens(t, "a7", token.Token{Kind: token.Name, Text: "a7"})
}

func TestExample(t *testing.T) {
	wantTokens(t, "a<=12", token.Token{Kind: token.Name, Text: "a"}, token.Token{Kind: token.Sign, Text: "<=", At: 1}, token.Token{Kind: token.Number, Text: "12", At: 3})
}

func TestGaps(t *testing.T) {
	x := token.Token{Kind: token.Name, Text: "x"}
	for _, gap := range []string{"", " ", "\t", "\n", " \t\n\n\t ", "#\n", "# let x int = 1;\n", "##\n#\n \t#\n", "#\xff\x00\r é\n", "# a\n# b\n"} {
		x.At = len(gap)
		wantTokens(t, gap+"x", x)
		wantTokens(t, gap+"x"+gap, x)
		wantTokens(t, gap+"x#", x)
		wantTokens(t, gap+"x# x", x) // a comment may end with the text
		wantTokens(t, gap)
		wantTokens(t, gap+"#"+gap)
		wantTokens(t, gap+"x"+gap+";", x, token.Token{Kind: token.Sign, Text: ";", At: 2*len(gap) + 1})
	}
}

// TestOtherBytes tries each byte where a token can begin.
func TestOtherBytes(t *testing.T) {
	allowed := " \t\n#_" + strings.Join(writtenSigns, "")
	for c := range 256 {
		b := string([]byte{byte(c)})
		if b >= "a" && b <= "z" || b >= "A" && b <= "Z" || b >= "0" && b <= "9" || b != "&" && b != "|" && strings.Contains(allowed, b) {
			if _, e := token.All("; " + b); e != api.OK {
				t.Errorf("byte %02x: error %d", c, e)
			}
			continue
		}
		wantError(t, b, api.ErrText)
		wantError(t, "x "+b+" y", api.ErrText)
		wantError(t, "x"+b, api.ErrText)
		wantError(t, "#\n"+b, api.ErrText)
		wantTokens(t, "#"+b)
	}
	wantError(t, "é", api.ErrText)
	wantError(t, "x\r\n", api.ErrText)
	wantError(t, "\ufeffmodule", api.ErrText)
}

func TestLongTexts(t *testing.T) {
	for _, fill := range []string{" ", "#", "(", "x", "\n", "\xff", "0"} {
		wantError(t, strings.Repeat(fill, api.MaxText+1), api.ErrLong)
	}
	wantError(t, strings.Repeat("\xff", 2*api.MaxText), api.ErrLong)
	wantError(t, strings.Repeat("\xff", api.MaxText), api.ErrText)
	wantTokens(t, strings.Repeat(" ", api.MaxText))
	wantTokens(t, strings.Repeat("#", api.MaxText))
	for _, one := range []string{"(", "x ", "==", "0\n", "#\n;", "while\t"} {
		l, e := token.All(strings.Repeat(one, api.MaxText/len(one)))
		if e != api.OK || len(l) != api.MaxText/len(one) {
			t.Fatalf("%q: %d tokens, error %d", one, len(l), e)
		}
		for i, got := range l {
			if got.At/len(one) != i || got.Text != l[0].Text || got.Kind != l[0].Kind {
				t.Fatalf("%q: token %d: %v", one, i, got)
			}
		}
	}
}

func TestAllOfNothing(t *testing.T) {
	wantTokens(t, "")
}

func TestAllIsNewMemory(t *testing.T) {
	text := "let x int = 12;"
	l, _ := token.All(text)
	want := slices.Clone(l)
	m, _ := token.All(text)
	clear(m[:cap(m)])
	if !slices.Equal(l, want) {
		t.Fatal("two results share memory")
	}
}

func TestValueOfOtherKinds(t *testing.T) {
	for _, kind := range []byte{token.End, token.Name, token.Word, token.Sign, 5, 255} {
		if got := token.Value(token.Token{Kind: kind, Text: "12"}); got != 0 {
			t.Errorf("Value of kind %d: %d", kind, got)
		}
	}
	l, _ := token.All("a12 if ==")
	for _, one := range l {
		if token.Value(one) != 0 {
			t.Errorf("Value of %v", one)
		}
	}
	// Of these, only that the call ends is promised.
	for _, text := range []string{"", "x", "-1", "+1", "1_0", "0x10", "9223372036854775808", strings.Repeat("9", 1<<20), "\xff"} {
		token.Value(token.Token{Kind: token.Number, Text: text, At: math.MinInt})
	}
}

func TestJoin(t *testing.T) {
	cases := []struct {
		texts []string
		want  string
	}{
		{nil, ""},
		{[]string{""}, ""},
		{[]string{"a"}, "a"},
		{[]string{"a", "<=", "12"}, "a <= 12"},
		{[]string{"", ""}, " "},
		{[]string{"a b", "", "\xff#\n"}, "a b  \xff#\n"},
	}
	for _, c := range cases {
		var l []token.Token
		for i, text := range c.texts {
			l = append(l, token.Token{Kind: byte(100 + i), Text: text, At: -i})
		}
		kept := slices.Clone(l)
		if got := token.Join(l...); got != c.want {
			t.Errorf("%q: %q", c.texts, got)
		}
		if !slices.Equal(l, kept) {
			t.Errorf("%q: the argument was changed", c.texts)
		}
	}
	if token.Join() != "" {
		t.Error("Join of nothing")
	}
}

// TestAllOfWhatWasJoined lays out random tokens with random gaps between them.
func TestAllOfWhatWasJoined(t *testing.T) {
	random := rand.New(rand.NewSource(1))
	gaps := []string{" ", "\t", "\n", "  ", "#x\n", "\n# 0 && \xff\n", " #\n\t"}
	for range 2000 {
		var l []token.Token
		var text strings.Builder
		for range random.Intn(30) {
			one := randomToken(random)
			one.At = text.Len()
			text.WriteString(one.Text + gaps[random.Intn(len(gaps))])
			l = append(l, one)
		}
		wantTokens(t, text.String(), l...)
		joined, e := token.All(token.Join(l...))
		if e != api.OK || len(joined) != len(l) {
			t.Fatalf("%q: error %d", token.Join(l...), e)
		}
		for i := range l {
			if joined[i].Kind != l[i].Kind || joined[i].Text != l[i].Text {
				t.Fatalf("%v, want %v", joined[i], l[i])
			}
		}
	}
}

func randomToken(random *rand.Rand) token.Token {
	switch random.Intn(4) {
	case 0:
		return token.Token{Kind: token.Word, Text: writtenWords[random.Intn(len(writtenWords))]}
	case 1:
		return token.Token{Kind: token.Sign, Text: writtenSigns[random.Intn(len(writtenSigns))]}
	case 2:
		return token.Token{Kind: token.Number, Text: strconv.FormatInt(random.Int63()>>random.Intn(63), 10)}
	}
	name := "_"
	for range random.Intn(api.MaxName) {
		name += string("aZ_09y"[random.Intn(6)])
	}
	return token.Token{Kind: token.Name, Text: name}
}

// expected returns the tokens of a text as the document describes them: at each
// point the longest of all beginnings that are a token; false if there is
// something else.
func expected(text string) ([]token.Token, bool) {
	var l []token.Token
	for at := 0; at < len(text); {
		if text[at] == '#' {
			end := strings.Index(text[at:]+"\n", "\n")
			at += end
			continue
		}
		if strings.Contains(" \t\n", text[at:at+1]) {
			at++
			continue
		}
		best := token.Token{At: at}
		for end := at + 1; end <= len(text); end++ {
			if kind := kindOf(text[at:end]); kind != token.End {
				best.Kind, best.Text = kind, text[at:end]
			}
		}
		end := at + len(best.Text)
		if best.Kind == token.End || best.Kind != token.Sign && end < len(text) && inName(text[end]) {
			return nil, false
		}
		l = append(l, best)
		at = end
	}
	return l, true
}

func kindOf(s string) byte {
	switch {
	case slices.Contains(writtenWords, s):
		return token.Word
	case slices.Contains(writtenSigns, s):
		return token.Sign
	case strings.Trim(s, "0123456789") == "" && (s == "0" || s[0] != '0') && (len(s) < len(largest) || len(s) == len(largest) && s <= largest):
		return token.Number
	case len(s) <= api.MaxName && (s[0] < '0' || s[0] > '9') && !strings.ContainsFunc(s, func(r rune) bool { return r > 127 || !inName(byte(r)) }):
		return token.Name
	}
	return token.End
}

func inName(c byte) bool {
	return c == '_' || c >= 'a' && c <= 'z' || c >= 'A' && c <= 'Z' || c >= '0' && c <= '9'
}

// TestRandomTexts tries short texts of few bytes, so that many are right.
func TestRandomTexts(t *testing.T) {
	random := rand.New(rand.NewSource(2))
	parts := slices.Concat(writtenWords, writtenSigns, []string{"0", "1", "9", "01", largest, "a", "_", "Z9", " ", " ", "\n", "\t", "#", "&", "|", "\r", "\xff", strings.Repeat("x", 60)})
	right := 0
	for range 30000 {
		text := ""
		for range random.Intn(8) {
			text += parts[random.Intn(len(parts))]
		}
		if want, ok := expected(text); ok {
			wantTokens(t, text, want...)
			right++
		} else {
			wantError(t, text, api.ErrText)
		}
	}
	if right < 5000 {
		t.Fatalf("only %d were right", right)
	}
}
