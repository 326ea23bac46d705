package shell

import (
	"strconv"
	"strings"
)

// mostNumber is how great the numbers of a line may be.
const mostNumber = 1 << 31

// mostMask is how great a number of eight bits may be.
const mostMask = 255

// given is what a line has after its first word: everything after the first
// space, and the numbers in it, if these are what the word takes.
type given struct {
	text    string
	numbers []int64
}

// takes reports whether a word can be followed by that. If more is false, not
// even a space follows it.
type takes func(rest string, more bool) (given, bool)

func nothing(_ string, more bool) (given, bool) {
	return given{}, !more
}

func anything(rest string, more bool) (given, bool) {
	return given{text: rest}, more
}

// bits are those of a crash.
func bits(rest string, _ bool) (given, bool) {
	return given{text: rest}, rest == none || rest != "" && strings.Trim(rest, "01") == ""
}

// numbers takes so many of them.
func numbers(count int) takes {
	return func(rest string, more bool) (given, bool) {
		g, ok := row(rest, more, number)
		return g, ok && len(g.numbers) == count
	}
}

// place is a sector, a bit, and eight bits.
func place(rest string, more bool) (given, bool) {
	g, ok := numbers(3)(rest, more)
	return g, ok && g.numbers[2] <= mostMask
}

// input is any numbers, also below 0.
func input(rest string, more bool) (given, bool) {
	return row(rest, more, signed)
}

// row reads all words as numbers.
func row(rest string, more bool, read func(word string) (int64, bool)) (given, bool) {
	g := given{text: rest}
	if !more {
		return g, true
	}
	for _, word := range strings.Split(rest, " ") {
		n, ok := read(word)
		if !ok {
			return given{}, false
		}
		g.numbers = append(g.numbers, n)
	}
	return g, true
}

// number: written again, it must be the same. That leaves no leading 0.
func number(word string) (int64, bool) {
	n, e := strconv.ParseInt(word, 10, 64)
	return n, e == nil && n >= 0 && n <= mostNumber && decimal(n) == word
}

func signed(word string) (int64, bool) {
	digits, below := strings.CutPrefix(word, "-")
	n, ok := number(digits)
	if below {
		n = -n
	}
	return n, ok
}
