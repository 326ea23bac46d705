package op

import (
	"strconv"
	"strings"

	"hourglass/api"
)

// words are those of the kinds. There is no kind 0.
var words = [...]string{
	RenameModule: "rename-module",
	RenameFunc:   "rename-func",
	RenameParam:  "rename-param",
	RenameLet:    "rename-let",
	MoveFunc:     "move-func",
	ExtractLet:   "extract-let",
	InlineLet:    "inline-let",
	ExtractFunc:  "extract-func",
	InlineCall:   "inline-call",
	AddModule:    "add-module",
	DropModule:   "drop-module",
	DropFunc:     "drop-func",
	FlipIf:       "flip-if",
	SwapParts:    "swap-parts",
}

// mostParts is how many parts a Text has at most: a word, A, B and a Name.
const mostParts = 4

func Word(kind byte) string {
	if int(kind) >= len(words) {
		return ""
	}
	return words[kind]
}

func kindOf(word string) byte {
	for kind, w := range words {
		if w == word {
			return byte(kind)
		}
	}
	return 0
}

func (o Op) Text() string {
	if !o.Right() {
		return ""
	}
	parts := []string{Word(o.Kind)}
	if hasA(o.Kind) {
		parts = append(parts, decimal(o.A))
	}
	if hasB(o.Kind) {
		parts = append(parts, decimal(o.B))
	}
	if hasName(o.Kind) {
		parts = append(parts, o.Name)
	}
	return strings.Join(parts, " ")
}

func decimal(id api.ID) string {
	return strconv.FormatUint(uint64(id), 10)
}

func Read(line string) (Op, api.Errno) {
	parts := strings.SplitN(line, " ", mostParts)
	next := func() string {
		if len(parts) == 0 {
			return ""
		}
		part := parts[0]
		parts = parts[1:]
		return part
	}
	o := Op{Kind: kindOf(next())}
	if hasA(o.Kind) {
		o.A = idOf(next())
	}
	if hasB(o.Kind) {
		o.B = idOf(next())
	}
	if hasName(o.Kind) {
		o.Name = next()
	}
	// Written again, it must be the same: that leaves no leading 0, and no
	// further part.
	if !o.Right() || o.Text() != line {
		return Op{}, api.ErrText
	}
	o.Name = strings.Clone(o.Name) // an operation that is kept must not keep the line
	return o, api.OK
}

// idOf returns 0, which is no node's, for what is not a number.
func idOf(part string) api.ID {
	n, e := strconv.ParseUint(part, 10, 64)
	if e != nil {
		return 0
	}
	return api.ID(n)
}
